/- Texts of this claim, joined: SgHist, SgSmall, SgNext, SyNew, SyRch, SyEdg, SgBeg0, SoPiv. -/
import Derived.Test.YthcpliinddjkhaaGreatDoorPart9
import Derived.Test.YthcpliinddjkhaaGreatDoorPart0
import Derived.Test.YthcpliinddjkhaaGreatDoorPart6
import Derived.Test.YthcpliinddjkhaaGreatDoorPart7
import Derived.BigRegion
import Derived.Deep.LoopGhost
import Derived.Test.YthcpliinddjkhaaGreatDoorPart8
import Derived.Test.YthcpliinddjkhaaGreatDoorPart4
import Derived.Deep.AppendLies
import Derived.Maps.AppendAt
namespace Go.Proofs.YthcpliinddjkhaaGreatDoor
namespace Sg
open Ro
def EvenI (n : Nat) (out : Nat -> List St) (O : Nat -> Nat) (H : Nat -> Int) : Prop := ∀ p q, p < n -> q < n -> O p = O q -> ∀ b k, into out (fun t => H t = k) b p -> into out (fun t => H t = k) b q
theorem take_evenI {n : Nat} {out : Nat -> List St} {O O' : Nat -> Nat} {H H' : Nat -> Int} (hf : Fits n out) {h0 own : Int} {B : Nat -> Prop}
 (hB : ∀ t, t < n -> B t -> H t = h0) (hH' : ∀ t, t < n -> (H' t = own ↔ B t)) (hO' : ∀ t, t < n -> ¬ B t -> H' t = H t) (hne : h0 ≠ own) (hnew : ∀ t, t < n -> H t ≠ own)
 (hE : EvenI n out O H \/ ∀ t, t < n -> B t) (hS : Split n (By out B fun t => H t = h0 /\ ¬ B t) O O') : EvenI n out O' H' := by
 intro p q hp hq e b k hk
 obtain ⟨e0, hX⟩ := (hS p q hp hq).1 e
 have hA : into out B b p ↔ into out B b q := hX _ ⟨b, .inl rfl⟩
 have hC : (into out B b p /\ ¬ into out (fun t => H t = h0 /\ ¬ B t) b p) ↔ (into out B b q /\ ¬ into out (fun t => H t = h0 /\ ¬ B t) b q) := hX _ ⟨b, .inr rfl⟩
 by_cases h1 : k = own
 ·subst h1
  exact (into_congr hf hH' hq).2 (hA.1 ((into_congr hf hH' hp).1 hk))
 ·rcases hE with hE | hall
  ·by_cases h2 : k = h0
   ·subst h2
    have key : ∀ t, t < n -> (H' t = k ↔ H t = k /\ ¬ B t) := fun t ht => by
     constructor
     ·intro h
      have hb : ¬ B t := fun hb => by have := (hH' t ht).2 hb; omega
      exact ⟨by rw [<- hO' t ht hb]; exact h, hb⟩
     ·rintro ⟨h, hb⟩
      rw [hO' t ht hb]; exact h
    rw [into_congr hf key hp] at hk
    rw [into_congr hf key hq]
    by_cases hb : into out B b p
    ·by_cases hz : into out (fun t => H t = k /\ ¬ B t) b q
     ·exact hz
     ·exact absurd hk (hC.2 ⟨hA.1 hb, hz⟩).2
    ·have hz : into out (fun t => H t = k) b p := by
      obtain ⟨z, h3, h4, h5⟩ := hk
      exact ⟨z, h3, h4, h5.1⟩
     obtain ⟨z, h3, h4, h5⟩ := hE p q hp hq e0 b k hz
     by_cases h6 : B z.2.toNat
     ·exact absurd (hA.2 ⟨z, h3, h4, h6⟩) hb
     ·exact ⟨z, h3, h4, h5, h6⟩
   ·have key : ∀ t, t < n -> (H' t = k ↔ H t = k) := fun t ht => by
     by_cases hb : B t
     ·have h3 := (hH' t ht).2 hb
      have h4 := hB t ht hb
      constructor <;> intro h <;> omega
     ·rw [hO' t ht hb]
    rw [into_congr hf key hp] at hk
    rw [into_congr hf key hq]
    exact hE p q hp hq e0 b k hk
  ·obtain ⟨z, h3, h4, h5⟩ := hk
   have ht : z.2.toNat < n := by have := hf p hp z h3; omega
   have := (hH' _ ht).2 (hall _ ht)
   exact absurd (h5.symm.trans this) h1
theorem take_coarseI {n : Nat} {out : Nat -> List St} {R : Nat} {O O' : Nat -> Nat} {H : Nat -> Int} (hn : n <= 1000) (hf : Fits n out) (hR : Last n out R) {B : Nat -> Prop} {h0 : Int} (hB : Sat n (rnd n out R) B) (hH : Sat n (rnd n out R) fun t => H t = h0) (hc : Coarse n (rnd n out R) O) (hS : Split n (By out B fun t => H t = h0 /\ ¬ B t) O O') : Coarse n (rnd n out R) O' := by
 refine hS.coarse hc ?_
 rintro X ⟨b, rfl | rfl⟩
 ·exact last_into hn hf hR hB b
 ·exact (last_into hn hf hR hB b).and (last_into hn hf hR (hH.and hB.not) b).not
theorem even_stableI {n : Nat} {out : Nat -> List St} {O : Nat -> Nat} {H : Nat -> Int} (hf : Fits n out) (hE : EvenI n out O H) (h1 : ∀ p q, p < n -> q < n -> (O p = O q ↔ H p = H q)) : Stable n out O := by
 intro p q hp hq e b B ⟨z, h2, h3, h4⟩
 have ht : z.2.toNat < n := by have := hf p hp z h2; omega
 obtain ⟨z', h5, h6, h7⟩ := hE p q hp hq e b (H z.2.toNat) ⟨z, h2, h3, rfl⟩
 have ht' : z'.2.toNat < n := by have := hf q hq z' h5; omega
 exact ⟨z', h5, h6, by rw [<- h4]; exact (h1 _ _ ht' ht).2 h7⟩
theorem nodup_sub {α : Type} [DecidableEq α] : ∀ (l m : List α), l.Nodup -> (∀ a ∈ l, a ∈ m) -> l.length <= m.length
 | [], _, _, _ => Nat.zero_le _
 | a :: r, m, hd, h => by
   obtain ⟨h1, h2⟩ := List.nodup_cons.1 hd
   have h3 := nodup_sub r (m.erase a) h2 fun b hb => by
    refine (List.mem_erase_of_ne ?_).2 (h b (List.mem_cons_of_mem _ hb))
    rintro rfl
    exact h1 hb
   have h4 := List.length_erase_of_mem (h a List.mem_cons_self)
   have h5 : 0 < m.length := List.length_pos_of_mem (h a List.mem_cons_self)
   rw [List.length_cons]
   omega
def memb (n : Nat) (O : Nat -> Nat) (bl : Nat) : List Int := ((List.range n).filter fun e => decide (O e = bl)).map fun e : Nat => (e : Int)
def bc (n : Nat) (O : Nat -> Nat) (bl : Nat) : Nat := (List.range n).countP fun e => decide (O e = bl)
inductive Hist (G : Gp) : List (List Int) -> (Nat -> Nat) -> (Nat -> Int) -> Nat -> Prop
 | nil : Hist G [] (fun _ => 0) (fun _ => 0) 1
 | step {tk : List (List Int)} {O O' : Nat -> Nat} {H H' : Nat -> Int} {h : Nat} (e0 : Nat) (hh : Hist G tk O H h) (he : e0 < G.n) (half : H e0 = 0 \/ 2 * bc G.n O (O e0) <= hc G.n H (H e0))
    (sp : Split G.n (By (outG G) (fun t => O t = O e0) fun t => H t = H e0 /\ ¬ O t = O e0) O O') (hp : ∀ e, e < G.n -> H' e = if O e = O e0 then (h : Int) else H e) : Hist G (tk ++ [memb G.n O (O e0)]) O' H' (h + 1)
structure HistI (G : Gp) (tk : List (List Int)) (O : Nat -> Nat) (H : Nat -> Int) (h : Nat) : Prop where
 len : h = tk.length + 1
 first : tk = [] -> (∀ e, e < G.n -> O e = 0 /\ H e = 0)
 rng : ∀ e, e < G.n -> (0 <= H e /\ H e < (h : Int)) /\ (tk ≠ [] -> 1 <= H e)
 fn : ∀ a b, a < G.n -> b < G.n -> O a = O b -> H a = H b
 full : ∀ o : Nat, 1 <= o -> o < h -> ∃ e, e < G.n /\ H e = (o : Int)
 one : tk ≠ [] -> 0 < G.n
theorem exists_not {n : Nat} {p q : Nat -> Bool} (h1 : (List.range n).countP p < (List.range n).countP q) : ∃ e, e < n /\ q e = true /\ p e = false := by
 refine Classical.byContradiction fun hn => ?_
 have h2 : (List.range n).countP q <= (List.range n).countP p := List.countP_mono_left fun e he hq => by
  cases hp : p e with
  | true => rfl
  | false => exact absurd ⟨e, List.mem_range.1 he, hq, hp⟩ hn
 omega
theorem Hist.inv {G : Gp} {tk : List (List Int)} {O : Nat -> Nat} {H : Nat -> Int} {h : Nat} (hh : Hist G tk O H h) : HistI G tk O H h := by
 induction hh with
 | nil => exact ⟨rfl, fun _ _ _ => ⟨rfl, rfl⟩, fun e _ => ⟨⟨by omega, by omega⟩, fun h => absurd rfl h⟩, fun _ _ _ _ _ => rfl, fun o h1 h2 => by omega, fun h => absurd rfl h⟩
 | @step tk O O' H H' h e0 hh he half sp hp ih =>
   have hpos : 0 < bc G.n O (O e0) := List.countP_pos_iff.2 ⟨e0, List.mem_range.2 he, decide_eq_true rfl⟩
   have hl := ih.len
   refine ⟨by rw [List.length_append, hl]; rfl, fun h => by simp at h, fun e hE => ?_, fun a b ha hb e => ?_, fun o h1 h2 => ?_, fun _ => by omega⟩
   ·rw [hp e hE]
    have h1 := ih.rng e hE
    by_cases h2 : O e = O e0
    ·rw [if_pos h2]
     exact ⟨⟨by omega, by omega⟩, fun _ => by omega⟩
    ·rw [if_neg h2]
     refine ⟨⟨h1.1.1, by omega⟩, fun _ => ?_⟩
     by_cases h3 : tk = []
     ·exact absurd ((ih.first h3 e hE).1.trans (ih.first h3 e0 he).1.symm) h2
     ·exact h1.2 h3
   ·have h1 := sp.finer ha hb e
    rw [hp a ha, hp b hb, h1, ih.fn a b ha hb h1]
   ·by_cases h3 : o = h
    ·exact ⟨e0, he, by rw [hp e0 he, if_pos rfl, h3]⟩
    ·obtain ⟨e, hE, h4⟩ := ih.full o h1 (by omega)
     by_cases h5 : O e = O e0
     ·have h6 : H e0 = (o : Int) := by rw [<- ih.fn e e0 hE he h5]; exact h4
      have h7 : 2 * bc G.n O (O e0) <= hc G.n H (H e0) := half.resolve_left (by omega)
      obtain ⟨e', h8, h9, h10⟩ := exists_not (n := G.n) (p := fun e => decide (O e = O e0)) (q := fun e => H e == H e0) (by unfold bc hc at h7; unfold bc at hpos; omega)
      refine ⟨e', h8, ?_⟩
      rw [hp e' h8, if_neg (of_decide_eq_false h10), <- h6]
      exact eq_of_beq h9
     ·exact ⟨e, hE, by rw [hp e hE, if_neg h5]; exact h4⟩
theorem Hist.heaps {G : Gp} {tk : List (List Int)} {O : Nat -> Nat} {H : Nat -> Int} {h : Nat} (hh : Hist G tk O H h) : h <= G.n + 1 := by
 have hi := hh.inv
 have h1 := nodup_sub ((List.range (h - 1)).map fun o : Nat => ((o + 1 : Nat) : Int)) ((List.range G.n).map H) (List.pairwise_map.2 (List.nodup_range.imp fun {a b} hne e => hne (by omega))) fun a ha => by
  obtain ⟨o, ho, rfl⟩ := List.mem_map.1 ha
  have h2 := List.mem_range.1 ho
  obtain ⟨e, h3, h4⟩ := hi.full (o + 1) (by omega) (by omega)
  exact List.mem_map.2 ⟨e, List.mem_range.2 h3, h4⟩
 rw [List.length_map, List.length_map, List.length_range, List.length_range] at h1
 omega
theorem outG_fits {G : Gp} (hr : Sy.right G.n (G.kk : Int) G.st G.es = true) : Fits G.n (outG G) := fun p hp z hz => by
 unfold outG Sy.rowOf at hz
 rw [if_pos ⟨by omega, by omega⟩] at hz
 have h2 := (right_parts hr).2.2.2.2.2 _ ((Sy.nf_mem _ _).1 (Sy.steps_mem.1 hz))
 simp only at h2
 exact ⟨h2.2.2.1, h2.2.2.2.1⟩
theorem Hist.coarse {G : Gp} {tk : List (List Int)} {O : Nat -> Nat} {H : Nat -> Int} {h : Nat} (hr : Sy.right G.n (G.kk : Int) G.st G.es = true) {R : Nat} (hR : Last G.n (outG G) R) (hh : Hist G tk O H h) : Coarse G.n (rnd G.n (outG G) R) O := by
 have hn : G.n <= 1000 := by have := (right_parts hr).1; omega
 induction hh with
 | nil => intro p q _ _ _; rfl
 | @step tk O O' H H' h e0 hh he half sp hp ih =>
   have hi := hh.inv
   refine take_coarseI hn (outG_fits hr) hR (ih.sat fun t => t = O e0) ?_ ih sp
   intro p q hp2 hq2 e hx
   show H q = H e0
   rw [<- hi.fn p q hp2 hq2 (ih p q hp2 hq2 e)]
   exact hx
theorem Hist.even {G : Gp} {tk : List (List Int)} {O : Nat -> Nat} {H : Nat -> Int} {h : Nat} (hr : Sy.right G.n (G.kk : Int) G.st G.es = true) (hh : Hist G tk O H h) (ht : tk ≠ []) : EvenI G.n (outG G) O H := by
 induction hh with
 | nil => exact absurd rfl ht
 | @step tk O O' H H' h e0 hh he half sp hp ih =>
   have hi := hh.inv
   have hne : ∀ t, t < G.n -> H t ≠ (h : Int) := fun t ht e => by have := (hi.rng t ht).1.2; omega
   refine take_evenI (outG_fits hr) (h0 := H e0) (own := (h : Int)) (B := fun t => O t = O e0) (H := H) (fun t ht hb => hi.fn t e0 ht he hb) (fun t ht => ?_) (fun t ht hb => by rw [hp t ht, if_neg hb]) (hne e0 he) hne ?_ sp
   ·rw [hp t ht]
    by_cases h2 : O t = O e0
    ·rw [if_pos h2]; exact ⟨fun _ => h2, fun _ => rfl⟩
    ·rw [if_neg h2]; exact ⟨fun e => absurd e (hne t ht), fun e => absurd e h2⟩
   ·by_cases h3 : tk = []
    ·exact .inr fun t ht => (hi.first h3 t ht).1.trans (hi.first h3 e0 he).1.symm
    ·exact .inl (ih h3)
theorem Hist.ends {G : Gp} {tk : List (List Int)} {O : Nat -> Nat} {H : Nat -> Int} {h : Nat} (hr : Sy.right G.n (G.kk : Int) G.st G.es = true) {R : Nat} (hR : Last G.n (outG G) R) (hh : Hist G tk O H h) (ht : tk ≠ []) (hd : ∀ a b, a < G.n -> b < G.n -> H a = H b -> O a = O b) : num ((List.range G.n).map O) = rnd G.n (outG G) R := by
 have hn : G.n <= 1000 := by have := (right_parts hr).1; omega
 have hi := hh.inv
 exact blocks_last hn (outG_fits hr) (even_stableI (outG_fits hr) (hh.even hr ht) fun p q hp hq => ⟨hi.fn p q hp hq, hd p q hp hq⟩) (hh.coarse hr hR)
end Sg
section
open Go.RowKit Go.Maps
attribute [local go_sem ↓] Go.wp_at_zero Go.wp_at_succ
set_option linter.unusedSimpArgs false in
set_option maxRecDepth 100000 in
set_option maxHeartbeats 4000000 in
theorem smaller_any (B r g p mb : Nat) (x : Rv) (a b : Nat) (y z : Int) (w : World) (hM : RnM w B r g p mb x) (ha : x.sz[a]? = some y) (hb : x.sz[b]? = some z) :
 Calls Tryz.prog 157 #[.pointer (some ⟨r, 0, none⟩), .int .i64 a, .int .i64 b] w fun e w' => e = .returned (.int .i64 ((if y <= z then a else b : Nat) : Int)) /\ Below w.heap.size w w' := by
 obtain ⟨_, _, _, _, c4, _, _⟩ := seven_cells hM.box
 have hal := (List.getElem?_eq_some_iff.1 ha).1
 have hbl := (List.getElem?_eq_some_iff.1 hb).1
 obtain ⟨gz, oz, cz, hvz, _, csa, _⟩ := (hM.q.q 1 (x.vz, x.sz) rfl).cell ha
 simp only at hvz
 have csb := (Que.cellAt (w := w) (B := B) (g := gz) (off := oz) (n := x.sz.length) (cap := cz) (by have h9 := hM.q.q 1 (x.vz, x.sz) rfl; rw [hvz] at h9; exact h9) hb).1
 obtain ⟨nz, hnz⟩ : ∃ nz, nz = x.sz.length := ⟨_, rfl⟩
 rw [hvz, <- hnz] at c4
 rw [<- hnz] at hal hbl
 have p0 : (0 : Int) <= (a : Int) := by omega
 have p1 : (a : Int) < (nz : Int) := by omega
 have p2 : (0 : Int) <= (b : Int) := by omega
 have p3 : (b : Int) < (nz : Int) := by omega
 obtain ⟨cv, hcv⟩ : ∃ cv, cv = cmpI y z := ⟨_, rfl⟩
 have hC := fun W => cmpI_any y z W
 rw [<- hcv] at hC
 obtain ⟨m, hm⟩ : ∃ m, m = (if y <= z then a else b : Nat) := ⟨_, rfl⟩
 rw [<- hm]
 have HC : Hid _ := And.intro hC (And.intro hcv hm)
 clear hM ha hb hvz hnz hC hcv hm
 go_enter Tryz.func157, Tryz.ntmps157
 go_upto_region 1 with fail
 refine wp_region_held_drew (S := (fun w' => w'.cell? ⟨r, 4, none⟩ = some (.slice (some ⟨gz, oz, none⟩) nz cz) /\ w'.cell? ⟨gz, oz + a, none⟩ = some (.int .i64 y) /\ w'.cell? ⟨gz, oz + b, none⟩ = some (.int .i64 z))) (by kernel_rfl) ?_ (fun hHeld => ?_)
 ·exact ⟨c4, csa, csb⟩
 refine tk8 0 rfl ?_; (try simp only [ty9, Act.put])
 refine tk8 1 rfl ?_; (try simp only [ty9, Act.put])
 refine tk8 2 rfl ?_; (try simp only [ty9, Act.put])
 refine tk8 3 rfl ?_; (try simp only [ty9, Act.put])
 refine tk8 4 rfl ?_; (try simp only [ty9, Act.put])
 refine tk8 5 rfl ?_; (try simp only [ty9, Act.put])
 refine tk8 6 rfl ?_; (try simp only [ty9, Act.put])
 refine tk8 7 rfl ?_; (try simp only [ty9, Act.put])
 refine tk8 8 rfl ?_; (try simp only [ty9, Act.put])
 refine tk8 9 rfl ?_; (try simp only [ty9, Act.put])
 refine tk8 10 rfl ?_; (try simp only [ty9, Act.put])
 refine tk8 11 rfl ?_; (try simp only [ty9, Act.put])
 refine tk8 12 rfl ?_; (try simp only [ty9, Act.put])
 refine tk8 13 rfl ?_; (try simp only [ty9, Act.put])
 refine wpAnyH_ready (rs := [14]) (by kernel_rfl) (by simp) ?_
 refine AllReadyH.cons (o := _) rfl (fun K hK => ?_) ?_
 ·(go_simp; go_at_call 178; refine Calls.mono (HC.out.1 _) ?_; rintro r1 w1 ⟨rfl, hw1⟩; obtain rfl := hw1.symm; clear hw1)
  (try go_wp2_with fail)
  refine hK.out _ _ ?_ (fun hHeld => ?_)
  ·exact hHeld
  clear hK K
  (try simp only [ty9, Act.put])
  refine wpAnyH_done (by kernel_rfl) ?_ _
  (try go_simp)
  clear hHeld
  by_cases h1 : y < z
  ·have q1 : cv = -1 := by rw [HC.out.2.1]; unfold cmpI; rw [if_pos h1]
   subst q1
   have HE : Hid (m = a) := (by rw [HC.out.2.2, if_pos (by omega)] : m = a)
   clear h1
   go_wp2_with fail
   go_ret
   exact ⟨by first | rfl | (rw [HE.out]; rfl), (Below.refl _ _).drew⟩
  ·by_cases h2 : z < y
   ·have q1 : cv = 1 := by rw [HC.out.2.1]; unfold cmpI; rw [if_neg h1, if_pos h2]
    subst q1
    have HE : Hid (m = b) := (by rw [HC.out.2.2, if_neg (by omega)] : m = b)
    clear h1 h2
    go_wp2_with fail
    go_ret
    exact ⟨by first | rfl | (rw [HE.out]; rfl), (Below.refl _ _).drew⟩
   ·have q1 : cv = 0 := by rw [HC.out.2.1]; unfold cmpI; rw [if_neg h1, if_neg h2]
    subst q1
    have HE : Hid (m = a) := (by rw [HC.out.2.2, if_pos (by omega)] : m = a)
    clear h1 h2
    go_wp2_with fail
    go_ret
    exact ⟨by first | rfl | (rw [HE.out]; rfl), (Below.refl _ _).drew⟩
 exact AllReadyH.nil
end
section
open Go.RowKit Go.Maps
attribute [local go_sem ↓] Go.wp_at_zero Go.wp_at_succ
def Rv.wait (x : Rv) (k : Nat) (u : Value) : Rv := { x with vw := u, wt := x.wt.drop k }
structure NextAt (w w' : World) (B r g p mb : Nat) (x : Rv) (k : Nat) (u : Value) : Prop where
 m : RnM w' B r g p mb (x.wait k u)
 gw : Grew w w' r x (x.wait k u)
 lo : k <= x.wt.length
 one : ∀ z ∈ x.wt.take k, ∃ (o : Nat) (h : Value × List Int), z = (o : Int) /\ x.H[o]? = some h /\ h.2.length <= 1
theorem NextAt.drew {w w' : World} {B r g p mb : Nat} {x : Rv} {k : Nat} {u : Value} (h : NextAt w w' B r g p mb x k u) : NextAt w w'.drew B r g p mb x k u := ⟨h.m.below ((Below.refl _ _).drew), h.gw.below ((Below.refl _ _).drew), h.lo, h.one⟩
theorem NextAt.below {w w' w2 : World} {B r g p mb : Nat} {x : Rv} {k : Nat} {u : Value} (h : NextAt w w' B r g p mb x k u) (hb : Below w'.heap.size w' w2) : NextAt w w2 B r g p mb x k u := ⟨h.m.below hb, h.gw.below hb, h.lo, h.one⟩
theorem NextAt.step {w w' : World} {B r g p mb : Nat} {x : Rv} {k o : Nat} {u u' : Value} {h : Value × List Int} (hN : NextAt w w' B r g p mb x k u) (hz : x.wt[k]? = some (o : Int)) (hH : x.H[o]? = some h) (h1 : h.2.length <= 1) (hq : Que w' B u' (x.wt.drop (k + 1))) (hat : u'.ownBlock = u.ownBlock) : NextAt w (w'.setCell ⟨r, 6, none⟩ u') B r g p mb x (k + 1) u' := by
 have hkl := (List.getElem?_eq_some_iff.1 hz)
 obtain ⟨hk1, _⟩ := List.getElem?_eq_some_iff.1 hz
 have hL : (x.wait k u).L[2]? = some (u, x.wt.drop k) := rfl
 refine ⟨hN.m.appW rfl (Kept.refl _ _) hq (.inl hat), hN.gw.trans ⟨appKept hL (Kept.refl _ _), fun b hb => foot_app (x := x.wait k u) (k := 2) hL (.inl hat) hb⟩, by omega, fun z hz2 => ?_⟩
 rw [List.take_succ_eq_append_getElem hkl.1] at hz2
 rcases List.mem_append.1 hz2 with h2 | h2
 ·exact hN.one z h2
 ·exact ⟨o, h, by rw [List.mem_singleton.1 h2, hkl.2], hH, h1⟩
set_option linter.unusedSimpArgs false in
set_option maxRecDepth 100000 in
set_option maxHeartbeats 4000000 in
theorem next_any (B r g p mb : Nat) (x : Rv) (w : World) (hM : RnM w B r g p mb x) (hw : ∀ z ∈ x.wt, ∃ o : Nat, z = (o : Int) /\ o < x.ks.length) (hbk : ∀ h ∈ x.H, ∀ b ∈ h.2, ∃ c : Nat, b = (c : Int) /\ c < x.sz.length) :
 Calls Tryz.prog 139 #[.pointer (some ⟨r, 0, none⟩)] w fun e w' => ∃ k u, NextAt w w' B r g p mb x k u /\ ((k = x.wt.length /\ e = .returned (.tuple #[.int .i64 0, .bool false])) \/ ∃ (o a b : Nat) (v : Value) (bs : List Int) (y z : Int), x.wt[k]? = some (o : Int) /\ x.H[o]? = some (v, (a : Int) :: (b : Int) :: bs) /\ x.sz[a]? = some y /\ x.sz[b]? = some z /\ e = .returned (.tuple #[.int .i64 ((if y <= z then a else b : Nat) : Int), .bool true])) := by
 obtain ⟨N, hN⟩ : ∃ N, N = x.wt.length := ⟨_, rfl⟩
 have h0 : NextAt w w B r g p mb x 0 x.vw := ⟨hM, Grew.refl _ _ _, Nat.zero_le _, fun z hz => by simp at hz⟩
 rw [<- hN]
 have H : Hid _ := And.intro h0 (And.intro hw (And.intro hbk hN))
 clear hM hw hbk h0 hN
 go_enter Tryz.func139, Tryz.ntmps139
 go_wp2_with fail
 go_loopg [] N (fun z wr => ∃ (k : Nat) (u : Value), z = N - k /\ NextAt w wr B r g p mb x k u)
 case atStart => exact ⟨0, x.vw, rfl, H.out.1⟩
 case round =>
  obtain ⟨k, u, rfl, hA⟩ := hrel
  have hlo := hA.lo
  rw [<- H.out.2.2.2] at hlo
  obtain ⟨_, _, c2, _, _, _, c6⟩ := seven_cells hA.m.box
  have hQ : Que wr B u (x.wt.drop k) := hA.m.q.q 2 (u, x.wt.drop k) rfl
  obtain ⟨ua, uc, hu, huc⟩ := hQ.shape
  by_cases hlt : k < N
  ·obtain ⟨z, hz⟩ : ∃ z, x.wt[k]? = some z := ⟨x.wt[k]'(by have := H.out.2.2.2; omega), List.getElem?_eq_getElem _⟩
   obtain ⟨o, rfl, hol⟩ := H.out.2.1 z (List.mem_of_getElem? hz)
   obtain ⟨⟨v, bs⟩, hH⟩ : ∃ hv, x.H[o]? = some hv := ⟨x.H[o]'(by have h9 : x.H.length = x.ks.length := hA.m.len; omega), List.getElem?_eq_getElem _⟩
   obtain ⟨kk, hks⟩ : ∃ kk, x.ks[o]? = some kk := ⟨x.ks[o]'hol, List.getElem?_eq_getElem _⟩
   obtain ⟨gh, ch, hvh⟩ := hA.m.hform (show 0 < x.ks.length by omega)
   obtain ⟨d0, _, _⟩ := hA.m.hcell hvh hH hks
   obtain ⟨nk, hnk⟩ : ∃ nk, nk = x.ks.length := ⟨_, rfl⟩
   have c2' : wr.cell? ⟨r, 2, none⟩ = some (.slice (some ⟨gh, 0, none⟩) nk ch) := by rw [c2, hvh, hnk]; rfl
   have hQv : Que wr B v bs := hA.m.q.q (o + 3) (v, bs) (show x.H[o]? = _ from hH)
   have hd : x.wt.drop k = (o : Int) :: x.wt.drop (k + 1) := by obtain ⟨h8, h9⟩ := List.getElem?_eq_some_iff.1 hz; rw [List.drop_eq_getElem_cons h8, h9]
   obtain ⟨nu, hnu⟩ : ∃ nu, nu = (x.wt.drop (k + 1)).length := ⟨_, rfl⟩
   rw [hd, List.length_cons, <- hnu] at hu huc
   rw [hu, hd] at hQ
   obtain ⟨gw, ow, hua, hfl, cw, hq1, hq0⟩ := hQ.first
   clear hfl
   subst hua
   have c6' : wr.cell? ⟨r, 6, none⟩ = some (.slice (some ⟨gw, ow, none⟩) (nu + 1) uc) := by rw [<- hu]; exact c6
   obtain ⟨va, vc, hve, _⟩ := hQv.shape
   obtain ⟨nb, hnb⟩ : ∃ nb, nb = bs.length := ⟨_, rfl⟩
   rw [<- hnb] at hve
   rw [hve] at d0
   have p0 : (0 : Int) <= (o : Int) := by omega
   have p1 : (o : Int) < (nk : Int) := by omega
   have p2 : (0 : Int) < ((nu + 1 : Nat) : Int) := by omega
   have hbx := hA.m.box
   have bf := blk_free hbx 6
   have HA : Hid _ := And.intro hA (And.intro hu (And.intro hz (And.intro hH (And.intro hnu (And.intro hq1 (And.intro hq0 (And.intro hQv (And.intro hve (And.intro hnb hbx)))))))))
   clear c6 c2 hA hQ hu hd hz hH hks hvh hnk hnu hq1 hq0 hQv hve hnb hbx hol
   go_upto_region 2 with fail
   refine wp_region_held_drew (S := (fun w' => (w'.cell? ⟨r, 2, none⟩ = some (.slice (some ⟨gh, 0, none⟩) nk ch) /\ w'.cell? ⟨r, 6, none⟩ = some (.slice (some ⟨gw, ow, none⟩) (nu + 1) uc)) /\ w'.cell? ⟨gw, ow, none⟩ = some (.int .i64 o) /\ w'.cell? ⟨gh, o * 2, none⟩ = some (.slice va nb vc))) (by kernel_rfl) ?_ (fun hHeld => ?_)
   ·exact ⟨⟨c2', c6'⟩, cw, d0⟩
   refine tk8 0 rfl ?_; (try simp only [ty9, Act.put])
   refine tk8 1 rfl ?_; (try simp only [ty9, Act.put])
   refine tk8 2 rfl ?_; (try simp only [ty9, Act.put])
   refine tk8 3 rfl ?_; (try simp only [ty9, Act.put])
   refine tk8 4 rfl ?_; (try simp only [ty9, Act.put])
   refine tk8 5 rfl ?_; (try simp only [ty9, Act.put])
   refine tk8 6 rfl ?_; (try simp only [ty9, Act.put])
   refine tk8 7 rfl ?_; (try simp only [ty9, Act.put])
   refine tk8 8 rfl ?_; (try simp only [ty9, Act.put])
   refine tk8 9 rfl ?_; (try simp only [ty9, Act.put])
   refine tk8 10 rfl ?_; (try simp only [ty9, Act.put])
   refine tk8 11 rfl ?_; (try simp only [ty9, Act.put])
   refine tk8 12 rfl ?_; (try simp only [ty9, Act.put])
   refine tk8 13 rfl ?_; (try simp only [ty9, Act.put])
   refine wpAnyH_done (by kernel_rfl) ?_ _
   (try go_simp)
   clear hHeld
   by_cases hb2 : 1 < nb
   ·obtain ⟨a', b', rest, hbs⟩ : ∃ a b rest, bs = a :: b :: rest := by
     have h9 := HA.out.2.2.2.2.2.2.2.2.2.1
     match bs, h9 with
     | [], h9 => simp at h9; omega
     | [_], h9 => simp at h9; omega
     | a :: b :: l, _ => exact ⟨a, b, l, rfl⟩
    obtain ⟨a, rfl, hal⟩ := H.out.2.2.1 (v, bs) (List.mem_of_getElem? HA.out.2.2.2.1) a' (by rw [hbs]; simp)
    obtain ⟨b, rfl, hbl⟩ := H.out.2.2.1 (v, bs) (List.mem_of_getElem? HA.out.2.2.2.1) b' (by rw [hbs]; simp)
    obtain ⟨y, hy⟩ : ∃ y, x.sz[a]? = some y := ⟨x.sz[a]'hal, List.getElem?_eq_getElem _⟩
    obtain ⟨z, hz2⟩ : ∃ z, x.sz[b]? = some z := ⟨x.sz[b]'hbl, List.getElem?_eq_getElem _⟩
    obtain ⟨gv, ov, cv, hve2, _, e0, _⟩ := HA.out.2.2.2.2.2.2.2.1.cell (i := 0) (show bs[0]? = some (a : Int) by rw [hbs]; rfl)
    have hvv := HA.out.2.2.2.2.2.2.2.2.1.symm.trans hve2
    injection hvv with hva hvl hvc
    subst hva
    have e1 := (Que.cellAt (w := wr) (B := B) (g := gv) (off := ov) (n := bs.length) (cap := cv) (by rw [<- hve2]; exact HA.out.2.2.2.2.2.2.2.1) (show bs[1]? = some (b : Int) by rw [hbs]; rfl)).1
    rw [Nat.add_zero] at e0
    obtain ⟨m, hm⟩ : ∃ m, m = (if y <= z then a else b : Nat) := ⟨_, rfl⟩
    have hS := fun W (hb : Below wr.heap.size wr W) => smaller_any B r g p mb (x.wait k u) a b y z W (HA.out.1.m.below hb) hy hz2
    rw [<- hm] at hS
    have q1 : (1 : Int) < (nb : Int) := by omega
    have q2 : (0 : Int) < (nb : Int) := by omega
    have q3 : 0 < nb := by omega
    have HS : Hid _ := And.intro hS (And.intro hy (And.intro hz2 (And.intro hm hbs)))
    clear hS hy hz2 hm hbs hve2 hvl hvc hal hbl
    go_upto_region 4 with fail
    refine wp_region_held_drew (S := (fun w' => w'.cell? ⟨gv, ov, none⟩ = some (.int .i64 a) /\ w'.cell? ⟨gv, ov + 1, none⟩ = some (.int .i64 b))) (by kernel_rfl) ?_ (fun hHeld => ?_)
    ·exact ⟨e0, e1⟩
    refine tk8 0 rfl ?_; (try simp only [ty9, Act.put])
    refine tk8 1 rfl ?_; (try simp only [ty9, Act.put])
    refine tk8 2 rfl ?_; (try simp only [ty9, Act.put])
    refine tk8 3 rfl ?_; (try simp only [ty9, Act.put])
    refine tk8 4 rfl ?_; (try simp only [ty9, Act.put])
    refine tk8 5 rfl ?_; (try simp only [ty9, Act.put])
    refine tk8 6 rfl ?_; (try simp only [ty9, Act.put])
    refine wpAnyH_ready (rs := [7]) (by kernel_rfl) (by simp) ?_
    refine AllReadyH.cons (o := _) rfl (fun K hK => ?_) ?_
    ·(go_simp; go_at_call 157; refine Calls.mono (HS.out.1 _ ((Below.refl _ wr).drew.drew)) ?_; rintro r1 w5 ⟨rfl, hb5⟩; have H5 : Hid _ := And.intro ((Below.refl _ wr).drew.drew.trans (hb5.mono (Nat.le_refl _))) trivial; clear hb5)
     (try go_wp2_with fail)
     refine hK.out _ _ ?_ (fun hHeld => ?_)
     ·exact ⟨sg_cell e0 H5.out.1, sg_cell e1 H5.out.1⟩
     clear hK K
     (try simp only [ty9, Act.put])
     refine tk8 8 rfl ?_; (try simp only [ty9, Act.put])
     refine tk8 9 rfl ?_; (try simp only [ty9, Act.put])
     refine wpAnyH_done (by kernel_rfl) ?_ _
     (try go_simp)
     clear hHeld
     go_wp2_with fail
     go_ret2
     refine ⟨k, u, HA.out.1.below H5.out.1, .inr ⟨o, a, b, v, rest, y, z, HA.out.2.2.1, ?_, HS.out.2.1, HS.out.2.2.1, ?_⟩⟩
     ·rw [HA.out.2.2.2.1, HS.out.2.2.2.2]
     ·rw [<- HS.out.2.2.2.1]; rfl
    exact AllReadyH.nil
   ·have q1 : ¬ (1 : Int) < (nb : Int) := by omega
    by_cases hc : uc = 1
    ·have hn0 : nu = 0 := by rw [HA.out.2.2.2.2.1, (HA.out.2.2.2.2.2.2.1 (by omega)).1]; rfl
     subst hc
     subst hn0
     go_wp2_with fail
     go_roundg (N - (k + 1))
     case measure => omega
     case rel => exact ⟨k + 1, _, rfl, (HA.out.1.step HA.out.2.2.1 HA.out.2.2.2.1 (by have := HA.out.2.2.2.2.2.2.2.2.2.1; simp only; omega) (by rw [(HA.out.2.2.2.2.2.2.1 (by first | trivial | rfl)).1]; exact (HA.out.2.2.2.2.2.2.1 (by first | trivial | rfl)).2) (by rw [HA.out.2.1]; rfl)).drew⟩
    ·have hc0 : 0 < uc - 1 := by omega
     go_wp2_with fail
     go_roundg (N - (k + 1))
     case measure => omega
     case rel => exact ⟨k + 1, _, rfl, (HA.out.1.step HA.out.2.2.1 HA.out.2.2.2.1 (by have := HA.out.2.2.2.2.2.2.2.2.2.1; simp only; omega) (by have h9 := HA.out.2.2.2.2.2.1 hc0; rw [<- HA.out.2.2.2.2.1] at h9; exact h9) (by rw [HA.out.2.1]; rfl)).drew⟩
  ·obtain rfl : k = N := by omega
   have hl0 : (x.wt.drop k).length = 0 := by rw [List.length_drop, <- H.out.2.2.2]; omega
   rw [hl0] at hu
   have HA : Hid _ := And.intro hA hu
   have c6' : wr.cell? ⟨r, 6, none⟩ = some (.slice ua 0 uc) := by rw [<- hu]; exact c6
   clear c6 c2 hA hQ hu huc
   go_wp2_with fail
   go_ret2
   exact ⟨k, u, HA.out.1, .inl ⟨rfl, rfl⟩⟩
end
section
open Go.RowKit Go.Maps
attribute [local go_sem ↓] Go.wp_at_zero Go.wp_at_succ
theorem inOrder_turn {es os : List Sy.Ed} (h : InOrder Sy.turn (Sy.nf es) os) : os.map Sy.turn = Sy.nf ((Sy.nf es).map Sy.turn) := by
 refine Sy.nf_of ?_ fun x => ?_
 ·have hnd : os.Nodup := by
   rw [h.1.nodup_iff]
   have hs := Sy.nf_str es
   generalize Sy.nf es = l at hs
   induction l with
   | nil => exact List.nodup_nil
   | cons a r ih =>
     refine List.nodup_cons.2 ⟨fun ha => ?_, ih hs.tail⟩
     have h1 := hs.head a ha
     rw [Sy.lt_irrefl] at h1
     cases h1
  have hp := h.2
  clear h
  induction os with
  | nil => trivial
  | cons a r ih =>
    obtain ⟨h1, h2⟩ := List.pairwise_cons.1 hp
    obtain ⟨h3, h4⟩ := List.nodup_cons.1 hnd
    rw [List.map_cons]
    refine Sy.Str.cons (ih h4 h2) fun x hx => ?_
    obtain ⟨b, hb, rfl⟩ := List.mem_map.1 hx
    have h5 := h1 b hb
    cases h6 : Sy.lt (Sy.turn a) (Sy.turn b) with
    | true => rfl
    | false =>
      have h7 := congrArg Sy.turn (Sy.eq_of_not h6 h5)
      rw [turn_turn, turn_turn] at h7
      rw [h7] at h3
      exact absurd hb h3
 ·rw [List.mem_map, List.mem_map]
  constructor
  ·rintro ⟨a, ha, rfl⟩; exact ⟨a, h.1.mem_iff.1 ha, rfl⟩
  ·rintro ⟨a, ha, rfl⟩; exact ⟨a, h.1.mem_iff.2 ha, rfl⟩
theorem rg_up4' {w2 wa wb : World} {a0 a1 a2 a3 : Addr} {x0 x1 x2 x3 : Value} (h : (wa.cell? a0 = some x0 /\ wa.cell? a1 = some x1 /\ wa.cell? a2 = some x2 /\ wa.cell? a3 = some x3) /\ Hid (Below w2.heap.size w2 wa)) (hb : Below wa.heap.size wa wb) : (wb.cell? a0 = some x0 /\ wb.cell? a1 = some x1 /\ wb.cell? a2 = some x2 /\ wb.cell? a3 = some x3) /\ Hid (Below w2.heap.size w2 wb) := rg_up4 hb h
def NewAt (a : Addr) (n k s : Int) (es : List Sy.Ed) (w : World) (r : Ending) (w' : World) : Prop :=
 if Sy.right n k s es = true then ∃ (g bs bb cs cb m : Nat), n = (m : Int) /\ r = .returned (.tuple #[.pointer (some ⟨g, 0, none⟩), .nilIface]) /\ Gr w' w.heap.size g bs bb cs cb m k s es /\ Below w.heap.size w w'
 else ∃ x, r = .returned (.tuple #[.pointer none, x]) /\ Chain w' 0 0 a [sysB] x /\ Below w.heap.size w w'
set_option maxRecDepth 100000 in
set_option maxHeartbeats 8000000 in
theorem new_any {M : Nat} (hS : SortOk M) (n k s : Int) (v : Value) (es : List Sy.Ed) (a : Addr) (w : World) (hA : Sent w 11 a) (hv : BEdges.Has w v es) (hM : es.length <= M) (hm : es.length <= 100000) :
 Calls Tryz.prog 154 #[sysV n k s v] w (NewAt a n k s es w) := by
 obtain ⟨w1, hw1⟩ : ∃ w1, w1 = w.alloc (.cells #[.int .i64 n, .int .i64 k, .int .i64 s, v] 24) := ⟨_, rfl⟩
 have hb1 : Below w.heap.size w w1 := by rw [hw1]; exact (Below.refl _ _).alloc (Nat.le_refl _) _
 have hg1 : w1.heap[w.heap.size]? = some (.cells #[.int .i64 n, .int .i64 k, .int .i64 s, v] 24 (0, 0)) := by rw [hw1]; exact heap_alloc_new w _
 have hN := normal_any hS n k s v es a w1 (hA.below hb1) (hv.below hb1) hM (by omega)
 obtain ⟨ao, cap, rfl, _⟩ := hv
 obtain ⟨m0, hm0⟩ : ∃ m0, m0 = es.length := ⟨_, rfl⟩
 rw [<- hm0] at hN hg1 hw1 ⊢
 unfold sysV at hN ⊢
 have H1 : Hid _ := And.intro hN (And.intro hb1 (And.intro hg1 (And.intro hw1 hS)))
 have HM : Hid _ := And.intro hM hm
 cases hq : Sy.right n k s es with
 | false =>
   rw [hq] at H1
   unfold NewAt
   rw [hq]
   clear hN hb1 hg1 hw1 hS hA hq hm0 hM hm
   go_enter Tryz.func154, Tryz.ntmps154
   go_wp2_with fail
   rw [<- H1.out.2.2.2.1]
   refine Calls.mono H1.out.1 ?_
   rintro r w2 ⟨x, u, rfl, hx, _, hb2⟩
   have hch : Chain w2 0 0 a [sysB] x := by simpa [SErr] using hx
   obtain ⟨T, y, rfl⟩ := hch.iface
   have hg2 := (hb2.block _ (t_lt H1.out.2.2.1)).trans H1.out.2.2.1
   obtain ⟨y0, y1, y2, y3⟩ := four_cells hg2
   have z0 := blk_free hg2 0
   have z1 := blk_free hg2 1
   have z2 := blk_free hg2 2
   have z3 := blk_free hg2 3
   have hbw := H1.out.2.1.trans (hb2.mono H1.out.2.1.size)
   have H2 : Hid _ := And.intro hch (And.intro hbw hg2)
   clear hb2 hg2 hbw hch hx
   go_wp2_with fail
   have hbf := four_below H2.out.2.1 (b := w.heap.size) (Nat.le_refl _) (.int .i64 0) (.int .i64 0) (.int .i64 0) (.slice none 0 0)
   have hcf := chain_st4 H2.out.1 H2.out.2.2 (.int .i64 0) (.int .i64 0) (.int .i64 0) (.slice none 0 0)
   unfold st4 at hcf
   go_ret2
   exact ⟨_, rfl, hcf, hbf⟩
 | true =>
   rw [hq] at H1
   have hrp := right_parts hq
   obtain ⟨q, rfl⟩ : ∃ q : Nat, n = (q : Int) := ⟨n.toNat, by omega⟩
   have HQ : Hid _ := And.intro hq hrp
   unfold NewAt
   rw [hq]
   clear hN hb1 hg1 hw1 hS hA hq hm0 hM hm hrp
   go_enter Tryz.func154, Tryz.ntmps154
   go_wp2_with fail
   rw [<- H1.out.2.2.2.1]
   refine Calls.mono H1.out.1 ?_
   rintro r w2 ⟨x, u, rfl, hx, hO, hb2⟩
   have hO := hO trivial
   obtain rfl : x = .nilIface := by simpa [SErr] using hx
   obtain ⟨au, cu, rfl⟩ := row_shape hO
   have hg2 := (hb2.block _ (t_lt H1.out.2.2.1)).trans H1.out.2.2.1
   obtain ⟨y0, y1, y2, y3⟩ := four_cells hg2
   have z0 := blk_free hg2 0
   have z1 := blk_free hg2 1
   have z2 := blk_free hg2 2
   have z3 := blk_free hg2 3
   have hbw := H1.out.2.1.trans (hb2.mono H1.out.2.1.size)
   obtain ⟨L, hL⟩ : ∃ L, L = (Sy.nf es).length := ⟨_, rfl⟩
   obtain ⟨w3, hw3⟩ : ∃ w3, w3 = (((w2.setCell ⟨w.heap.size, 0, none⟩ (.int .i64 q)).setCell ⟨w.heap.size, 1, none⟩ (.int .i64 k)).setCell ⟨w.heap.size, 2, none⟩ (.int .i64 s)).setCell ⟨w.heap.size, 3, none⟩ (.slice au L cu) := ⟨_, rfl⟩
   rw [<- hL]
   have hg3 : w3.heap[w.heap.size]? = some (.cells #[.int .i64 q, .int .i64 k, .int .i64 s, .slice au L cu] 24 (0, 0)) := by rw [hw3]; exact four_set hg2
   have hb3 : Below w.heap.size w w3 := by rw [hw3]; exact four_below hbw (Nat.le_refl _) _ _ _ _
   have hO3 : BEdges.Own w3 w.heap.size (.slice au (Sy.nf es).length cu) (Sy.nf es) := by
    rw [hw3]
    refine row_base (trow_at hO fun b hb => ?_) H1.out.2.1.size
    have n1 : b ≠ w.heap.size := fun e => own_bk hO hg2 (by decide) (e ▸ hb)
    rw [set_other _ _ _ _ _ n1, set_other _ _ _ _ _ n1, set_other _ _ _ _ _ n1, set_other _ _ _ _ _ n1]
   have H3 : Hid _ := And.intro hb3 (And.intro hO3 (And.intro hg3 (And.intro hw3 hL)))
   clear hO hb2 hg2 hbw hx hg3 hb3 hO3 hw3 hL
   have hle : L <= 10000 := by have := HQ.out.2.2.2.1; have := Sy.nf_len es; have := H3.out.2.2.2.2; omega
   have hqn : q <= 1000 := by have := HQ.out.2.1; omega
   have hnr : ∀ e ∈ Sy.nf es, 0 <= e.1 /\ e.1 < (q : Int) /\ 0 <= e.2.2 /\ e.2.2 < (q : Int) := fun e he => by
    have := HQ.out.2.2.2.2.2.2 e ((Sy.nf_mem es e).1 he)
    exact ⟨this.1, this.2.1, this.2.2.1, this.2.2.2.1⟩
   have hTf : ∀ W, Below w3.heap.size w3 W -> Calls Tryz.prog 171 #[.int .i64 q, .slice au L cu, .func (.func 172) #[] #[]] W fun r w' => ∃ bs bb, r = .returned (.agg #[.slice (some ⟨bs, 0, none⟩) L L, .slice (some ⟨bb, 0, none⟩) (q + 1) (q + 1)]) /\ Tb w' w.heap.size bs bb q (Sy.nf es) /\ Below W.heap.size W w' := fun W hb => by
    have hLL := H3.out.2.2.2.2
    have hOW : BEdges.Has W (.slice au (Sy.nf es).length cu) (Sy.nf es) := H3.out.2.1.has.below hb
    have h9 := tableOf_any _ _ forward_at q (.slice au (Sy.nf es).length cu) (Sy.nf es) W (by omega) (by omega) hOW (by rw [List.map_id']; exact fun e he => ⟨(hnr e he).1, (hnr e he).2.1⟩) (by rw [List.map_id']; exact nf_rows es)
    rw [List.map_id'] at h9
    rw [<- hLL] at h9
    refine h9.mono fun r w' ⟨bs, bb, hr, h1, h2⟩ => ⟨bs, bb, hr, ⟨(Blk.of_arr h1).base ?_, (Blk.of_arr h2).base ?_⟩, h1.bl⟩
    ·have := H3.out.1.size; have := hb.size; omega
    ·have := H3.out.1.size; have := hb.size; omega
   have hOr : ∀ W, Below w3.heap.size w3 W -> Calls Tryz.prog 173 #[.slice au L cu, .func (.func 174) #[] #[]] W fun r w' => ∃ u os, r = .returned u /\ InOrder Sy.turn (Sy.nf es) os /\ BEdges.Own w' W.heap.size u os /\ Below W.heap.size W w' := fun W hb => by
    have hLL := H3.out.2.2.2.2
    have hOW : BEdges.Has W (.slice au (Sy.nf es).length cu) (Sy.nf es) := H3.out.2.1.has.below hb
    have h9 := ordered_any H1.out.2.2.2.2 _ _ backward_at (.slice au (Sy.nf es).length cu) (Sy.nf es) W (by have := Sy.nf_len es; have := HM.out.1; omega) (by omega) hOW
    rw [<- hLL] at h9
    exact h9
   have hTb : ∀ W u os B, Below w3.heap.size w3 W -> InOrder Sy.turn (Sy.nf es) os -> BEdges.Own W B u os -> Calls Tryz.prog 171 #[.int .i64 q, u, .func (.func 174) #[] #[]] W fun r w' => ∃ bs bb, r = .returned (.agg #[.slice (some ⟨bs, 0, none⟩) L L, .slice (some ⟨bb, 0, none⟩) (q + 1) (q + 1)]) /\ Tb w' w.heap.size bs bb q (Sy.nf ((Sy.nf es).map Sy.turn)) /\ Below W.heap.size W w' := fun W u os B hb hI hO => by
    have hLL := H3.out.2.2.2.2
    have hlo := hI.1.length_eq
    have het := inOrder_turn hI
    have h9 := tableOf_any _ _ backward_at q u os W (by omega) (by omega) hO.has (by
     rw [het]
     intro e he
     rw [Sy.nf_mem] at he
     obtain ⟨x, hx, rfl⟩ := List.mem_map.1 he
     exact ⟨(hnr x hx).2.2.1, (hnr x hx).2.2.2⟩) (by rw [het]; exact nf_rows _)
    rw [het, hlo, <- hLL] at h9
    refine h9.mono fun r w' ⟨bs, bb, hr, h1, h2⟩ => ⟨bs, bb, hr, ⟨(Blk.of_arr h1).base ?_, (Blk.of_arr h2).base ?_⟩, h1.bl⟩
    ·have := H3.out.1.size; have := hb.size; omega
    ·have := H3.out.1.size; have := hb.size; omega
   have HT : Hid _ := And.intro hTf (And.intro hOr hTb)
   clear hTf hOr hTb hnr
   go_upto_region 4 with fail
   rw [<- H3.out.2.2.2.1]
   clear y0 y1 y2 y3 z0 z1 z2 z3
   obtain ⟨x0, x1, x2, x3⟩ := four_cells H3.out.2.2.1
   go_region_held3 (fun w' => (w'.cell? ⟨w.heap.size, 0, none⟩ = some (.int .i64 q) /\ w'.cell? ⟨w.heap.size, 1, none⟩ = some (.int .i64 k) /\ w'.cell? ⟨w.heap.size, 2, none⟩ = some (.int .i64 s) /\ w'.cell? ⟨w.heap.size, 3, none⟩ = some (.slice au L cu)) /\ Hid (Below w3.heap.size w3 w')) (first | exact rg_up4' (by assumption) hba | exact rg_up4' (by assumption) hbb | exact rg_up4' (by assumption) hbc | exact rg_up4' (by assumption) ((Below.refl _ _).alloc (Nat.le_refl _) _) | exact ⟨⟨x0, x1, x2, x3⟩, ((Below.refl _ _).drew : Below w3.heap.size w3 w3.drew)⟩ | go_keep)
    ((first
      | (go_at_call_of 171 (Value.slice au L cu); refine (HT.out.1 _ (rg_b (by assumption))).mono ?_; rintro r wa ⟨bs, bb, rfl, hTa, hba⟩)
      | (go_at_call 173; refine (HT.out.2.1 _ (rg_b (by assumption))).mono ?_; rintro r wb ⟨u5, os, rfl, hIo, hOb, hbb⟩)
      | (go_at_call_of 171 u5; refine (HT.out.2.2 _ _ os _ (rg_b (by assumption)) hIo (by first | exact hOb | exact trow_at hOb fun b hb => hba.block _ (hOb.lt b hb).2)).mono ?_; rintro r wc ⟨cs, cb, rfl, hTc, hbc⟩)
      | fail))
   have hal : Below wc.heap.size wc (wc.alloc (.cells #[.int .i64 q, .int .i64 k, .int .i64 s, .slice (some ⟨bs, 0, none⟩) L L, .slice (some ⟨bb, 0, none⟩) (q + 1) (q + 1), .slice (some ⟨cs, 0, none⟩) L L, .slice (some ⟨cb, 0, none⟩) (q + 1) (q + 1)] 247)) := (Below.refl _ _).alloc (Nat.le_refl _) _
   have hbx := heap_alloc_new wc (.cells #[.int .i64 q, .int .i64 k, .int .i64 s, .slice (some ⟨bs, 0, none⟩) L L, .slice (some ⟨bb, 0, none⟩) (q + 1) (q + 1), .slice (some ⟨cs, 0, none⟩) L L, .slice (some ⟨cb, 0, none⟩) (q + 1) (q + 1)] 247)
   have hba' := below_of_drew3 hba
   have hsz : w.heap.size <= wc.heap.size := by have := H3.out.1.size; have := hba'.size; have := hbb.size; have := hbc.size; omega
   have hbw : Below w.heap.size w (wc.alloc (.cells #[.int .i64 q, .int .i64 k, .int .i64 s, .slice (some ⟨bs, 0, none⟩) L L, .slice (some ⟨bb, 0, none⟩) (q + 1) (q + 1), .slice (some ⟨cs, 0, none⟩) L L, .slice (some ⟨cb, 0, none⟩) (q + 1) (q + 1)] 247)) :=
    (((H3.out.1.trans (hba'.mono H3.out.1.size)).trans (hbb.mono (by have := H3.out.1.size; have := hba'.size; omega))).trans (hbc.mono (by have := H3.out.1.size; have := hba'.size; have := hbb.size; omega))).trans (hal.mono hsz)
   have hGr : Gr (wc.alloc (.cells #[.int .i64 q, .int .i64 k, .int .i64 s, .slice (some ⟨bs, 0, none⟩) L L, .slice (some ⟨bb, 0, none⟩) (q + 1) (q + 1), .slice (some ⟨cs, 0, none⟩) L L, .slice (some ⟨cb, 0, none⟩) (q + 1) (q + 1)] 247)) w.heap.size wc.heap.size bs bb cs cb q k s es :=
    ⟨by rw [<- H3.out.2.2.2.2]; exact hbx, hsz, ((hTa.below hbb).below hbc).below hal, hTc.below hal, HQ.out.1⟩
   have HF : Hid _ := And.intro hGr hbw
   clear hal hbx hba' hbw hGr hba hbb hbc hTa hTc hOb hIo x0 x1 x2 x3
   rename_i hS9
   clear hS9
   go_wp2_with fail
   go_ret2
   exact ⟨_, _, _, _, _, q, rfl, rfl, HF.out.1, HF.out.2⟩
theorem new_ok {M : Nat} (hS : SortOk M) (n k s : Int) (v : Value) (es : List Sy.Ed) (a : Addr) (w : World) (hA : Sent w 11 a) (hv : BEdges.Has w v es) (hM : es.length <= M) (hm : es.length <= 100000) (hq : Sy.right n k s es = true) :
 Calls Tryz.prog 154 #[sysV n k s v] w fun r w' => ∃ (g bs bb cs cb m : Nat), n = (m : Int) /\ r = .returned (.tuple #[.pointer (some ⟨g, 0, none⟩), .nilIface]) /\ Gr w' w.heap.size g bs bb cs cb m k s es /\ Below w.heap.size w w' :=
 (new_any hS n k s v es a w hA hv hM hm).mono fun r w' h => by unfold NewAt at h; rw [if_pos hq] at h; exact h
end
section
open Go.RowKit Go.Maps
attribute [local go_sem ↓] Go.wp_at_zero Go.wp_at_succ
def Sy.degTo (l : List Sy.Ed) : Nat -> Nat
 | 0 => 0
 | st + 1 => max (Sy.degTo l st) (Sy.steps l (st : Int)).length
theorem rowOf_in {n q : Nat} (l : List Sy.Ed) (h : q < n) : Sy.rowOf n l (q : Int) = Sy.steps l q := by
 unfold Sy.rowOf
 rw [if_pos ⟨by omega, by omega⟩]
def Sy.marked (bs : List Bool) : List Int := ((List.range bs.length).filter fun p => bs[p]? == some true).map fun (p : Nat) => (p : Int)
structure RpAt (w wr : World) (gi : Nat) (u : Value) (zs : List Int) (bs : List Bool) : Prop where
 inn : Arr 4 w wr gi (bC bs)
 lst : OwnI wr w.heap.size u zs
end
section
open Go.RowKit Go.Maps
attribute [local go_sem ↓] Go.wp_at_zero Go.wp_at_succ
def Sy.es1 (st : Int) (zs : List BSteps.El) : List Sy.Ed := zs.map fun x => (st, x.1, x.2)
theorem Sy.es1_steps (l : List Sy.Ed) (st : Int) : Sy.es1 st (Sy.steps l st) = l.filter fun e => e.1 == st := by
 unfold Sy.es1 Sy.steps
 rw [List.map_map]
 have h : ∀ e ∈ l.filter (fun e => e.1 == st), ((fun x : BSteps.El => (st, x.1, x.2)) ∘ fun e : Sy.Ed => (e.2.1, e.2.2)) e = e := fun e he => by
  have := (List.mem_filter.1 he).2
  simp at this
  obtain ⟨a, b, c⟩ := e
  simp at this
  simp [this]
 rw [List.map_congr_left h]
 simp
theorem Sy.take_row {l : List Sy.Ed} (h : Sy.Rows l) (st : Int) : l.take (Sy.cnt l st) ++ Sy.es1 st (Sy.steps l st) = l.take (Sy.cnt l (st + 1)) := by
 rw [Sy.es1_steps, Sy.row_piece h st]
 have h1 := Sy.cnt_mono l st
 conv => rhs; rw [show Sy.cnt l (st + 1) = Sy.cnt l st + (Sy.cnt l (st + 1) - Sy.cnt l st) by omega, List.take_add]
theorem Sy.es1_snoc {st : Int} {zs : List BSteps.El} {k : Nat} {x : BSteps.El} (h : zs[k]? = some x) : Sy.es1 st (zs.take (k + 1)) = Sy.es1 st (zs.take k) ++ [(st, x.1, x.2)] := by
 rw [take_succ_of h]
 simp [Sy.es1]
theorem Sy.es1_len (st : Int) (zs : List BSteps.El) : (Sy.es1 st zs).length = zs.length := by simp [Sy.es1]
theorem Sy.take_all {n k s : Int} {es : List Sy.Ed} (h : Sy.right n k s es = true) : (Sy.nf es).take (Sy.cnt (Sy.nf es) n) = Sy.nf es := by
 rw [Sy.cnt_all fun e he => ((right_parts h).2.2.2.2.2 e ((Sy.nf_mem es e).1 he)).2.1, List.take_length]
theorem Sy.take_none {n k s : Int} {es : List Sy.Ed} (h : Sy.right n k s es = true) : (Sy.nf es).take (Sy.cnt (Sy.nf es) 0) = [] := by
 rw [Sy.cnt_none fun e he => by have := ((right_parts h).2.2.2.2.2 e ((Sy.nf_mem es e).1 he)).1; omega]
 rfl
set_option maxRecDepth 100000 in
set_option maxHeartbeats 8000000 in
theorem edges_any {B g bs bb cs cb n : Nat} {k s : Int} {es : List Sy.Ed} (w : World) (h : Gr w B g bs bb cs cb n k s es) : Calls Tryz.prog 156 #[.pointer (some ⟨g, 0, none⟩)] w fun r w' => ∃ u, r = .returned u /\ BEdges.Own w' w.heap.size u (Sy.nf es) /\ Below w.heap.size w w' := by
 obtain ⟨i0, hi0, hz0, hz1, hz2⟩ := info_parts BEdges.Tryz.infoE
 have hSt := states_any w h
 have hs := h.sizes
 have HG : Hid _ := And.intro h (And.intro hSt hs)
 have hn : n <= 1000 := hs.1
 obtain ⟨l, hl⟩ : ∃ l, l = Sy.nf es := ⟨_, rfl⟩
 have HL : Hid (l = Sy.nf es /\ Sy.Rows l /\ l.take (Sy.cnt l 0) = [] /\ l.take (Sy.cnt l n) = l) := (by rw [hl]; exact ⟨rfl, nf_rows es, Sy.take_none h.right, Sy.take_all h.right⟩ : l = Sy.nf es /\ Sy.Rows l /\ l.take (Sy.cnt l 0) = [] /\ l.take (Sy.cnt l n) = l)
 rw [<- hl]
 clear h hSt hs hl
 go_enter Tryz.func156, Tryz.ntmps156
 go_wp2_with (go_at_call 176; refine Calls.mono HG.out.2.1 ?_; rintro r w1 ⟨rfl, hw⟩; obtain rfl := hw.symm)
 go_loopg [3, 9] n (fun q uv iv wr => ∃ st : Nat, q = n - st /\ st <= n /\ iv = .int .i64 st /\ BEdges.Own wr w.heap.size uv (l.take (Sy.cnt l (st : Int))) /\ Below w.heap.size w wr)
 case atStart => exact ⟨0, rfl, Nat.zero_le _, rfl, by show BEdges.Own w w.heap.size _ (l.take (Sy.cnt l 0)); rw [HL.out.2.2.1]; exact World.ownsRow_nil _ _ _ _, Below.refl _ _⟩
 case round =>
  obtain ⟨st, rfl, hst, rfl, hO, hb⟩ := hrel
  obtain ⟨wq, rfl⟩ : ∃ wq, wq = wr := ⟨_, rfl⟩
  by_cases hlt : st < n
  ·have hG := HG.out.1.below hb
   obtain ⟨_, _, _, ⟨c0, c1⟩, _, _⟩ := hG.cells
   have hR := hG.row (st : Int)
   have hT := hG.out
   obtain ⟨L, hL⟩ : ∃ L, L = (Sy.nf es).length := ⟨_, rfl⟩
   have hl1 := Sy.steps_len (Sy.nf es) (st : Int)
   have hsz := HG.out.2.2.2
   rw [rowOf_in _ hlt] at hR
   have HR : Hid _ := And.intro hR (And.intro hb (And.intro hO (And.intro hL hT)))
   rw [<- hL] at HR c0 hsz hl1
   have r1 : (st : Int) < (n : Int) := by omega
   clear hG hR hb hL hT hO
   go_wp2_with fail
   refine Calls.mono HR.out.1 ?_
   rintro r w1 ⟨v, rfl, hv, hb1⟩
   obtain ⟨av, cv, rfl, _⟩ := hv wq HR.out.2.2.2.2
   obtain ⟨M, hM⟩ : ∃ M, M = (Sy.steps (Sy.nf es) (st : Int)).length := ⟨_, rfl⟩
   rw [<- hM]
   rw [<- hM] at hv hl1
   have H1 : Hid _ := And.intro hv (And.intro hb1 hM)
   clear hv hb1 hM c0 c1
   go_wp2_with fail
   go_loopg [3, 19] M (fun q uv kv wr => ∃ k2 : Nat, q = M - k2 /\ k2 <= M /\ kv = .int .i64 k2 /\ BEdges.Own wr w.heap.size uv (l.take (Sy.cnt l (st : Int)) ++ Sy.es1 st ((Sy.steps l st).take k2)) /\ Below w.heap.size w wr)
   case atStart =>
    refine ⟨0, rfl, Nat.zero_le _, rfl, ?_, HR.out.2.1.trans (H1.out.2.1.mono HR.out.2.1.size)⟩
    have h1 : l.take (Sy.cnt l (st : Int)) ++ Sy.es1 st ((Sy.steps l st).take 0) = l.take (Sy.cnt l (st : Int)) := by simp [Sy.es1]
    rw [h1]
    exact trow_at HR.out.2.2.1 fun b hb => H1.out.2.1.block b (HR.out.2.2.1.lt b hb).2
   case round =>
    obtain ⟨k2, rfl, hk, rfl, hO, hb⟩ := hrel
    obtain ⟨ys, hys⟩ : ∃ ys, ys = l.take (Sy.cnt l (st : Int)) ++ Sy.es1 st ((Sy.steps l st).take k2) := ⟨_, rfl⟩
    rw [<- hys] at hO
    obtain ⟨au, cu, hu⟩ := row_shape hO
    obtain ⟨N, hN⟩ : ∃ N, N = ys.length := ⟨_, rfl⟩
    rw [<- hN] at hu
    subst hu
    have hys1 : N <= 100000 := by
     have h2 := List.length_take_le (Sy.cnt l (st : Int)) l
     have h3 := Sy.cnt_le l (st : Int)
     have h4 := List.length_take_le k2 (Sy.steps l st)
     have h5 := HG.out.2.2.2
     rw [<- HL.out.1] at h5
     rw [hN, hys, List.length_append, Sy.es1_len]
     omega
    by_cases hkm : k2 < M
    ·obtain ⟨x, hx⟩ : ∃ x, (Sy.steps l st)[k2]? = some x := ⟨(Sy.steps l st)[k2]'(by have := H1.out.2.2; rw [<- HL.out.1] at this; omega), List.getElem?_eq_getElem _⟩
     have hx' := hx
     rw [HL.out.1] at hx'
     obtain ⟨a, rfl, d0, d1⟩ := step_at (H1.out.1 wr (HG.out.1.out.below hb)) hx'
     have hs1 := Sy.es1_snoc (st := (st : Int)) hx
     obtain ⟨x1, x2⟩ := x
     simp only at d0 d1 hs1
     obtain ⟨wb, hwb⟩ : ∃ wb, wb = wr.alloc (.cells #[.int .i64 x1, .int .i64 x2] 77) := ⟨_, rfl⟩
     have hbb : Below wr.heap.size wr wb := by rw [hwb]; exact (Below.refl _ _).alloc (Nat.le_refl _) _
     have hgb : wb.heap[wr.heap.size]? = some (.cells #[.int .i64 x1, .int .i64 x2] 77 (0, 0)) := by rw [hwb]; exact heap_alloc_new wr _
     have f0 : wb.cell? ⟨wr.heap.size, 0, none⟩ = some (.int .i64 x1) := cell0_of hgb rfl
     have f1 : wb.cell? ⟨wr.heap.size, 1, none⟩ = some (.int .i64 x2) := cell0_of hgb rfl
     have hOb : BEdges.Own wb w.heap.size (.slice au N cu) ys := trow_at hO fun b hb => hbb.block b (hO.lt b hb).2
     have hOz : wb.ownsRow w.heap.size 70 3 (.slice au N cu) N (BEdges.C ys) := by have h1 := hOb; unfold BEdges.Own at h1; rw [<- hN] at h1; exact h1
     have hbw : Below w.heap.size w wb := hb.trans (hbb.mono hb.size)
     have hle : w.heap.size <= (wb.alloc (.cells #[.int .i64 st, .int .i64 x1, .int .i64 x2] 70)).heap.size := by have := hbw.size; simp; omega
     have hml : N + 1 <= maxLen := by unfold maxLen; omega
     have hby : (N + 1) * 24 <= 140737488355328 := by omega
     have k0 : (0 : Int) <= (k2 : Int) := by omega
     have k1 : (k2 : Int) < (M : Int) := by omega
     have HZ : Hid _ := And.intro hOz (And.intro hbw (And.intro hwb (And.intro hys (And.intro hs1 hN))))
     clear hO hOb hOz hbw hwb hbb hgb hys hs1 hN hx hx' hb
     go_upto_region 8 with fail
     rw [<- HZ.out.2.2.1]
     go_wp2_with (at_builtin; refine wpList_append_own_at _ rfl _ _ 22 rfl w.heap.size 70 i0 (.agg #[.int .i64 0, .int .i64 0, .int .i64 0]) 3 24 Tryz.underlying22 hi0 hz0 hz1 hz2 rfl (by decide) (.slice au N cu) N (BEdges.C ys) rfl (HZ.out.1.alloc _) ⟨wb.heap.size, 0, none⟩ 1 1 [.int .i64 st, .int .i64 x1, .int .i64 x2] rfl rfl (World.news_of_block (cs := #[.int .i64 st, .int .i64 x1, .int .i64 x2]) (t := 70) (fr := (0, 0)) (heap_alloc_new wb _)) (by simp [Value.oneCell']) hml hby hle ?_; intro v5 w5 hO5 hg5 hnil5 hat5; have H2 : Hid _ := And.intro hO5 hg5; clear hO5 hg5 hnil5 hat5)
     go_roundg (M - (k2 + 1))
     case measure => omega
     case rel =>
      refine ⟨k2 + 1, rfl, by omega, by go_num, ?_, ?_⟩
      ·rw [HZ.out.2.2.2.2.1, <- List.append_assoc, <- HZ.out.2.2.2.1]
       unfold BEdges.Own
       rw [BEdges.C_snoc, List.length_append, <- HZ.out.2.2.2.2.2]
       exact H2.out.1
      ·exact HZ.out.2.1.trans ((grown_alloc H2.out.2).below HZ.out.2.1.size fun b hb => (HZ.out.1.lt b hb).1)
    ·obtain rfl : k2 = M := by omega
     have k1 : ¬ (k2 : Int) < (k2 : Int) := by omega
     have hfull : ys = l.take (Sy.cnt l ((st : Int) + 1)) := by
      have ht : (Sy.steps l st).take k2 = Sy.steps l st := List.take_of_length_le (by have := H1.out.2.2; rw [<- HL.out.1] at this; omega)
      rw [hys, ht]
      exact Sy.take_row HL.out.2.1 st
     have HJ : Hid _ := And.intro hO (And.intro hfull (And.intro hb hN))
     clear hO hfull hb hN hys
     go_wp2_with fail
     go_roundg (n - (st + 1))
     case measure => omega
     case rel =>
      refine ⟨st + 1, rfl, by omega, by go_num, ?_, HJ.out.2.2.1⟩
      rw [show (((st + 1 : Nat) : Int)) = (st : Int) + 1 by omega, <- HJ.out.2.1]
      exact HJ.out.1
  ·obtain rfl : st = n := by omega
   have r1 : ¬ (st : Int) < (st : Int) := by omega
   rw [HL.out.2.2.2] at hO
   have HJ : Hid _ := And.intro hO hb
   obtain ⟨au, cu, hu⟩ := row_shape hO
   obtain ⟨N, hN⟩ : ∃ N, N = l.length := ⟨_, rfl⟩
   rw [<- hN] at hu
   subst hu
   clear hO hb hN
   go_wp2_with fail
   go_ret
   exact ⟨_, rfl, HJ.out.1, HJ.out.2⟩
end
section
open Go.RowKit Go.Maps
def Rv.first (gh b0 b1 b2 m : Nat) : Rv := ⟨.slice (some ⟨gh, 0, none⟩) 1 1, .slice (some ⟨b1, 0, none⟩) 1 1, .slice (some ⟨b2, 0, none⟩) 1 1, .slice none 0 0, [0], [(m : Int)], [], [(.slice (some ⟨b0, 0, none⟩) 1 1, [0])], [m]⟩
def Rv.bare0 (gh : Nat) : Rv := ⟨.slice (some ⟨gh, 0, none⟩) 1 1, .slice none 0 0, .slice none 0 0, .slice none 0 0, [], [], [], [(.slice none 0 0, [])], [0]⟩
theorem RnM.first {w : World} {B r g p mb gh b0 b1 b2 m : Nat} (hbox : w.heap[r]? = some (.cells #[.pointer (some ⟨g, 0, none⟩), .pointer (some ⟨p, 0, none⟩), .slice (some ⟨gh, 0, none⟩) 1 1, .slice (some ⟨b1, 0, none⟩) 1 1, .slice (some ⟨b2, 0, none⟩) 1 1, .map (some mb), .slice none 0 0] 203 (0, 0))) (hgh : w.heap[gh]? = some (.cells #[.slice (some ⟨b0, 0, none⟩) 1 1, .int .i64 (m : Int)] 221 (0, 0))) (h0 : w.heap[b0]? = some (.cells #[.int .i64 0] 3 (0, 0))) (h1 : w.heap[b1]? = some (.cells #[.int .i64 0] 3 (0, 0))) (h2 : w.heap[b2]? = some (.cells #[.int .i64 (m : Int)] 3 (0, 0))) (hB : B <= r /\ B <= gh /\ B <= b0 /\ B <= b1 /\ B <= b2) (hd : b0 ≠ b1 /\ b0 ≠ b2 /\ b1 ≠ b2) : RnM w B r g p mb (Rv.first gh b0 b1 b2 m) := by
 refine ⟨hbox, ⟨rfl, .inr ⟨gh, 1, _, rfl, hB.2.1, hgh, Nat.le_refl _, by unfold maxLen; omega, rfl, rfl⟩⟩, rfl, ⟨fun i z hz => ?_, fun i j z y b hz hy hne hb => ?_⟩, hB.1, fun z hz => ?_⟩
 ·have q0 := Que.one hB.2.2.1 h0
  have q1 := Que.one hB.2.2.2.1 h1
  have q2 := Que.one hB.2.2.2.2 h2
  match i, hz with
  | 0, hz => cases hz; exact q1
  | 1, hz => cases hz; exact q2
  | 2, hz => cases hz; exact Que.nil _ _
  | 3, hz => cases hz; exact q0
  | i + 4, hz => simp [Rv.L, Rv.first] at hz
 ·have key : ∀ (i : Nat) (z : Value × List Int) (b : Nat), (Rv.first gh b0 b1 b2 m).L[i]? = some z -> z.1.ownBlock = some b -> (i = 0 /\ b = b1) \/ (i = 1 /\ b = b2) \/ (i = 3 /\ b = b0) := fun i z b hz hb => by
   match i, hz with
   | 0, hz => cases hz; cases hb; exact .inl ⟨rfl, rfl⟩
   | 1, hz => cases hz; cases hb; exact .inr (.inl ⟨rfl, rfl⟩)
   | 2, hz => cases hz; cases hb
   | 3, hz => cases hz; cases hb; exact .inr (.inr ⟨rfl, rfl⟩)
   | i + 4, hz => simp [Rv.L, Rv.first] at hz
  intro hy2
  have k1 := key i z b hz hb
  have k2 := key j y b hy hy2
  omega
 ·rw [List.mem_singleton.1 hz]; exact at0_of _ _ _
theorem RnM.bare0 {w : World} {B r g p mb gh : Nat} (hbox : w.heap[r]? = some (.cells #[.pointer (some ⟨g, 0, none⟩), .pointer (some ⟨p, 0, none⟩), .slice (some ⟨gh, 0, none⟩) 1 1, .slice none 0 0, .slice none 0 0, .map (some mb), .slice none 0 0] 203 (0, 0))) (hgh : w.heap[gh]? = some (.cells #[.slice none 0 0, .int .i64 0] 221 (0, 0))) (hB : B <= r /\ B <= gh) : RnM w B r g p mb (Rv.bare0 gh) := by
 have key : ∀ (i : Nat) (z : Value × List Int), (Rv.bare0 gh).L[i]? = some z -> z = (.slice none 0 0, []) := fun i z hz => by
  match i, hz with
  | 0, hz => cases hz; rfl
  | 1, hz => cases hz; rfl
  | 2, hz => cases hz; rfl
  | 3, hz => cases hz; rfl
  | i + 4, hz => simp [Rv.L, Rv.bare0] at hz
 refine ⟨hbox, ⟨rfl, .inr ⟨gh, 1, _, rfl, hB.2, hgh, Nat.le_refl _, by unfold maxLen; omega, rfl, rfl⟩⟩, rfl, ⟨fun i z hz => ?_, fun i j z y b hz hy hne hb => ?_⟩, hB.1, fun z hz => ?_⟩
 ·rw [key i z hz]; exact Que.nil _ _
 ·rw [key i z hz] at hb; cases hb
 ·rw [List.mem_singleton.1 hz]; exact at0_nil _ _
theorem new_mem (m : Nat) : ((Pst.new m).mem 0).length = m := by
 rw [mem_count]
 have h : (List.range (Pst.new m).n).countP (fun e => decide ((Pst.new m).O e = 0)) = (List.range m).length := by
  rw [show (Pst.new m).n = m from rfl]
  exact List.countP_eq_length.2 fun e _ => rfl
 rw [h, List.length_range]
theorem RunI.first {gh b0 b1 b2 m : Nat} (hm : m ≠ 0) : RunI (Pst.new m) (Rv.first gh b0 b1 b2 m) := by
 have hnb : (Pst.new m).nb = 1 := if_neg hm
 have hH : ∀ (o : Nat) (bs : List Int), ((Rv.first gh b0 b1 b2 m).H.map (·.2))[o]? = some bs -> o = 0 /\ bs = [0] := fun o bs h => by
  match o, h with
  | 0, h => cases h; exact ⟨rfl, rfl⟩
  | o + 1, h => simp [Rv.first] at h
 refine ⟨hnb.symm, hnb.symm, fun b hb => ?_, fun b hb => ?_, fun o bs h => ?_, fun o bs h z => ?_, fun o bs h hl => ?_, by rw [hnb]; exact Nat.zero_le _, fun z hz => ?_, rfl⟩
 ·have e : b = 0 := by omega
  rw [e, new_mem]; rfl
 ·have e : b = 0 := by omega
  rw [e]; exact ⟨0, rfl, Nat.zero_lt_one⟩
 ·rw [(hH o bs h).2]; simp
 ·obtain ⟨rfl, rfl⟩ := hH o bs h
  rw [hnb, List.mem_singleton]
  constructor
  ·rintro rfl; exact ⟨0, rfl, Nat.zero_lt_one, rfl⟩
  ·rintro ⟨b, rfl, h1, _⟩; omega
 ·obtain ⟨_, rfl⟩ := hH o bs h
  simp at hl
 ·simp [Rv.first] at hz
theorem RunI.bare0 {gh : Nat} : RunI (Pst.new 0) (Rv.bare0 gh) := by
 have hH : ∀ (o : Nat) (bs : List Int), ((Rv.bare0 gh).H.map (·.2))[o]? = some bs -> o = 0 /\ bs = [] := fun o bs h => by
  match o, h with
  | 0, h => cases h; exact ⟨rfl, rfl⟩
  | o + 1, h => simp [Rv.bare0] at h
 refine ⟨rfl, rfl, fun b hb => absurd hb (Nat.not_lt_zero _), fun b hb => absurd hb (Nat.not_lt_zero _), fun o bs h => ?_, fun o bs h z => ?_, fun o bs h hl => ?_, Nat.le_refl _, fun z hz => ?_, rfl⟩
 ·rw [(hH o bs h).2]; simp
 ·obtain ⟨rfl, rfl⟩ := hH o bs h
  constructor
  ·intro h; simp at h
  ·rintro ⟨b, rfl, h1, _⟩; exact absurd h1 (Nat.not_lt_zero _)
 ·obtain ⟨_, rfl⟩ := hH o bs h
  simp at hl
 ·simp [Rv.bare0] at hz
def Rv.Zero (x : Rv) (m : Nat) : Prop := (∀ b, x.of b = 0) /\ x.ks = [m]
theorem Rv.first_zero (gh b0 b1 b2 m : Nat) : (Rv.first gh b0 b1 b2 m).Zero m := ⟨fun b => by match b with | 0 => rfl | b + 1 => rfl, rfl⟩
theorem Rv.bare0_zero (gh : Nat) : (Rv.bare0 gh).Zero 0 := ⟨fun _ => rfl, rfl⟩
def Sg.cnt0 (l : List Sy.Ed) (p b h : Int) : Int := if h = 0 then ((l.countP fun e => e.2.1 == b && e.1 == p : Nat) : Int) else 0
theorem Sg.cnt0_snoc (l : List Sy.Ed) (e : Sy.Ed) (p b h : Int) : Sg.cnt0 (l ++ [e]) p b h = updC (Sg.cnt0 l) e.1 e.2.1 0 (Sg.cnt0 l e.1 e.2.1 0 + 1) p b h := by
 unfold updC Sg.cnt0
 rw [List.countP_append, List.countP_cons, List.countP_nil]
 by_cases h1 : p = e.1 /\ b = e.2.1 /\ h = 0
 ·obtain ⟨rfl, rfl, rfl⟩ := h1
  simp
 ·rw [if_neg h1]
  by_cases h2 : h = 0
  ·rw [if_pos h2, if_pos h2]
   have h3 : (e.2.1 == b && e.1 == p) = false := by
    cases h4 : (e.2.1 == b && e.1 == p) with
    | false => rfl
    | true =>
      simp only [Bool.and_eq_true, beq_iff_eq] at h4
      exact absurd ⟨h4.2.symm, h4.1.symm, h2⟩ h1
   rw [h3]; simp
  ·rw [if_neg h2, if_neg h2]
theorem Sg.cnt0_all {G : Gp} {s : Pst} {x : Rv} {m : Nat} (hx : x.Zero m) (p b h : Int) : Sg.cnt0 (Sy.nf G.es) p b h = Sg.cf (Sg.tn G.es) (hOf s x) p b h := by
 unfold Sg.cnt0 Sg.cf
 by_cases h1 : h = 0
 ·rw [if_pos h1, h1]
  congr 1
  rw [<- Sg.cn_all]
  refine Sg.cn_congr (fun e _ => ?_) p b
  unfold hOf
  rw [hx.1]; rfl
 ·rw [if_neg h1]
  rw [Sg.cn_zero (fun e _ => ?_)]
  ·rfl
  ·unfold hOf
   rw [hx.1]
   simp; exact fun e => h1 e.symm
theorem Sg.cnt0_le (l : List Sy.Ed) (p b h : Int) : 0 <= Sg.cnt0 l p b h /\ Sg.cnt0 l p b h <= (l.length : Int) := by
 unfold Sg.cnt0
 have := List.countP_le_length (p := fun e : Sy.Ed => e.2.1 == b && e.1 == p) (l := l)
 split <;> omega
theorem new_bare (m : Nat) : (Pst.new m).bare := fun _ _ => rfl
theorem run_first {w0 w : World} {r g p mb nm m : Nat} {G : Gp} {x : Rv} {c : Nat -> Int} (hM : RnM w w0.heap.size r g p mb x) (hP : Pt w0 w p c) (hL : Lay c (Pst.new m)) (hm : m <= 1000) (hI : RunI (Pst.new m) x) (hx : x.Zero m) (hG : G.at w0 g) (hn : m = G.n) (hmu : w0.heap.size <= mb) (hC : Cnt w mb nm (Sg.cnt0 (Sy.nf G.es))) : RunAt w0 w r g p mb nm G (Pst.new m) x := by
 refine ⟨hM, ⟨c, hP, hL⟩, Pst.new_ok hm, new_bare m, hn, hI, hG, hmu, hC.congr fun p b q => Sg.cnt0_all hx p b q, fun o k hk => ?_⟩
 rw [hx.2] at hk
 have h1 := (List.getElem?_eq_some_iff.1 hk).1
 simp only [List.length_cons, List.length_nil] at h1
 have e : o = 0 := by omega
 rw [e] at hk ⊢
 have h2 : m = k := Option.some.inj hk
 rw [<- h2, hn]
 unfold hc hOf
 rw [List.countP_eq_length.2 (fun e _ => by rw [hx.1]; rfl), List.length_range]
end
section
open Go.RowKit Go.Maps
attribute [local go_sem ↓] Go.wp_at_zero Go.wp_at_succ
structure CnE (w0 wr : World) (g : Nat) (d : Array Sy.Ed) (rest : List Value) (c s : Nat) : Prop where
 row : RowE w0 wr g d rest
 cell : wr.heap[c]? = some (.cells #[.int .i64 s] 3 (0, 0))
 up : w0.heap.size <= c
theorem CnE.below {w0 wr w' : World} {g : Nat} {d : Array Sy.Ed} {rest : List Value} {c s : Nat} (h : CnE w0 wr g d rest c s) (hb : Below wr.heap.size wr w') : CnE w0 w' g d rest c s := ⟨h.row.below hb, (hb.block _ (t_lt h.cell)).trans h.cell, h.up⟩
theorem CnE.bump {w0 wr : World} {g : Nat} {d : Array Sy.Ed} {rest : List Value} {c s : Nat} (h : CnE w0 wr g d rest c s) (t : Nat) : CnE w0 (wr.setCell ⟨c, 0, none⟩ (.int .i64 t)) g d rest c t := by
 have hne : c ≠ g := fun e => by
  obtain ⟨cs, hc, _⟩ := h.row.ids
  have h1 := h.cell
  rw [e, hc] at h1
  injection h1 with h1
  injection h1 with _ h1
  exact absurd h1 (by decide)
 exact ⟨Arr.kept h.row (Kept.setCell _ _ _ _) fun b e => by subst e; exact ⟨h.up, hne⟩, heap_setCell_same _ _ 0 _ _ _ h.cell, h.up⟩
set_option maxRecDepth 100000 in
set_option maxHeartbeats 4000000 in
theorem order2_any (f : Nat) (vw : Sy.Ed -> Sy.Ed) (hV : ViewAt f vw) (g cap a b c0 s : Nat) (d : Array Sy.Ed) (rest : List Value) (w0 w : World) (hR : CnE w0 w g d rest c0 s) (ha : a < d.size) (hb : b < d.size) (hs : s <= 1000000) :
 Calls Tryz.prog 241 #[.slice (some ⟨g, 0, none⟩) d.size cap, .int .i64 a, .int .i64 b, .pointer (some ⟨c0, 0, none⟩), cmpV f] w fun r w' => r = .returned (.tuple #[.int .i64 (Sort.order2 (ltV vw) d a b s).1, .int .i64 (Sort.order2 (ltV vw) d a b s).2.1]) /\ CnE w0 w' g d rest c0 (Sort.order2 (ltV vw) d a b s).2.2 := by
 obtain ⟨n, hn⟩ : ∃ n, n = d.size := ⟨_, rfl⟩
 have HR : Hid _ := And.intro hR (And.intro hn hV)
 rw [<- hn] at ha hb ⊢
 unfold cmpV Sort.order2
 have he := enter_cmp
 obtain ⟨x0, x1, x2⟩ := hR.row.cells (j := b) (by omega)
 obtain ⟨y0, y1, y2⟩ := hR.row.cells (j := a) (by omega)
 have hcm := fun W => compare_any f vw HR.out.2.2 (d[b]!) (d[a]!) W
 unfold edV at hcm
 have hlt2 := cmpV_neg vw (d[b]!) (d[a]!)
 obtain ⟨xe, hxe⟩ : ∃ xe, xe = d[b]! := ⟨_, rfl⟩
 obtain ⟨ye, hye⟩ : ∃ ye, ye = d[a]! := ⟨_, rfl⟩
 rw [<- hxe] at x0 x1 x2 hcm hlt2
 rw [<- hye] at y0 y1 y2 hcm hlt2
 have HE : Hid _ := And.intro hxe hye
 clear hxe hye
 obtain ⟨xa, xb, xc⟩ := xe
 obtain ⟨ya, yb, yc⟩ := ye
 generalize cmpE (vw (xa, xb, xc)) (vw (ya, yb, yc)) = c at hcm hlt2
 have HC : Hid _ := hcm
 have HL : Hid _ := hlt2
 clear hcm hlt2
 simp only at x0 x1 x2 y0 y1 y2
 clear hR hn hV
 have p0 : (0 : Int) <= (b : Int) := by omega
 have p1 : (b : Int) < (n : Int) := by omega
 have p2 : (0 : Int) <= (a : Int) := by omega
 have p3 : (a : Int) < (n : Int) := by omega
 by_cases hc : c < 0
 ·have p6 : decide (c < 0) = true := decide_eq_true hc
  rw [if_pos (by rw [<- HE.out.1, <- HE.out.2]; exact HL.out.1 hc)]
  go_enter Tryz.func241, Tryz.ntmps241
  go_upto_region 1 with fail
  go_region_held3 (fun w' => ((w'.cell? ⟨g, b * 3, none⟩ = some (.int .i64 xa) /\ w'.cell? ⟨g, b * 3 + 1, none⟩ = some (.int .i64 xb) /\ w'.cell? ⟨g, b * 3 + 2, none⟩ = some (.int .i64 xc)) /\ (w'.cell? ⟨g, a * 3, none⟩ = some (.int .i64 ya) /\ w'.cell? ⟨g, a * 3 + 1, none⟩ = some (.int .i64 yb) /\ w'.cell? ⟨g, a * 3 + 2, none⟩ = some (.int .i64 yc))) /\ Hid (Below w.heap.size w w')) (first | exact rg_up6 hb3 (by assumption) | exact ⟨⟨⟨x0, x1, x2⟩, ⟨y0, y1, y2⟩⟩, ((Below.refl _ _).drew : Below w.heap.size w w.drew)⟩ | go_keep)
   ((first
     | (go_at_fn 195; refine (HC.out _).mono ?_; rintro r w3 ⟨rfl, hb3⟩)
     | fail))
  have hbq : Below w.heap.size w w3 := rg_b (by assumption)
  clear x0 x1 x2 y0 y1 y2 hb3 HC
  rename_i hS3
  clear hS3
  have hR3 := HR.out.1.below hbq
  have k0 : w3.cell? ⟨c0, 0, none⟩ = some (.int .i64 s) := cell0_of hR3.cell rfl
  have k1 := blk_free hR3.cell 0
  have p8 : IntKind.i64.wrap ((s : Int) + 1) = (s : Int) + 1 := by rw [IntKind.wrap_i64]; omega
  have H3 : Hid _ := hR3
  clear hR3 hbq
  go_wp2_with fail
  go_ret2
  exact ⟨rfl, H3.out.bump (s + 1)⟩
 ·have p6 : decide (c < 0) = false := decide_eq_false hc
  rw [if_neg (by rw [<- HE.out.1, <- HE.out.2]; intro h; exact hc (HL.out.2 h))]
  go_enter Tryz.func241, Tryz.ntmps241
  go_upto_region 1 with fail
  go_region_held3 (fun w' => ((w'.cell? ⟨g, b * 3, none⟩ = some (.int .i64 xa) /\ w'.cell? ⟨g, b * 3 + 1, none⟩ = some (.int .i64 xb) /\ w'.cell? ⟨g, b * 3 + 2, none⟩ = some (.int .i64 xc)) /\ (w'.cell? ⟨g, a * 3, none⟩ = some (.int .i64 ya) /\ w'.cell? ⟨g, a * 3 + 1, none⟩ = some (.int .i64 yb) /\ w'.cell? ⟨g, a * 3 + 2, none⟩ = some (.int .i64 yc))) /\ Hid (Below w.heap.size w w')) (first | exact rg_up6 hb3 (by assumption) | exact ⟨⟨⟨x0, x1, x2⟩, ⟨y0, y1, y2⟩⟩, ((Below.refl _ _).drew : Below w.heap.size w w.drew)⟩ | go_keep)
   ((first
     | (go_at_fn 195; refine (HC.out _).mono ?_; rintro r w3 ⟨rfl, hb3⟩)
     | fail))
  have hbq : Below w.heap.size w w3 := rg_b (by assumption)
  clear x0 x1 x2 y0 y1 y2 hb3 HC
  rename_i hS3
  clear hS3
  have H3 : Hid _ := HR.out.1.below hbq
  clear hbq
  go_wp2_with fail
  go_ret2
  exact ⟨rfl, H3.out⟩
theorem o2_lt {lt : Sy.Ed -> Sy.Ed -> Bool} {d : Array Sy.Ed} {a b s n : Nat} (ha : a < n) (hb : b < n) : (Sort.order2 lt d a b s).1 < n /\ (Sort.order2 lt d a b s).2.1 < n /\ (Sort.order2 lt d a b s).2.2 <= s + 1 := by
 unfold Sort.order2
 split <;> simp [ha, hb]
set_option maxRecDepth 100000 in
set_option maxHeartbeats 4000000 in
theorem median_any (f : Nat) (vw : Sy.Ed -> Sy.Ed) (hV : ViewAt f vw) (g cap a b c c0 s : Nat) (d : Array Sy.Ed) (rest : List Value) (w0 w : World) (hR : CnE w0 w g d rest c0 s) (ha : a < d.size) (hb : b < d.size) (hc : c < d.size) (hs : s + 3 <= 1000000) :
 Calls Tryz.prog 239 #[.slice (some ⟨g, 0, none⟩) d.size cap, .int .i64 a, .int .i64 b, .int .i64 c, .pointer (some ⟨c0, 0, none⟩), cmpV f] w fun r w' => r = .returned (.int .i64 (Sort.median (ltV vw) d a b c s).1) /\ CnE w0 w' g d rest c0 (Sort.median (ltV vw) d a b c s).2 := by
 have h1 := order2_any f vw hV g cap a b c0 s d rest w0 w hR ha hb (by omega)
 obtain ⟨l1, l2, l3⟩ := o2_lt (lt := ltV vw) (d := d) (s := s) ha hb
 unfold Sort.median
 generalize Sort.order2 (ltV vw) d a b s = r1 at h1 l1 l2 l3 ⊢
 obtain ⟨a1, b1, s1⟩ := r1
 simp only at h1 l1 l2 l3 ⊢
 have h2 := fun W (h : CnE w0 W g d rest c0 s1) => order2_any f vw hV g cap b1 c c0 s1 d rest w0 W h l2 hc (by omega)
 obtain ⟨l4, l5, l6⟩ := o2_lt (lt := ltV vw) (d := d) (s := s1) l2 hc
 generalize Sort.order2 (ltV vw) d b1 c s1 = r2 at h2 l4 l5 l6 ⊢
 obtain ⟨b2, c2, s2⟩ := r2
 simp only at h2 l4 l5 l6 ⊢
 have h3 := fun W (h : CnE w0 W g d rest c0 s2) => order2_any f vw hV g cap a1 b2 c0 s2 d rest w0 W h l1 l4 (by omega)
 generalize Sort.order2 (ltV vw) d a1 b2 s2 = r3 at h3 ⊢
 obtain ⟨a3, b3, s3⟩ := r3
 simp only at h3 ⊢
 have HH : Hid _ := And.intro h1 (And.intro h2 h3)
 unfold cmpV at HH ⊢
 clear h1 h2 h3 hR hV l1 l2 l3 l4 l5 l6
 go_enter Tryz.func239, Tryz.ntmps239
 go_wp2_with fail
 refine Calls.mono HH.out.1 ?_
 rintro r w1 ⟨rfl, hR1⟩
 go_wp2_with fail
 refine Calls.mono (HH.out.2.1 _ hR1) ?_
 rintro r w2 ⟨rfl, hR2⟩
 go_wp2_with fail
 refine Calls.mono (HH.out.2.2 _ hR2) ?_
 rintro r w3 ⟨rfl, hR3⟩
 go_wp2_with fail
 go_ret
 exact ⟨rfl, hR3⟩
set_option maxRecDepth 100000 in
set_option maxHeartbeats 4000000 in
theorem medianAdj_any (f : Nat) (vw : Sy.Ed -> Sy.Ed) (hV : ViewAt f vw) (g cap a c0 s : Nat) (d : Array Sy.Ed) (rest : List Value) (w0 w : World) (hR : CnE w0 w g d rest c0 s) (ha : 1 <= a) (hb : a + 1 < d.size) (hsz : d.size <= 1000000) (hs : s + 3 <= 1000000) :
 Calls Tryz.prog 238 #[.slice (some ⟨g, 0, none⟩) d.size cap, .int .i64 a, .pointer (some ⟨c0, 0, none⟩), cmpV f] w fun r w' => r = .returned (.int .i64 (Sort.medianAdjacent (ltV vw) d a s).1) /\ CnE w0 w' g d rest c0 (Sort.medianAdjacent (ltV vw) d a s).2 := by
 obtain ⟨p, rfl⟩ : ∃ p, a = p + 1 := ⟨a - 1, by omega⟩
 have h1 := median_any f vw hV g cap p (p + 1) (p + 1 + 1) c0 s d rest w0 w hR (by omega) (by omega) (by omega) hs
 unfold Sort.medianAdjacent
 rw [Nat.add_sub_cancel]
 generalize Sort.median (ltV vw) d p (p + 1) (p + 1 + 1) s = r1 at h1 ⊢
 obtain ⟨m1, s1⟩ := r1
 have e1 : IntKind.i64.wrap (((p + 1 : Nat) : Int) - 1) = (p : Int) := by rw [IntKind.wrap_i64]; omega
 have e2 : IntKind.i64.wrap (((p + 1 : Nat) : Int) + 1) = ((p + 1 + 1 : Nat) : Int) := by rw [IntKind.wrap_i64]; omega
 have HH : Hid _ := h1
 unfold cmpV at HH ⊢
 clear h1 hR hV
 go_enter Tryz.func238, Tryz.ntmps238
 go_wp2_with fail
 have HH2 := HH.out
 simp only [Int.natCast_add, Int.natCast_one] at HH2 ⊢
 refine Calls.mono HH2 ?_
 rintro r w1 ⟨rfl, hR1⟩
 go_wp2_with fail
 go_ret
 exact ⟨rfl, hR1⟩
end
end Go.Proofs.YthcpliinddjkhaaGreatDoor
