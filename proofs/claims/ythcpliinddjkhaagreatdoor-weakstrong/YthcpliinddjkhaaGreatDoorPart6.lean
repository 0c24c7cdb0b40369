/- Texts of this claim, joined: SyReaP, SgSplit, SgDel, SgLift0, SgLift. -/
import Derived.Test.YthcpliinddjkhaaGreatDoorPart5
import Derived.Test.YthcpliinddjkhaaGreatDoorPart3
import Derived.Deep.LoopGhost
import Derived.Shelf.Abstract
import Derived.Laws.IdiomCopy
import Derived.Deep.AppendLies
import Derived.Test.YthcpliinddjkhaaGreatDoorPart0
import Derived.BigRegion
import Derived.BigQuiet
import Derived.Deep.QuietTactic
namespace Go.Proofs.YthcpliinddjkhaaGreatDoor
section
open Go.RowKit Go.Maps
namespace Sy
inductive Rea (es : List Ed) (s : Int) : Int -> Prop
 | start : Rea es s s
 | step (e : Ed) : e ∈ es -> Rea es s e.1 -> Rea es s e.2.2
structure RInv (es : List Ed) (s : Int) (n : Nat) (zs : List Int) (bs : List Bool) (i : Nat) : Prop where
 len : bs.length = n
 iff : ∀ p : Nat, bs[p]? = some true ↔ (p : Int) ∈ zs
 rng : ∀ z ∈ zs, 0 <= z /\ z < (n : Int)
 cnt : zs.length = bs.count true
 rea : ∀ z ∈ zs, Rea es s z
 st : s ∈ zs
 done : ∀ (j : Nat) (z : Int), j < i -> zs[j]? = some z -> ∀ e ∈ es, e.1 = z -> e.2.2 ∈ zs
theorem steps_mem {es : List Ed} {i a b : Int} : (a, b) ∈ steps es i ↔ (i, a, b) ∈ es := by
 unfold steps
 rw [List.mem_map]
 constructor
 ·rintro ⟨e, he, h1⟩
  obtain ⟨h2, h3⟩ := List.mem_filter.1 he
  have e1 : e.1 = i := by simpa using h3
  cases h1
  rw [<- e1]
  exact h2
 ·intro h
  exact ⟨(i, a, b), List.mem_filter.2 ⟨h, by simp⟩, rfl⟩
end Sy
def bC (bs : List Bool) : List Value := bs.map Value.bool
theorem own_num {w : World} {B : Nat} {ao : Option Addr} {n cap : Nat} {zs : List Int} (h : OwnI w B (.slice ao n cap) zs) {j : Nat} {z : Int} (hz : zs[j]? = some z) : ∃ g, ao = some ⟨g, 0, none⟩ /\ w.cell? ⟨g, j, none⟩ = some (.int .i64 z) := by
 have hlt := (List.getElem?_eq_some_iff.1 hz).1
 obtain ⟨g, c, hf, _, _⟩ := World.ownsRow.form h (by omega)
 injection hf with e1 e2 e3
 subst e1
 exact ⟨g, rfl, h.cell hz⟩
theorem step_at {w : World} {ao : Option Addr} {n cap : Nat} {zs : List BSteps.El} (h : BSteps.Has w (.slice ao n cap) zs) {j : Nat} {z : BSteps.El} (hz : zs[j]? = some z) :
 ∃ a, ao = some a /\ w.cell? (a.add (j * 2)) = some (.int .i64 z.1) /\ w.cell? ⟨(a.add (j * 2)).block, (a.add (j * 2)).off + 1, none⟩ = some (.int .i64 z.2) := by
 obtain ⟨ao', cap', hv, hc⟩ := h
 injection hv with e1 e2 e3
 subst e1
 obtain ⟨a, rfl, c0⟩ := hc (j * 2 + 0) _ ((BSteps.C_at zs j z hz 0 (by decide)).trans rfl)
 obtain ⟨a1, e1, c1⟩ := hc (j * 2 + 1) _ ((BSteps.C_at zs j z hz 1 (by decide)).trans rfl)
 cases e1
 refine ⟨a, rfl, by simpa using c0, ?_⟩
 rw [<- BSteps.add_q] at c1
 exact c1
end
section
open Go.RowKit Go.Maps
attribute [local go_sem ↓] Go.wp_at_zero Go.wp_at_succ
theorem nodup_nat : ∀ (n : Nat) (zs : List Int), zs.Nodup -> (∀ z ∈ zs, 0 <= z /\ z < (n : Int)) -> zs.length <= n
 | 0, zs, _, h => by
   cases zs with
   | nil => simp
   | cons z r => have := h z (by simp); omega
 | n + 1, zs, hd, h => by
   have h1 := nodup_nat n (zs.erase (n : Int)) (hd.erase _) (fun z hz => by
    have hz' := (hd.mem_erase_iff).1 hz
    have := h z hz'.2
    have hne := hz'.1
    omega)
   have h2 : zs.length <= (zs.erase (n : Int)).length + 1 := by
    rw [List.length_erase]
    split <;> omega
   omega
theorem RunI.few {s : Pst} {x : Rv} (hI : RunI s x) {o : Nat} {bs : List Int} (h : (x.H.map (·.2))[o]? = some bs) : bs.length <= s.nb :=
 nodup_nat s.nb bs (hI.nd o bs h) fun z hz => by obtain ⟨b, rfl, hb, _⟩ := (hI.hs o bs h z).1 hz; omega
theorem RunI.heap {s : Pst} {x : Rv} (hI : RunI s x) {b : Nat} (hb : b < s.nb) : ∃ (o k : Nat) (v : Value) (bs : List Int), x.ow[b]? = some (o : Int) /\ x.H[o]? = some (v, bs) /\ x.ks[o]? = some k /\ (x.H.map (·.2))[o]? = some bs := by
 obtain ⟨o, h1, h2⟩ := hI.own b hb
 have h3 : o < x.H.length := by rw [hI.len]; exact h2
 exact ⟨o, x.ks[o], (x.H[o]).1, (x.H[o]).2, h1, List.getElem?_eq_getElem h3, List.getElem?_eq_getElem h2, by rw [List.getElem?_map, List.getElem?_eq_getElem h3]; rfl⟩
structure SpAt (w0 w w' : World) (B r g p mb : Nat) (s s' : Pst) (x x' : Rv) (c' : Nat -> Int) (l : List Nat) : Prop where
 m : RnM w' B r g p mb x'
 pt : Pt w0 w' p c'
 lay : Lay c' s'
 ok : s'.Ok
 bare : s'.bare
 n : s'.n = s.n
 i : RunI s' x'
 eq : ∀ a b, a < s.n -> b < s.n -> (s'.O a = s'.O b ↔ s.O a = s.O b /\ (a ∈ l ↔ b ∈ l))
 of : ∀ e, e < s.n -> x'.of (s'.O e) = x.of (s.O e)
 ks : x'.ks = x.ks
 kp : Kept (fun b => b = p \/ b = r \/ x.foot b) w w'
 ft : ∀ b, x'.foot b -> x.foot b \/ w.heap.size <= b
theorem natI_len' (l : List Nat) : (natI l).length = l.length := by simp [natI]
theorem pt_block {w0 w : World} {p : Nat} {c : Nat -> Int} (h : Pt w0 w p c) : ∃ cs, w.heap[p]? = some (.cells cs 236 (0, 0)) := by
 obtain ⟨cs, hc, _⟩ := Arr.ids h
 exact ⟨cs, hc⟩
theorem RnM.p_foot {w w0 : World} {B r g p mb : Nat} {x : Rv} {c : Nat -> Int} (h : RnM w B r g p mb x) (hP : Pt w0 w p c) : ¬ x.foot p /\ p ≠ r := by
 obtain ⟨cs, hc⟩ := pt_block hP
 refine ⟨h.foot_ne hc (by decide) (by decide), fun e => ?_⟩
 have h1 := h.box
 rw [<- e, hc] at h1
 injection h1 with e1
 injection e1 with _ e2
 exact absurd e2 (by decide)
theorem splitAll_snoc (s : Pst) (l : List Nat) (e : Nat) : s.splitAll (l ++ [e]) = (s.splitAll l).split ((s.splitAll l).O e) := by simp [Pst.splitAll]
theorem parted_of {s : Pst} {l : List Nat} (hO : s.Ok) (hm : ∀ y, y < s.n -> (s.isM y = true ↔ y ∈ l)) (hl : ∀ e ∈ l, e < s.n) : (s.splitAll l).Ok /\ (s.splitAll l).n = s.n /\ (s.splitAll l).bare /\ ∀ p q, p < s.n -> q < s.n -> ((s.splitAll l).O p = (s.splitAll l).O q ↔ s.O p = s.O q /\ (p ∈ l ↔ q ∈ l)) := by
 obtain ⟨k1, k2, k3, k4⟩ := splitAll_ok (l := l) hO hl
 refine ⟨k1, k2, fun y hy => ?_, fun p q hp hq => ?_⟩
 ·rw [k2] at hy
  cases h8 : (s.splitAll l).isM y with
  | false => rfl
  | true =>
    obtain ⟨h9, h10⟩ := (k3 y hy).1 h8
    exact absurd rfl (h10 y ((hm y hy).1 h9))
 ·rw [k4 p q hp hq]
  refine and_congr_right fun e => ?_
  have hpq : s.isM p = s.isM q ↔ (p ∈ l ↔ q ∈ l) := by rw [<- hm p hp, <- hm q hq]; exact Bool.eq_iff_iff
  rw [hpq]
  constructor
  ·intro h
   constructor
   ·intro hpl; exact (h ⟨p, hpl, rfl⟩).1 hpl
   ·intro hql; exact (h ⟨q, hql, e.symm⟩).2 hql
  ·intro h _; exact h
theorem RunI.congr {s t : Pst} {x : Rv} (hI : RunI s x) (h1 : t.n = s.n) (h2 : t.nb = s.nb) (h3 : t.O = s.O) : RunI t x := by
 have hm : ∀ y, t.mem y = s.mem y := fun y => mem_of_O h1 fun e _ => by rw [h3]
 exact ⟨by rw [h2]; exact hI.ow, by rw [h2]; exact hI.sz, fun b hb => by rw [hm]; exact hI.szv b (by omega), fun b hb => hI.own b (by omega), hI.nd, fun o bs ho z => by rw [h2]; exact hI.hs o bs ho z, hI.wt, by rw [h2]; exact hI.wtl, hI.wtn, hI.len⟩
theorem take_next {l : List Nat} {j e : Nat} (h : l[j]? = some e) : l.take (j + 1) = l.take j ++ [e] := by rw [List.take_add_one, h]; rfl
theorem natI_at {l : List Nat} {j e : Nat} (h : l[j]? = some e) : (natI l)[j]? = some (e : Int) := by unfold natI; rw [List.getElem?_map, h]; rfl
structure SpLp (w0 w wr : World) (B r g p mb : Nat) (s1 : Pst) (x x' : Rv) (c' : Nat -> Int) (l : List Nat) : Prop where
 m : RnM wr B r g p mb x'
 pt : Pt w0 wr p c'
 lay : Lay c' (s1.splitAll l)
 i : RunI (s1.splitAll l) x'
 of : ∀ e, e < s1.n -> x'.of ((s1.splitAll l).O e) = x.of (s1.O e)
 ks : x'.ks = x.ks
 kp : Kept (fun b => b = p \/ b = r \/ x.foot b) w wr
 ft : ∀ b, x'.foot b -> x.foot b \/ w.heap.size <= b
set_option linter.unusedSimpArgs false in
set_option maxRecDepth 100000 in
set_option maxHeartbeats 8000000 in
theorem rsplit_any (w0 : World) (B r g p mb Bs : Nat) (x : Rv) (c : Nat -> Int) (s : Pst) (vs : Value) (l : List Nat) (w : World) (hM : RnM w B r g p mb x) (hP : Pt w0 w p c) (hL : Lay c s) (hO : s.Ok) (hn : s.bare) (hI : RunI s x) (hvs : OwnI w Bs vs (natI l)) (hfar : ∀ b, vs.ownBlock = some b -> ¬ x.foot b) (hl : ∀ e ∈ l, e < s.n) (hll : l.length <= 1000000) (hB0 : w0.heap.size <= B) :
 Calls Tryz.prog 161 #[.pointer (some ⟨r, 0, none⟩), vs] w fun e w' => e = .returned (.tuple #[]) /\ ∃ x' c' s', SpAt w0 w w' B r g p mb s s' x x' c' l := by
 obtain ⟨a, cap, rfl⟩ := row_shape hvs
 have hpf := hM.p_foot hP
 have hvr : ∀ b, (Value.slice a (natI l).length cap).ownBlock = some b -> b ≠ p /\ b ≠ r := fun b hb => by
  obtain ⟨cs, hc⟩ := row_cells hvs hb
  refine ⟨fun e => ?_, fun e => own_bk hvs hM.box (by decide) (by rw [<- e]; exact hb)⟩
  obtain ⟨c2, h2⟩ := pt_block hP
  exact own_bk hvs h2 (by decide) (by rw [<- e]; exact hb)
 obtain ⟨N, hN⟩ : ∃ N, N = l.length := ⟨_, rfl⟩
 have hNl : (natI l).length = N := by rw [natI_len', hN]
 rw [hNl] at hvs hvr hfar ⊢
 have H : Hid _ := And.intro hM (And.intro hP (And.intro hL (And.intro hO (And.intro hn (And.intro hI (And.intro hvs (And.intro hfar (And.intro hl (And.intro hpf (And.intro hvr (And.intro hN (And.intro hNl hB0))))))))))))
 rw [<- hN] at hll
 clear hM hP hL hO hn hI hvs hfar hl hpf hvr hN hNl hB0
 go_enter Tryz.func161, Tryz.ntmps161
 go_wp2_with fail
 go_loopg [15] N (fun q iv wr => ∃ (j : Nat) (c' : Nat -> Int) (s' : Pst), q = N - j /\ j <= N /\ iv = .int .i64 j /\ Pt w0 wr p c' /\ Lay c' s' /\ s'.Ok /\ Kept (fun b => b = p) w wr /\ (s'.n = s.n /\ s'.nb = s.nb /\ s'.O = s.O) /\ ∀ y, y < s.n -> (s'.isM y = true ↔ y ∈ l.take j))
 case atStart => exact ⟨0, c, s, rfl, Nat.zero_le _, rfl, H.out.2.1, H.out.2.2.1, H.out.2.2.2.1, Kept.refl _ _, ⟨rfl, rfl, rfl⟩, fun y hy => by rw [H.out.2.2.2.2.1 y hy]; simp⟩
 case round =>
  obtain ⟨j, c', s', rfl, hj, rfl, hPt, hLy, hOk, hKp, hsm, him⟩ := hrel
  by_cases hlt : j < N
  ·have q1 : (j : Int) < (N : Int) := by omega
   have q0 : (0 : Int) <= (j : Int) := by omega
   obtain ⟨e, he⟩ : ∃ e, l[j]? = some e := ⟨l[j]'(by rw [<- H.out.2.2.2.2.2.2.2.2.2.2.2.1]; exact hlt), List.getElem?_eq_getElem _⟩
   have hel := H.out.2.2.2.2.2.2.2.2.1 e (List.mem_of_getElem? he)
   have hOw : OwnI wr Bs (.slice a N cap) (natI l) := own_up H.out.2.2.2.2.2.2.1 hKp fun b hb e9 => (H.out.2.2.2.2.2.2.2.2.2.2.1 b hb).1 e9
   obtain ⟨gs, rfl, hce⟩ := own_num hOw (natI_at he)
   obtain ⟨_, c1, _⟩ := seven_cells ((hKp.block r (t_lt H.out.1.box) (fun e9 => H.out.2.2.2.2.2.2.2.2.2.1.2 e9.symm)).trans H.out.1.box)
   have hMk := pmark_any p c' s' e w0 wr hPt hLy hOk (by rw [hsm.1]; exact hel)
   have HK : Hid _ := And.intro hMk (And.intro hKp (And.intro hsm (And.intro him he)))
   clear hMk hPt hLy hOk hKp hsm him he hOw hel
   go_wp2_with (go_at_call 187; refine Calls.mono HK.out.1 ?_; rintro r1 w2 ⟨rfl, c2, s2, hP2, hL2, hO2, hK2, m1, m2, m3, m4, m5, m6⟩; have HK2 : Hid _ := And.intro hP2 (And.intro hL2 (And.intro hO2 (And.intro hK2 (And.intro m1 (And.intro m2 (And.intro m3 m6)))))); clear hP2 hL2 hO2 hK2 m1 m2 m3 m4 m5 m6)
   go_roundg (N - (j + 1))
   case measure => omega
   case rel =>
    refine ⟨j + 1, c2, s2, rfl, by omega, by go_num, HK2.out.1, HK2.out.2.1, HK2.out.2.2.1, HK.out.2.1.trans HK2.out.2.2.2.1, ⟨HK2.out.2.2.2.2.1.trans HK.out.2.2.1.1, HK2.out.2.2.2.2.2.1.trans HK.out.2.2.1.2.1, HK2.out.2.2.2.2.2.2.1.trans HK.out.2.2.1.2.2⟩, fun y hy => ?_⟩
    rw [HK2.out.2.2.2.2.2.2.2 y (by rw [HK.out.2.2.1.1]; exact hy), take_next HK.out.2.2.2.2, List.mem_append, List.mem_singleton, Bool.or_eq_true, decide_eq_true_eq, HK.out.2.2.2.1 y hy]
    exact or_comm
  ·obtain rfl : j = N := by omega
   have q1 : ¬ (j : Int) < (j : Int) := by omega
   have hM1 := H.out.1.kept hKp (fun e9 => H.out.2.2.2.2.2.2.2.2.2.1.2 e9.symm) (fun b hb e9 => H.out.2.2.2.2.2.2.2.2.2.1.1 (by rw [<- e9]; exact hb))
   have hm1 : ∀ y, y < s'.n -> (s'.isM y = true ↔ y ∈ l) := fun y hy => by rw [him y (by rw [<- hsm.1]; exact hy), H.out.2.2.2.2.2.2.2.2.2.2.2.1, List.take_length]
   have hI1 := H.out.2.2.2.2.2.1.congr hsm.1 hsm.2.1 hsm.2.2
   have hS0 : SpLp w0 w wr B r g p mb s' x x c' (l.take 0) := ⟨hM1, hPt, hLy, hI1, fun e _ => by show x.of (s'.O e) = x.of (s'.O e); rfl, rfl, hKp.mono fun b _ e9 => .inl e9, fun b hb => .inl hb⟩
   have H1 : Hid _ := And.intro hS0 (And.intro hOk (And.intro hm1 hsm))
   clear hPt hLy hOk hKp hsm him hM1 hm1 hI1 hS0
   go_wp2_with fail
   go_loopg [28] j (fun q iv wr => ∃ (i : Nat) (x' : Rv) (c' : Nat -> Int), q = j - i /\ i <= j /\ iv = .int .i64 i /\ SpLp w0 w wr B r g p mb s' x x' c' (l.take i))
   case atStart => exact ⟨0, x, c', rfl, Nat.zero_le _, rfl, H1.out.1⟩
   case round =>
    obtain ⟨i, x', c2, rfl, hi, rfl, hS⟩ := hrel
    have hlt' : ∀ e ∈ l, e < s'.n := fun e he => by rw [H1.out.2.2.2.1]; exact H.out.2.2.2.2.2.2.2.2.1 e he
    by_cases hlt2 : i < j
    ·have q2 : (i : Int) < (j : Int) := by omega
     have q0 : (0 : Int) <= (i : Int) := by omega
     obtain ⟨e, he⟩ : ∃ e, l[i]? = some e := ⟨l[i]'(by rw [<- H.out.2.2.2.2.2.2.2.2.2.2.2.1]; exact hlt2), List.getElem?_eq_getElem _⟩
     obtain ⟨sk1, sk2, _, _⟩ := splitAll_ok (l := l.take i) H1.out.2.1 (fun e he => hlt' e (List.mem_of_mem_take he))
     have hel : e < (s'.splitAll (l.take i)).n := by rw [sk2]; exact hlt' e (List.mem_of_getElem? he)
     have hOw : OwnI wr Bs (.slice a j cap) (natI l) := own_up H.out.2.2.2.2.2.2.1 hS.kp fun b hb e9 => by
      rcases e9 with e9 | e9 | e9
      ·exact (H.out.2.2.2.2.2.2.2.2.2.2.1 b hb).1 e9
      ·exact (H.out.2.2.2.2.2.2.2.2.2.2.1 b hb).2 e9
      ·exact H.out.2.2.2.2.2.2.2.1 b hb e9
     obtain ⟨gs, rfl, hce⟩ := own_num hOw (natI_at he)
     obtain ⟨_, c1, _⟩ := seven_cells hS.m.box
     obtain ⟨s2, hs2⟩ : ∃ s2, s2 = s'.splitAll (l.take i) := ⟨_, rfl⟩
     have hLy := hS.lay
     have hS0i := hS.i
     rw [<- hs2] at sk1 sk2 hel hLy
     have hb := (sk1.o e hel).1
     have hBk := block_ok p c2 s2 e w0 wr hS.pt hLy sk1.n1 hel
     have hSp := split_any p c2 s2 (s2.O e) w0 wr hS.pt hLy sk1 hb
     obtain ⟨b, hbe⟩ : ∃ b, b = s2.O e := ⟨_, rfl⟩
     rw [<- hbe] at hb hBk hSp
     have hpf2 := hS.m.p_foot hS.pt
     have hfew := sk1.few
     have hn1 := sk1.n1
     by_cases hsp : s2.splits b
     ·rw [if_pos hsp, decide_eq_true hsp] at hSp
      rw [<- hs2] at hS0i
      obtain ⟨o, k, v, bs, how, hH, hks, hHm⟩ := hS0i.heap hb
      have hbl := hS0i.few hHm
      have hAd := fun (c3 : Nat -> Int) (w3 : World) (h1 : Pt w0 w3 p c3) (h2 : Lay c3 (s2.split b)) (h3 : Kept (fun i => i = p) wr w3) => radd_any w0 B r g p mb x' c3 (s2.split b) s2.nb b o k ((s2.mem b).length : Int) v bs w3 (hS.m.kept h3 (fun e9 => hpf2.2 e9.symm) (fun b hb e9 => hpf2.1 (by rw [<- e9]; exact hb))) h1 h2 (split_ok sk1 hb).1 (by rw [split_nb hsp]; omega) how (hS0i.szv b hb) hH hks (by rw [hS0i.ow]; omega) (by rw [hS0i.sz]; omega) (by omega) (by have := hS0i.wtl; omega) (by have := mem_len sk1 hb; have := sk1.iv b hb; omega)
      have HS : Hid _ := And.intro hS (And.intro sk1 (And.intro hBk (And.intro hSp (And.intro hs2 (And.intro hbe (And.intro hb (And.intro he (And.intro hel (And.intro sk2 (And.intro hAd (And.intro how (And.intro hHm (And.intro hpf2 (And.intro hsp hS0i))))))))))))))
      clear hS sk1 hBk hSp hs2 hbe hb he hel sk2 hLy hOw hlt' hAd how hHm hH hks hbl hpf2 hfew hn1 hsp hS0i
      go_wp2_with (first
       | (go_at_call 188; refine Calls.mono HS.out.2.2.1 ?_; rintro r1 w2 ⟨rfl, hw2⟩; obtain rfl := hw2.symm; clear hw2)
       | (go_at_call 189; refine Calls.mono HS.out.2.2.2.1 ?_; rintro r1 w3 ⟨rfl, c3, hP3, hL3, hK3⟩; have H3 : Hid _ := And.intro hP3 (And.intro hL3 hK3); clear hP3 hL3 hK3)
       | (go_at_call 190; refine Calls.mono (HS.out.2.2.2.2.2.2.2.2.2.2.1 c3 w3 H3.out.1 H3.out.2.1 H3.out.2.2) ?_; rintro r1 w4 ⟨rfl, x2, hA4⟩; have H4 : Hid _ := And.intro hA4 trivial; clear hA4))
      go_roundg (j - (i + 1))
      case measure => omega
      case rel =>
       obtain ⟨hS, sk1, _, _, hs2, hbe, hb, he, hel, sk2, _, how, hHm, hpf2, hsp, hS0i⟩ := HS.out
       obtain ⟨hP3, hL3, hK3⟩ := H3.out
       have hA := H4.out.1
       have hM3 := hS.m.kept hK3 (fun e9 => hpf2.2 e9.symm) (fun b hb e9 => hpf2.1 (by rw [<- e9]; exact hb))
       have hG := hS0i.grow sk1 hb hsp how hHm hA
       refine ⟨i + 1, x2, c3, rfl, by omega, by go_num, ⟨hA.m, hP3.kept hA.gw.kp (fun b hb => ?_), ?_, ?_, fun e1 he1 => ?_, hA.ks.trans hS.ks, (hS.kp.trans (hK3.mono fun b _ e9 => .inl e9)).trans2 hA.gw.kp (fun b hb => ?_), fun b hb => ?_⟩⟩
       ·rcases hb with rfl | hb
        ·exact ⟨Nat.le_trans H.out.2.2.2.2.2.2.2.2.2.2.2.2.2 hM3.up, fun e9 => hpf2.2 e9.symm⟩
        ·exact ⟨Nat.le_trans H.out.2.2.2.2.2.2.2.2.2.2.2.2.2 (hM3.foot_lt hb).1, fun e9 => hpf2.1 (by rw [<- e9]; exact hb)⟩
       ·rw [take_next he, splitAll_snoc, <- hs2, <- hbe]; exact hL3
       ·rw [take_next he, splitAll_snoc, <- hs2, <- hbe]; exact hG.1
       ·rw [take_next he, splitAll_snoc, <- hs2, <- hbe, hG.2 e1 (by rw [sk2]; exact he1), hs2]; exact hS.of e1 he1
       ·rcases hb with hb | hb
        ·exact .inl (.inr (.inl hb))
        ·exact (hS.ft b hb).imp (fun h => .inr (.inr h)) id
       ·rcases hA.gw.ft b hb with h1 | h1
        ·exact hS.ft b h1
        ·have := hS.kp.size; have := hK3.size; exact .inr (by omega)
     ·rw [if_neg hsp, decide_eq_false hsp] at hSp
      rw [<- hs2] at hS0i
      have HS : Hid _ := And.intro hS (And.intro sk1 (And.intro hBk (And.intro hSp (And.intro hs2 (And.intro hbe (And.intro hb (And.intro he (And.intro hel (And.intro sk2 (And.intro hpf2 (And.intro hsp hS0i)))))))))))
      clear hS sk1 hBk hSp hs2 hbe hb he hel sk2 hLy hOw hlt' hpf2 hfew hn1 hsp hS0i
      go_wp2_with (first
       | (go_at_call 188; refine Calls.mono HS.out.2.2.1 ?_; rintro r1 w2 ⟨rfl, hw2⟩; obtain rfl := hw2.symm; clear hw2)
       | (go_at_call 189; refine Calls.mono HS.out.2.2.2.1 ?_; rintro r1 w3 ⟨rfl, c3, hP3, hL3, hK3⟩; have H3 : Hid _ := And.intro hP3 (And.intro hL3 hK3); clear hP3 hL3 hK3))
      go_roundg (j - (i + 1))
      case measure => omega
      case rel =>
       obtain ⟨hS, sk1, _, _, hs2, hbe, hb, he, hel, sk2, hpf2, hsp, hS0i⟩ := HS.out
       obtain ⟨hP3, hL3, hK3⟩ := H3.out
       have hM3 := hS.m.kept hK3 (fun e9 => hpf2.2 e9.symm) (fun b hb e9 => hpf2.1 (by rw [<- e9]; exact hb))
       refine ⟨i + 1, x', c3, rfl, by omega, by go_num, ⟨hM3, hP3, ?_, ?_, fun e1 he1 => ?_, hS.ks, hS.kp.trans (hK3.mono fun b _ e9 => .inl e9), hS.ft⟩⟩
       ·rw [take_next he, splitAll_snoc, <- hs2, <- hbe]; exact hL3
       ·rw [take_next he, splitAll_snoc, <- hs2, <- hbe]; exact hS0i.stay sk1 hb hsp
       ·rw [take_next he, splitAll_snoc, <- hs2, <- hbe, clear_O s2 b hsp, hs2]; exact hS.of e1 he1
    ·obtain rfl : i = j := by omega
     have q2 : ¬ (i : Int) < (i : Int) := by omega
     have HS : Hid _ := And.intro hS hlt'
     clear hS hlt'
     go_wp2_with fail
     go_end0
     have e9 : l.take i = l := by rw [H.out.2.2.2.2.2.2.2.2.2.2.2.1]; exact List.take_length
     have hS := HS.out.1
     rw [e9] at hS
     obtain ⟨k1, k2, k3, k4⟩ := parted_of H1.out.2.1 H1.out.2.2.1 HS.out.2
     have hn1 := H1.out.2.2.2.1
     exact ⟨rfl, x', c2, _, hS.m, hS.pt, hS.lay, k1, k3, k2.trans hn1, hS.i, fun a b ha hb => by rw [k4 a b (by rw [hn1]; exact ha) (by rw [hn1]; exact hb), H1.out.2.2.2.2.2], fun e he => by rw [hS.of e (by rw [hn1]; exact he), H1.out.2.2.2.2.2], hS.ks, hS.kp, hS.ft⟩
end
section
open Go.RowKit Go.Maps
attribute [local go_sem ↓] Go.wp_at_zero Go.wp_at_succ
def Asks (f : Nat) (bd : Array Value) (P : Int -> Bool) (zs : List Int) (S : World -> Prop) : Prop := ∀ (z : Int) (W : World), z ∈ zs -> S W -> Calls Tryz.prog f (#[.int .i64 z] ++ bd) W fun r w' => r = .returned (.bool (P z)) /\ Below W.heap.size W w'
theorem OwnI.put2 {w : World} {B g n cap : Nat} {zs : List Int} (h : OwnI w B (.slice (some ⟨g, 0, none⟩) n cap) zs) (hn : n = zs.length) (j : Nat) (u : Int) : OwnI (w.setCell ⟨g, j, none⟩ (.int .i64 u)) B (.slice (some ⟨g, 0, none⟩) n cap) (zs.set j u) := by
 subst hn
 have h1 := (World.ownsRow.stored h j (.int .i64 u)).1
 unfold OwnI
 rw [List.length_set, show iC (zs.set j u) = (iC zs).set j (.int .i64 u) by simp [iC, List.map_set]]
 exact h1
structure Left (P : Int -> Bool) (zs ys : List Int) (i j : Nat) : Prop where
 len : ys.length = zs.length
 ij : i < j
 jn : j <= zs.length
 head : ys.take i = (zs.take j).filter fun z => !P z
 tail : ys.drop j = zs.drop j
theorem take_snoc {zs : List Int} {j : Nat} {z : Int} (h : zs[j]? = some z) : zs.take (j + 1) = zs.take j ++ [z] := by rw [List.take_add_one, h]; rfl
theorem Left.skip {P : Int -> Bool} {zs ys : List Int} {i j : Nat} {z : Int} (h : Left P zs ys i j) (hz : zs[j]? = some z) (hP : P z = true) : Left P zs ys i (j + 1) := by
 have hl := (List.getElem?_eq_some_iff.1 hz).1
 refine ⟨h.len, by have := h.ij; omega, hl, ?_, ?_⟩
 ·rw [take_snoc hz, List.filter_append, <- h.head]; simp [hP]
 ·rw [<- List.drop_drop (i := 1) (j := j), h.tail, List.drop_drop]
theorem Left.keep {P : Int -> Bool} {zs ys : List Int} {i j : Nat} {z : Int} (h : Left P zs ys i j) (hz : zs[j]? = some z) (hP : P z = false) : Left P zs (ys.set i z) (i + 1) (j + 1) := by
 have hl := (List.getElem?_eq_some_iff.1 hz).1
 have hij := h.ij
 have hyl := h.len
 refine ⟨by rw [List.length_set]; exact h.len, by omega, hl, ?_, ?_⟩
 ·rw [take_snoc hz, List.filter_append, <- h.head, List.take_add_one, List.getElem?_set_self (by omega), List.take_set_of_le (Nat.le_refl _)]
  simp [hP]
 ·rw [List.drop_set_of_lt (by omega), <- List.drop_drop (i := 1) (j := j), h.tail, List.drop_drop]
theorem Left.at {P : Int -> Bool} {zs ys : List Int} {i j : Nat} {z : Int} (h : Left P zs ys i j) (hz : zs[j]? = some z) : ys[j]? = some z := by
 have h1 : (ys.drop j)[0]? = (zs.drop j)[0]? := by rw [h.tail]
 rw [List.getElem?_drop, List.getElem?_drop] at h1
 exact h1.trans hz
theorem clear_ints {w : World} {B g n cap i : Nat} {ys : List Int} (h : OwnI w B (.slice (some ⟨g, 0, none⟩) n cap) ys) (hn : n = ys.length) (hi : i < n) :
 ∃ us, (∀ ty, (Builtin.clear_ #[57] ty #[.slice (some ⟨g, i, none⟩) (n - i) (cap - i)]).run Tryz.prog w = .ok (.tuple #[]) (w.setCells g i us)) /\ OwnI (w.setCells g i us) B (.slice (some ⟨g, 0, none⟩) i cap) (ys.take i) /\ Kept (fun b => b = g) w (w.setCells g i us) := by
 subst hn
 obtain ⟨us, hus⟩ : ∃ us, us = (Builtin.zeroCells (Value.int .i64 0).cells (ys.length - i)).toList := ⟨_, rfl⟩
 have hlen : us.length = ys.length - i := by rw [hus]; simp [Builtin.zeroCells, Value.cells]
 have hone : ∀ v ∈ us, v.oneCell' = true := by
  intro v hv
  rw [hus] at hv
  simp [Builtin.zeroCells, Value.cells] at hv
  obtain ⟨a, _, rfl⟩ := hv
  have e9 : a % 1 = 0 := Nat.mod_one a
  rw [e9]; rfl
 have hst := run_storeCells_cells (P := Tryz.prog) g i us 0 w (fun j hj => by
  rw [Nat.add_zero, World.ownsRow.cellAt h (i + j) (by omega)]
  rw [List.getElem?_eq_getElem (by rw [iC_length]; omega)]; rfl) (fun j hj => World.ownsRow.frozenAt h _) hone
 simp only [Nat.add_zero] at hst
 have hkept : ∀ (us : List Value) (o : Nat) (w : World), Kept (fun b => b = g) w (w.setCells g o us) := fun us => by
  induction us with
  | nil => intro o w; exact Kept.refl _ _
  | cons u r ih => intro o w; exact (Kept.setCell w g o u).trans (ih (o + 1) _)
 have hblk : ∀ (us : List Value) (o : Nat) (w : World) (cur : Array Value), i <= o -> w.heap[g]? = some (.cells cur 3 (0, 0)) -> ∃ cur', (w.setCells g o us).heap[g]? = some (.cells cur' 3 (0, 0)) /\ cur'.size = cur.size /\ cur'.toList.take i = cur.toList.take i := fun us => by
  induction us with
  | nil => intro o w cur _ hc; exact ⟨cur, hc, rfl, rfl⟩
  | cons u r ih =>
    intro o w cur ho hc
    obtain ⟨c2, h1, h2, h3⟩ := ih (o + 1) (w.setCell ⟨g, o, none⟩ u) _ (by omega) (heap_setCell_same w g o cur _ u hc)
    refine ⟨c2, h1, by rw [h2]; simp, ?_⟩
    rw [h3, Array.toList_setIfInBounds, List.take_set_of_le ho]
 refine ⟨us, fun ty => ?_, ?_, hkept us i w⟩
 ·obtain ⟨k, hk⟩ : ∃ k, ys.length - i = k + 1 := ⟨ys.length - i - 1, by omega⟩
  rw [hk] at hus ⊢
  simp [Builtin.clear_, run_underlying Tryz.underlying57, <- hus, hst]
 ·rcases h.2 with ⟨e, _⟩ | ⟨g', cap', cur, e, hB, hg, hn2, hm, hs, ht⟩
  ·cases e
  ·cases e
   obtain ⟨c2, h1, h2, h3⟩ := hblk us i w cur (Nat.le_refl _) hg
   have hil : (ys.take i).length = i := by rw [List.length_take]; omega
   refine ⟨by rw [iC_length], .inr ⟨g, cap, c2, by rw [hil], hB, h1, by omega, hm, by omega, ?_⟩⟩
   rw [hil, Nat.mul_one, h3]
   have h9 : (cur.toList.take (ys.length * 1)).take i = (iC ys).take i := by rw [ht]
   rw [List.take_take, Nat.mul_one, Nat.min_eq_left (by omega)] at h9
   rw [h9]
   simp [iC, List.map_take]
theorem del_bel {a b c : World} (h : Below b.heap.size b c) (k : Below a.heap.size a b) : Below a.heap.size a c := k.trans (h.mono k.size)
set_option maxRecDepth 100000 in
set_option maxHeartbeats 4000000 in
theorem indexFunc1 (f : Nat) (F : Nat -> Prop) (b0 : Value) (P : Int -> Bool) (v : Value) (zs : List Int) (w : World) (hv : HasI w v zs) (hn : zs.length <= 1000000) (hE : Enters Tryz.prog f) (hA : Asks f #[b0] P zs fun W => Kept F w W) :
 Calls Tryz.prog 191 #[v, .func (.func f) #[] #[b0]] w fun r w' => Below w.heap.size w w' /\ ((∃ i : Nat, r = .returned (.int .i64 i) /\ (∃ z, zs[i]? = some z /\ P z = true) /\ ∀ z ∈ zs.take i, P z = false) \/ (r = .returned (.int .i64 (-1)) /\ ∀ z ∈ zs, P z = false)) := by
 unfold Enters at hE
 obtain ⟨ao, cap, rfl, hc⟩ := hv
 obtain ⟨n, hN⟩ : ∃ n, n = zs.length := ⟨_, rfl⟩
 rw [<- hN] at hn ⊢
 have H : Hid _ := And.intro hc (And.intro hA hN)
 clear hc hA hN
 go_enter Tryz.func191, Tryz.ntmps191
 go_wp2_with fail
 go_loopg [8] n (fun q iv wr => ∃ j : Nat, q = n - j /\ j <= n /\ iv = .int .i64 j /\ Below w.heap.size w wr /\ Hid (∀ z ∈ zs.take j, P z = false))
 case atStart => exact ⟨0, rfl, Nat.zero_le _, rfl, Below.refl _ _, (fun z hz => by simp at hz : ∀ z ∈ zs.take 0, P z = false)⟩
 case round =>
  obtain ⟨j, rfl, hj, rfl, hb, hP⟩ := hrel
  by_cases hlt : j < n
  ·have q0 : (0 : Int) <= (j : Int) := by omega
   have q1 : (j : Int) < (n : Int) := by omega
   obtain ⟨z, hz⟩ : ∃ z, zs[j]? = some z := ⟨zs[j]'(by have := H.out.2.2; omega), List.getElem?_eq_getElem _⟩
   obtain ⟨ad, rfl, hce⟩ := H.out.1 j z hz
   have hcw := (hb.cell (World.block_lt_of_cell? w _ hce)).trans hce
   have hAs := H.out.2.1 z wr (List.mem_of_getElem? hz) (Kept.of_below hb)
   have HZ : Hid _ := And.intro hz (And.intro hb hAs)
   clear hz hb hAs hce
   cases hp : P z with
   | true =>
     have HP : Hid (P z = true) := hp
     rw [hp] at HZ
     clear hp
     go_wp2_with (go_at_fn f; refine Calls.mono HZ.out.2.2 ?_; rintro r w2 ⟨rfl, hb2⟩; have H2 : Hid _ := And.intro hb2 trivial; clear hb2)
     go_ret
     exact ⟨del_bel H2.out.1 HZ.out.2.1, .inl ⟨j, rfl, ⟨z, HZ.out.1, HP.out⟩, hP.out⟩⟩
   | false =>
     have HP : Hid (P z = false) := hp
     rw [hp] at HZ
     clear hp
     go_wp2_with (go_at_fn f; refine Calls.mono HZ.out.2.2 ?_; rintro r w2 ⟨rfl, hb2⟩; have H2 : Hid _ := And.intro hb2 trivial; clear hb2)
     go_roundg (n - (j + 1))
     case measure => omega
     case rel =>
      refine ⟨j + 1, rfl, by omega, by go_num, del_bel H2.out.1 HZ.out.2.1, (fun y hy => ?_ : ∀ y ∈ zs.take (j + 1), P y = false)⟩
      rw [take_snoc HZ.out.1] at hy
      rcases List.mem_append.1 hy with h1 | h1
      ·exact hP.out y h1
      ·rw [List.mem_singleton.1 h1]; exact HP.out
  ·obtain rfl : j = n := by omega
   have q1 : ¬ (j : Int) < (j : Int) := by omega
   have HZ : Hid _ := And.intro hb trivial
   clear hb
   go_wp2_with fail
   go_ret
   refine ⟨HZ.out.1, .inr ⟨rfl, fun z hz => hP.out z ?_⟩⟩
   rw [H.out.2.2, List.take_length]; exact hz
set_option linter.unusedSimpArgs false in
set_option maxRecDepth 100000 in
set_option maxHeartbeats 8000000 in
theorem deleteFunc1 (f B : Nat) (b0 : Value) (P : Int -> Bool) (v : Value) (zs : List Int) (w : World) (hv : OwnI w B v zs) (hn : zs.length <= 1000000) (hE : Enters Tryz.prog f) (hA : Asks f #[b0] P zs fun W => Kept (fun b => v.ownBlock = some b) w W) :
 Calls Tryz.prog 162 #[v, .func (.func f) #[] #[b0]] w fun r w' => ∃ v', r = .returned v' /\ OwnI w' B v' (zs.filter fun z => !P z) /\ v'.ownBlock = v.ownBlock /\ Kept (fun b => v.ownBlock = some b) w w' := by
 have hI := indexFunc1 f (fun b => v.ownBlock = some b) b0 P v zs w hv.has hn hE hA
 unfold Enters at hE
 obtain ⟨n, hN⟩ : ∃ n, n = zs.length := ⟨_, rfl⟩
 obtain ⟨ao, cap, rfl⟩ := row_shape hv
 rw [<- hN] at hn hI hv hA ⊢
 have H : Hid _ := And.intro hv (And.intro hA (And.intro hI (And.intro hN trivial)))
 clear hv hI hN hA
 go_enter Tryz.func162, Tryz.ntmps162
 go_upto_region 2 with (go_at_call 191; refine Calls.mono H.out.2.2.1 ?_; rintro r w1 ⟨hb1, hr1⟩; rcases hr1 with ⟨i, rfl, hz, hf⟩ | ⟨rfl, hall⟩)
 ·obtain ⟨z, hz, hPz⟩ := hz
  have hil : i < n := by have := (List.getElem?_eq_some_iff.1 hz).1; have := H.out.2.2.2.1; omega
  have hO1 : OwnI w1 B (.slice ao n cap) zs := trow_at H.out.1 fun b e => hb1.block b (H.out.1.lt b e).2
  obtain ⟨g0, rfl, _⟩ := own_num hO1 hz
  obtain ⟨gs, rfl⟩ : ∃ gs, gs = g0 := ⟨_, rfl⟩
  have hL0 : Left P zs zs i (i + 1) := ⟨rfl, by omega, by have := H.out.2.2.2.1; omega, by
   rw [take_snoc hz, List.filter_append]
   have h1 : (zs.take i).filter (fun z => !P z) = zs.take i := List.filter_eq_self.2 fun y hy => by rw [hf y hy]; rfl
   rw [h1]; simp [hPz], rfl⟩
  have q9 : ((i : Int) == -1) = false := beq_eq_false_iff_ne.2 (by omega)
  have q8 : IntKind.i64.wrap ((i : Int) + 1) = (i : Int) + 1 := by rw [IntKind.wrap_i64]; omega
  have H1 : Hid _ := And.intro hO1 (And.intro hL0 (Kept.of_below (F := fun b => b = gs) hb1))
  clear hz hPz hf hO1 hL0 hb1
  go_wp2_with fail
  go_loopg [5, 6] (n - (i + 1)) (fun q iv jv wr => ∃ (i j : Nat) (ys : List Int), q = n - j /\ iv = .int .i64 i /\ jv = .int .i64 j /\ OwnI wr B (.slice (some ⟨gs, 0, none⟩) n cap) ys /\ Left P zs ys i j /\ Kept (fun b => b = gs) w wr)
  case atStart => exact ⟨i, i + 1, zs, rfl, rfl, by go_num, H1.out.1, H1.out.2.1, H1.out.2.2⟩
  case round =>
   obtain ⟨i2, j, ys, rfl, rfl, rfl, hOw, hLf, hKp⟩ := hrel
   have hjn : j <= n := by have := hLf.jn; have := H.out.2.2.2.1; omega
   have hij := hLf.ij
   have hyl : n = ys.length := by rw [hLf.len]; exact H.out.2.2.2.1
   clear q9 q8
   by_cases hlt : j < n
   ·have q0 : (0 : Int) <= (j : Int) := by omega
    have q1 : (j : Int) < (n : Int) := by omega
    have q2 : (0 : Int) <= (i2 : Int) := by omega
    have q3 : (i2 : Int) < (n : Int) := by omega
    obtain ⟨z, hz⟩ : ∃ z, zs[j]? = some z := ⟨zs[j]'(by have := H.out.2.2.2.1; omega), List.getElem?_eq_getElem _⟩
    have hce := hOw.cell (hLf.at hz)
    have hAs := H.out.2.1 z wr (List.mem_of_getElem? hz) (hKp.mono fun b _ e => by rw [e]; rfl)
    have HZ : Hid _ := And.intro hz (And.intro hOw (And.intro hLf (And.intro hKp (And.intro hAs hyl))))
    clear hz hOw hLf hKp hAs hyl
    cases hp : P z with
    | true =>
      have HP : Hid (P z = true) := hp
      rw [hp] at HZ
      clear hp
      go_wp2_with (go_at_fn f; refine Calls.mono HZ.out.2.2.2.2.1 ?_; rintro r w2 ⟨rfl, hb2⟩; have H2 : Hid _ := And.intro hb2 trivial; clear hb2)
      go_roundg (n - (j + 1))
      case measure => omega
      case rel => exact ⟨i2, j + 1, ys, rfl, rfl, by go_num, trow_at HZ.out.2.1 fun b e => H2.out.1.block b (HZ.out.2.1.lt b e).2, HZ.out.2.2.1.skip HZ.out.1 HP.out, HZ.out.2.2.2.1.trans (Kept.of_below H2.out.1)⟩
    | false =>
      have HP : Hid (P z = false) := hp
      rw [hp] at HZ
      clear hp
      have q4 : IntKind.i64.wrap ((i2 : Int) + 1) = (i2 : Int) + 1 := by rw [IntKind.wrap_i64]; omega
      go_wp2_with (go_at_fn f; refine Calls.mono HZ.out.2.2.2.2.1 ?_; rintro r w2 ⟨rfl, hb2⟩; have hO2 : OwnI w2 B (.slice (some ⟨gs, 0, none⟩) n cap) ys := (trow_at HZ.out.2.1 fun b e => hb2.block b (HZ.out.2.1.lt b e).2); have hc2 := hO2.cell (show ys[i2]? = some (ys[i2]'(by have := HZ.out.2.2.2.2.2; omega)) from List.getElem?_eq_getElem _); have hf2 : w2.frozen? ⟨gs, i2, none⟩ = false := (by have h9 := hO2; unfold OwnI at h9; rw [<- HZ.out.2.2.2.2.2] at h9; exact h9.frozenAt i2); have H2 : Hid _ := And.intro hb2 hO2; clear hb2 hO2)
      go_roundg (n - (j + 1))
      case measure => omega
      case rel => exact ⟨i2 + 1, j + 1, ys.set i2 z, rfl, by go_num, by go_num, H2.out.2.put2 HZ.out.2.2.2.2.2 i2 z, HZ.out.2.2.1.keep HZ.out.1 HP.out, (HZ.out.2.2.2.1.trans (Kept.of_below H2.out.1)).trans (Kept.setCell _ _ _ _)⟩
   ·obtain rfl : j = n := by omega
    have q1 : ¬ (j : Int) < (j : Int) := by omega
    have hcap : j <= cap := by
     rcases hOw.2 with ⟨e, _⟩ | ⟨_, _, _, e, _, _, h9, _⟩
     ·cases e
     ·cases e; omega
    obtain ⟨us, hcl, hOc, hKc⟩ := clear_ints hOw hyl (i := i2) (by omega)
    have r0 : (0 : Int) <= (i2 : Int) := by omega
    have r1 : (i2 : Int) <= (j : Int) := by omega
    have r2 : (i2 : Int) <= (cap : Int) := by omega
    have r3 : ¬ cap = i2 := by omega
    have HP : Hid _ := And.intro hOc (And.intro hKc (And.intro hLf hKp))
    clear hOc hKc hLf hKp hOw hyl
    go_wp2_with fail
    go_ret
    refine ⟨_, rfl, ?_, rfl, (HP.out.2.2.2.trans HP.out.2.1).mono fun b _ e => by rw [e]; rfl⟩
    have h9 := HP.out.1
    rw [HP.out.2.2.1.head, H.out.2.2.2.1, List.take_length] at h9
    exact h9
 ·have q9 : True := trivial
  have H1 : Hid _ := And.intro hb1 hall
  clear hb1 hall
  go_wp2_with fail
  go_ret
  refine ⟨_, rfl, ?_, rfl, Kept.of_below H1.out.1⟩
  rw [List.filter_eq_self.2 (fun y hy => by rw [H1.out.2 y hy]; rfl)]
  have h9 : OwnI w1 B (.slice ao n cap) zs := trow_at H.out.1 fun b e => H1.out.1.block b (H.out.1.lt b e).2
  exact h9
set_option maxRecDepth 100000 in
set_option maxHeartbeats 4000000 in
theorem indexFunc3 (f : Nat) (F : Nat -> Prop) (b0 b1 b2 : Value) (P : Int -> Bool) (v : Value) (zs : List Int) (w : World) (hv : HasI w v zs) (hn : zs.length <= 1000000) (hE : Enters Tryz.prog f) (hA : Asks f #[b0, b1, b2] P zs fun W => Kept F w W) :
 Calls Tryz.prog 191 #[v, .func (.func f) #[] #[b0, b1, b2]] w fun r w' => Below w.heap.size w w' /\ ((∃ i : Nat, r = .returned (.int .i64 i) /\ (∃ z, zs[i]? = some z /\ P z = true) /\ ∀ z ∈ zs.take i, P z = false) \/ (r = .returned (.int .i64 (-1)) /\ ∀ z ∈ zs, P z = false)) := by
 unfold Enters at hE
 obtain ⟨ao, cap, rfl, hc⟩ := hv
 obtain ⟨n, hN⟩ : ∃ n, n = zs.length := ⟨_, rfl⟩
 rw [<- hN] at hn ⊢
 have H : Hid _ := And.intro hc (And.intro hA hN)
 clear hc hA hN
 go_enter Tryz.func191, Tryz.ntmps191
 go_wp2_with fail
 go_loopg [8] n (fun q iv wr => ∃ j : Nat, q = n - j /\ j <= n /\ iv = .int .i64 j /\ Below w.heap.size w wr /\ Hid (∀ z ∈ zs.take j, P z = false))
 case atStart => exact ⟨0, rfl, Nat.zero_le _, rfl, Below.refl _ _, (fun z hz => by simp at hz : ∀ z ∈ zs.take 0, P z = false)⟩
 case round =>
  obtain ⟨j, rfl, hj, rfl, hb, hP⟩ := hrel
  by_cases hlt : j < n
  ·have q0 : (0 : Int) <= (j : Int) := by omega
   have q1 : (j : Int) < (n : Int) := by omega
   obtain ⟨z, hz⟩ : ∃ z, zs[j]? = some z := ⟨zs[j]'(by have := H.out.2.2; omega), List.getElem?_eq_getElem _⟩
   obtain ⟨ad, rfl, hce⟩ := H.out.1 j z hz
   have hcw := (hb.cell (World.block_lt_of_cell? w _ hce)).trans hce
   have hAs := H.out.2.1 z wr (List.mem_of_getElem? hz) (Kept.of_below hb)
   have HZ : Hid _ := And.intro hz (And.intro hb hAs)
   clear hz hb hAs hce
   cases hp : P z with
   | true =>
     have HP : Hid (P z = true) := hp
     rw [hp] at HZ
     clear hp
     go_wp2_with (go_at_fn f; refine Calls.mono HZ.out.2.2 ?_; rintro r w2 ⟨rfl, hb2⟩; have H2 : Hid _ := And.intro hb2 trivial; clear hb2)
     go_ret
     exact ⟨del_bel H2.out.1 HZ.out.2.1, .inl ⟨j, rfl, ⟨z, HZ.out.1, HP.out⟩, hP.out⟩⟩
   | false =>
     have HP : Hid (P z = false) := hp
     rw [hp] at HZ
     clear hp
     go_wp2_with (go_at_fn f; refine Calls.mono HZ.out.2.2 ?_; rintro r w2 ⟨rfl, hb2⟩; have H2 : Hid _ := And.intro hb2 trivial; clear hb2)
     go_roundg (n - (j + 1))
     case measure => omega
     case rel =>
      refine ⟨j + 1, rfl, by omega, by go_num, del_bel H2.out.1 HZ.out.2.1, (fun y hy => ?_ : ∀ y ∈ zs.take (j + 1), P y = false)⟩
      rw [take_snoc HZ.out.1] at hy
      rcases List.mem_append.1 hy with h1 | h1
      ·exact hP.out y h1
      ·rw [List.mem_singleton.1 h1]; exact HP.out
  ·obtain rfl : j = n := by omega
   have q1 : ¬ (j : Int) < (j : Int) := by omega
   have HZ : Hid _ := And.intro hb trivial
   clear hb
   go_wp2_with fail
   go_ret
   refine ⟨HZ.out.1, .inr ⟨rfl, fun z hz => hP.out z ?_⟩⟩
   rw [H.out.2.2, List.take_length]; exact hz
set_option linter.unusedSimpArgs false in
set_option maxRecDepth 100000 in
set_option maxHeartbeats 8000000 in
theorem deleteFunc3 (f B : Nat) (b0 b1 b2 : Value) (P : Int -> Bool) (v : Value) (zs : List Int) (w : World) (hv : OwnI w B v zs) (hn : zs.length <= 1000000) (hE : Enters Tryz.prog f) (hA : Asks f #[b0, b1, b2] P zs fun W => Kept (fun b => v.ownBlock = some b) w W) :
 Calls Tryz.prog 162 #[v, .func (.func f) #[] #[b0, b1, b2]] w fun r w' => ∃ v', r = .returned v' /\ OwnI w' B v' (zs.filter fun z => !P z) /\ v'.ownBlock = v.ownBlock /\ Kept (fun b => v.ownBlock = some b) w w' := by
 have hI := indexFunc3 f (fun b => v.ownBlock = some b) b0 b1 b2 P v zs w hv.has hn hE hA
 unfold Enters at hE
 obtain ⟨n, hN⟩ : ∃ n, n = zs.length := ⟨_, rfl⟩
 obtain ⟨ao, cap, rfl⟩ := row_shape hv
 rw [<- hN] at hn hI hv hA ⊢
 have H : Hid _ := And.intro hv (And.intro hA (And.intro hI (And.intro hN trivial)))
 clear hv hI hN hA
 go_enter Tryz.func162, Tryz.ntmps162
 go_upto_region 2 with (go_at_call 191; refine Calls.mono H.out.2.2.1 ?_; rintro r w1 ⟨hb1, hr1⟩; rcases hr1 with ⟨i, rfl, hz, hf⟩ | ⟨rfl, hall⟩)
 ·obtain ⟨z, hz, hPz⟩ := hz
  have hil : i < n := by have := (List.getElem?_eq_some_iff.1 hz).1; have := H.out.2.2.2.1; omega
  have hO1 : OwnI w1 B (.slice ao n cap) zs := trow_at H.out.1 fun b e => hb1.block b (H.out.1.lt b e).2
  obtain ⟨g0, rfl, _⟩ := own_num hO1 hz
  obtain ⟨gs, rfl⟩ : ∃ gs, gs = g0 := ⟨_, rfl⟩
  have hL0 : Left P zs zs i (i + 1) := ⟨rfl, by omega, by have := H.out.2.2.2.1; omega, by
   rw [take_snoc hz, List.filter_append]
   have h1 : (zs.take i).filter (fun z => !P z) = zs.take i := List.filter_eq_self.2 fun y hy => by rw [hf y hy]; rfl
   rw [h1]; simp [hPz], rfl⟩
  have q9 : ((i : Int) == -1) = false := beq_eq_false_iff_ne.2 (by omega)
  have q8 : IntKind.i64.wrap ((i : Int) + 1) = (i : Int) + 1 := by rw [IntKind.wrap_i64]; omega
  have H1 : Hid _ := And.intro hO1 (And.intro hL0 (Kept.of_below (F := fun b => b = gs) hb1))
  clear hz hPz hf hO1 hL0 hb1
  go_wp2_with fail
  go_loopg [5, 6] (n - (i + 1)) (fun q iv jv wr => ∃ (i j : Nat) (ys : List Int), q = n - j /\ iv = .int .i64 i /\ jv = .int .i64 j /\ OwnI wr B (.slice (some ⟨gs, 0, none⟩) n cap) ys /\ Left P zs ys i j /\ Kept (fun b => b = gs) w wr)
  case atStart => exact ⟨i, i + 1, zs, rfl, rfl, by go_num, H1.out.1, H1.out.2.1, H1.out.2.2⟩
  case round =>
   obtain ⟨i2, j, ys, rfl, rfl, rfl, hOw, hLf, hKp⟩ := hrel
   have hjn : j <= n := by have := hLf.jn; have := H.out.2.2.2.1; omega
   have hij := hLf.ij
   have hyl : n = ys.length := by rw [hLf.len]; exact H.out.2.2.2.1
   clear q9 q8
   by_cases hlt : j < n
   ·have q0 : (0 : Int) <= (j : Int) := by omega
    have q1 : (j : Int) < (n : Int) := by omega
    have q2 : (0 : Int) <= (i2 : Int) := by omega
    have q3 : (i2 : Int) < (n : Int) := by omega
    obtain ⟨z, hz⟩ : ∃ z, zs[j]? = some z := ⟨zs[j]'(by have := H.out.2.2.2.1; omega), List.getElem?_eq_getElem _⟩
    have hce := hOw.cell (hLf.at hz)
    have hAs := H.out.2.1 z wr (List.mem_of_getElem? hz) (hKp.mono fun b _ e => by rw [e]; rfl)
    have HZ : Hid _ := And.intro hz (And.intro hOw (And.intro hLf (And.intro hKp (And.intro hAs hyl))))
    clear hz hOw hLf hKp hAs hyl
    cases hp : P z with
    | true =>
      have HP : Hid (P z = true) := hp
      rw [hp] at HZ
      clear hp
      go_wp2_with (go_at_fn f; refine Calls.mono HZ.out.2.2.2.2.1 ?_; rintro r w2 ⟨rfl, hb2⟩; have H2 : Hid _ := And.intro hb2 trivial; clear hb2)
      go_roundg (n - (j + 1))
      case measure => omega
      case rel => exact ⟨i2, j + 1, ys, rfl, rfl, by go_num, trow_at HZ.out.2.1 fun b e => H2.out.1.block b (HZ.out.2.1.lt b e).2, HZ.out.2.2.1.skip HZ.out.1 HP.out, HZ.out.2.2.2.1.trans (Kept.of_below H2.out.1)⟩
    | false =>
      have HP : Hid (P z = false) := hp
      rw [hp] at HZ
      clear hp
      have q4 : IntKind.i64.wrap ((i2 : Int) + 1) = (i2 : Int) + 1 := by rw [IntKind.wrap_i64]; omega
      go_wp2_with (go_at_fn f; refine Calls.mono HZ.out.2.2.2.2.1 ?_; rintro r w2 ⟨rfl, hb2⟩; have hO2 : OwnI w2 B (.slice (some ⟨gs, 0, none⟩) n cap) ys := (trow_at HZ.out.2.1 fun b e => hb2.block b (HZ.out.2.1.lt b e).2); have hc2 := hO2.cell (show ys[i2]? = some (ys[i2]'(by have := HZ.out.2.2.2.2.2; omega)) from List.getElem?_eq_getElem _); have hf2 : w2.frozen? ⟨gs, i2, none⟩ = false := (by have h9 := hO2; unfold OwnI at h9; rw [<- HZ.out.2.2.2.2.2] at h9; exact h9.frozenAt i2); have H2 : Hid _ := And.intro hb2 hO2; clear hb2 hO2)
      go_roundg (n - (j + 1))
      case measure => omega
      case rel => exact ⟨i2 + 1, j + 1, ys.set i2 z, rfl, by go_num, by go_num, H2.out.2.put2 HZ.out.2.2.2.2.2 i2 z, HZ.out.2.2.1.keep HZ.out.1 HP.out, (HZ.out.2.2.2.1.trans (Kept.of_below H2.out.1)).trans (Kept.setCell _ _ _ _)⟩
   ·obtain rfl : j = n := by omega
    have q1 : ¬ (j : Int) < (j : Int) := by omega
    have hcap : j <= cap := by
     rcases hOw.2 with ⟨e, _⟩ | ⟨_, _, _, e, _, _, h9, _⟩
     ·cases e
     ·cases e; omega
    obtain ⟨us, hcl, hOc, hKc⟩ := clear_ints hOw hyl (i := i2) (by omega)
    have r0 : (0 : Int) <= (i2 : Int) := by omega
    have r1 : (i2 : Int) <= (j : Int) := by omega
    have r2 : (i2 : Int) <= (cap : Int) := by omega
    have r3 : ¬ cap = i2 := by omega
    have HP : Hid _ := And.intro hOc (And.intro hKc (And.intro hLf hKp))
    clear hOc hKc hLf hKp hOw hyl
    go_wp2_with fail
    go_ret
    refine ⟨_, rfl, ?_, rfl, (HP.out.2.2.2.trans HP.out.2.1).mono fun b _ e => by rw [e]; rfl⟩
    have h9 := HP.out.1
    rw [HP.out.2.2.1.head, H.out.2.2.2.1, List.take_length] at h9
    exact h9
 ·have q9 : True := trivial
  have H1 : Hid _ := And.intro hb1 hall
  clear hb1 hall
  go_wp2_with fail
  go_ret
  refine ⟨_, rfl, ?_, rfl, Kept.of_below H1.out.1⟩
  rw [List.filter_eq_self.2 (fun y hy => by rw [H1.out.2 y hy]; rfl)]
  have h9 : OwnI w1 B (.slice ao n cap) zs := trow_at H.out.1 fun b e => H1.out.1.block b (H.out.1.lt b e).2
  exact h9
end
section
open Go.RowKit Go.Maps
attribute [local go_sem ↓] Go.wp_at_zero Go.wp_at_succ
theorem RnM.snocHeap {w w1 w2 : World} {B r g p mb k : Nat} {x : Rv} {vb vh' : Value} {zs : List Int} (h : RnM w B r g p mb x) (hb : Below w.heap.size w w1) (hq : Que w1 B vb zs) (hf : ∀ b, vb.ownBlock = some b -> w.heap.size <= b) (hk : Kept (fun b => x.vh.ownBlock = some b) w1 w2) (hrow : w2.ownsRow B 221 2 vh' (x.ks.length + 1) (hpC x.H x.ks ++ [vb, .int .i64 (k : Int)])) (hat : vh'.ownBlock = x.vh.ownBlock \/ ∀ b, vh'.ownBlock = some b -> w1.heap.size <= b) (ha : At0 vb) :
 RnM (w2.setCell ⟨r, 2, none⟩ vh') B r g p mb { x with vh := vh', H := x.H ++ [(vb, zs)], ks := x.ks ++ [k] } := by
 have h1 := h.below hb
 have hq1 := h.q.snoc hb hq hf
 have hvbf : ∀ b, Foot (x.L ++ [(vb, zs)]) b -> b ≠ r /\ x.vh.ownBlock ≠ some b := fun b hb2 => by
  rcases foot_snoc hb2 with h2 | h2
  ·exact ⟨fun e => h.r_foot (.inr (by rw [<- e]; exact h2)), fun e => h.heap_list e h2⟩
  ·have h3 := hf b h2
   exact ⟨fun e => by have := t_lt h.box; omega, fun e => by have := (h.hp.lt b e).2; omega⟩
 have hnr : ∀ b, vh'.ownBlock = some b -> b ≠ r := fun b hb2 e => by
  rcases hat with h2 | h2
  ·exact h.r_foot (.inl (by rw [<- h2, <- e]; exact hb2))
  ·have := h2 b hb2; have := t_lt h1.box; omega
 have hbx : w2.heap[r]? = w1.heap[r]? := hk.block r (t_lt h1.box) fun e => h.r_foot (.inl e)
 refine ⟨box_put (hbx.trans h1.box) vh', ?_, by rw [List.length_append, List.length_append, h.len]; rfl, ?_, h.up, fun z hz => (List.mem_append.1 hz).elim (h.fl z) fun e => by rw [List.mem_singleton.1 e]; exact ha⟩
 ·have h2 : World.ownsRow w2 B 221 2 vh' (x.ks ++ [k]).length (hpC (x.H ++ [(vb, zs)]) (x.ks ++ [k])) := by
   rw [List.length_append, hpC_snoc x.H x.ks (vb, zs) k h.len]
   exact hrow
  exact own_up h2 (Kept.setCell w2 r 2 vh') fun b hb2 e => hnr b hb2 e
 ·have h2 := (hq1.kept hk fun b hb2 => (hvbf b hb2).2).setBox (r := r) (k := 2) (fun b hb2 => (hvbf b hb2).1) vh'
  exact h2
theorem RnM.setOw {w : World} {B r g p mb gz oz n cap : Nat} {x : Rv} (h : RnM w B r g p mb x) (hv : x.vo = .slice (some ⟨gz, oz, none⟩) n cap) {i : Nat} (hi : i < x.ow.length) (z : Int) : RnM (w.setCell ⟨gz, oz + i, none⟩ (.int .i64 z)) B r g p mb { x with ow := x.ow.set i z } := by
 have hf : Foot x.L gz := ⟨(x.vo, x.ow), by simp [Rv.L], by rw [hv]; rfl⟩
 have hr : r ≠ gz := fun e => h.r_foot (.inr (by rw [e]; exact hf))
 have hk := Kept.setCell w gz (oz + i) (.int .i64 z)
 refine ⟨(hk.block r (t_lt h.box) hr).trans h.box, own_up h.hp hk fun b hb e => h.heap_list hb (by rw [e]; exact hf), h.len, ?_, h.up, h.fl⟩
 have h1 := h.q.setAt (k := 0) (zs := x.ow) (by rw [<- hv]; rfl) hi z
 rw [<- hv] at h1
 exact h1
theorem Que.one {w : World} {B b : Nat} {z : Int} (hB : B <= b) (h : w.heap[b]? = some (.cells #[.int .i64 z] 3 (0, 0))) : Que w B (.slice (some ⟨b, 0, none⟩) 1 1) [z] := .inr ⟨b, 0, 1, _, rfl, hB, h, Nat.le_refl _, by decide, .inl rfl, rfl⟩
theorem grew_snoc {w w1 w2 : World} {r : Nat} {x : Rv} {vb vh' : Value} {zs : List Int} {ks : List Nat} (hb : Below w.heap.size w w1) (hf : ∀ b, vb.ownBlock = some b -> w.heap.size <= b) (hk : Kept (fun b => x.vh.ownBlock = some b) w1 w2) (hat : vh'.ownBlock = x.vh.ownBlock \/ ∀ b, vh'.ownBlock = some b -> w1.heap.size <= b) :
 Grew w (w2.setCell ⟨r, 2, none⟩ vh') r x { x with vh := vh', H := x.H ++ [(vb, zs)], ks := ks } := by
 refine ⟨((Kept.of_below hb).trans (hk.mono fun b _ e => .inr (.inl e))).trans ((Kept.setCell w2 r 2 vh').mono fun b _ e => .inl e), fun b h => ?_⟩
 rcases h with h | h
 ·rcases hat with h2 | h2
  ·exact .inl (.inl (by rw [<- h2]; exact h))
  ·exact .inr (Nat.le_trans hb.size (h2 b h))
 ·rcases foot_snoc (L := x.L) (z := (vb, zs)) h with h2 | h2
  ·exact .inl (.inr h2)
  ·exact .inr (hf b h2)
theorem lift_kp {w w' : World} {a b c gh n k : Nat} {ca cb cc : Nat} {x y z : Value} (hk : Kept (fun i => (Value.slice (some ⟨gh, 0, none⟩) n k).ownBlock = some i) w w') (h1 : a ≠ gh) (h2 : b ≠ gh) (h3 : c ≠ gh) (h : w.cell? ⟨a, ca, none⟩ = some x /\ w.cell? ⟨b, cb, none⟩ = some y /\ w.cell? ⟨c, cc, none⟩ = some z) : w'.cell? ⟨a, ca, none⟩ = some x /\ w'.cell? ⟨b, cb, none⟩ = some y /\ w'.cell? ⟨c, cc, none⟩ = some z := by
 have hc : ∀ (i o : Nat) (v : Value), i ≠ gh -> w.cell? ⟨i, o, none⟩ = some v -> w'.cell? ⟨i, o, none⟩ = some v := fun i o v hi hv => (World.cell?_of_block (a := ⟨i, o, none⟩) (hk.block i (World.block_lt_of_cell? w _ hv) (fun e => hi (by cases e; rfl)))).trans hv
 exact ⟨hc _ _ _ h1 h.1, hc _ _ _ h2 h.2.1, hc _ _ _ h3 h.2.2⟩
theorem lift_st {w : World} {r b c cb cc : Nat} {x y z u : Value} (h2 : r ≠ b) (h3 : c ≠ r) (h : w.cell? ⟨r, 4, none⟩ = some x /\ w.cell? ⟨b, cb, none⟩ = some y /\ w.cell? ⟨c, cc, none⟩ = some z) : (w.setCell ⟨r, 2, none⟩ u).cell? ⟨r, 4, none⟩ = some x /\ (w.setCell ⟨r, 2, none⟩ u).cell? ⟨b, cb, none⟩ = some y /\ (w.setCell ⟨r, 2, none⟩ u).cell? ⟨c, cc, none⟩ = some z := by
 refine ⟨?_, (World.cell?_of_block (a := ⟨b, cb, none⟩) (set_other _ _ _ _ _ (fun e => h2 e.symm))).trans h.2.1, (World.cell?_of_block (a := ⟨c, cc, none⟩) (set_other _ _ _ _ _ h3)).trans h.2.2⟩
 exact (World.cell?_setCell_other w ⟨r, 2, none⟩ ⟨r, 4, none⟩ u (fun e => by injection e with _ e; cases e)).trans h.1
theorem Que.cellAt {w : World} {B g off n cap : Nat} {zs : List Int} (h : Que w B (.slice (some ⟨g, off, none⟩) n cap) zs) {i : Nat} {z : Int} (hi : zs[i]? = some z) : w.cell? ⟨g, off + i, none⟩ = some (.int .i64 z) /\ w.frozen? ⟨g, off + i, none⟩ = false := by
 obtain ⟨g', off', cap', e, _, h1, h2⟩ := h.cell hi
 cases e
 exact ⟨h1, h2⟩
theorem kcell2 {w w' : World} {b o : Nat} {u v : Value} (hk : Kept (fun b => u.ownBlock = some b) w w') (hne : u.ownBlock ≠ some b) (c : w.cell? ⟨b, o, none⟩ = some v) : w'.cell? ⟨b, o, none⟩ = some v := (World.cell?_of_block (a := ⟨b, o, none⟩) (hk.block b (World.block_lt_of_cell? w _ c) hne)).trans c
set_option maxHeartbeats 1000000 in
theorem lift1_asks (bb bl : Nat) (zs : List Int) (v : Value) (w : World) (hc : w.cell? ⟨bb, 0, none⟩ = some (.int .i64 bl)) (hne : v.ownBlock ≠ some bb) : Asks 186 #[.pointer (some ⟨bb, 0, none⟩)] (fun z => z == (bl : Int)) zs fun W => Kept (fun b => v.ownBlock = some b) w W := fun z W _ hk => by
 have c0 := kcell2 hk hne hc
 clear hc hne hk
 show Calls Tryz.prog 186 #[.int .i64 z, .pointer (some ⟨bb, 0, none⟩)] W _
 go_enter Tryz.func186, Tryz.ntmps186
 go_wp2
 go_ret
 exact ⟨rfl, Below.refl _ _⟩
end
section
open Go.RowKit Go.Maps
attribute [local go_sem ↓] Go.wp_at_zero Go.wp_at_succ
theorem Tryz.infoHp : (Tryz.prog.info? 221).map (fun i => (i.zero, i.size, i.bytes)) = some (some (.agg #[.slice none 0 0, .int .i64 0]), 2, 32) := by kernel_rfl
structure LiftAt (w w' : World) (B r g p mb : Nat) (x x' : Rv) (bl o k z : Nat) (bs : List Int) : Prop where
 m : RnM w' B r g p mb x'
 ow : x'.ow = x.ow.set bl (x.ks.length : Int)
 sz : x'.sz = x.sz
 wt : x'.wt = x.wt
 ks : x'.ks = x.ks.set o (k - z) ++ [z]
 hs : x'.H.map (·.2) = (x.H.map (·.2)).set o (bs.filter fun b => !(b == (bl : Int))) ++ [[(bl : Int)]]
 gw : Grew w w' r x x'
set_option linter.unusedSimpArgs false in
set_option maxRecDepth 100000 in
set_option maxHeartbeats 8000000 in
theorem lift_any (B r g p mb : Nat) (x : Rv) (bl o k z : Nat) (v : Value) (bs : List Int) (w : World) (hM : RnM w B r g p mb x) (how : x.ow[bl]? = some (o : Int)) (hsz : x.sz[bl]? = some (z : Int)) (hH : x.H[o]? = some (v, bs)) (hks : x.ks[o]? = some k) (hkl : x.ks.length <= 100000) (hbl : bs.length <= 100000) (hb0 : 0 < bs.length) (hzk : z <= k) (hk : k <= 1000) :
 Calls Tryz.prog 160 #[.pointer (some ⟨r, 0, none⟩), .int .i64 bl] w fun e w' => e = .returned (.tuple #[.int .i64 o, .int .i64 (x.ks.length : Int)]) /\ ∃ x', LiftAt w w' B r g p mb x x' bl o k z bs := by
 have hvO : OwnI w B v bs := (hM.q.q (o + 3) (v, bs) (by show x.H[o]? = _; exact hH)).own (hM.fl _ (List.mem_of_getElem? hH)) hb0
 obtain ⟨w1, hw1⟩ : ∃ w1, w1 = w.alloc (.cells #[.int .i64 bl] 3) := ⟨_, rfl⟩
 have hb1 : Below w.heap.size w w1 := by rw [hw1]; exact (Below.refl _ _).alloc (Nat.le_refl _) _
 have cb : w1.cell? ⟨w.heap.size, 0, none⟩ = some (.int .i64 bl) := by rw [hw1]; exact cell0_of (heap_alloc_new w _) rfl
 have hM1 := hM.below hb1
 obtain ⟨c0, c1, c2, c3, c4, c5, c6⟩ := seven_cells hM1.box
 have hol := (List.getElem?_eq_some_iff.1 how).1
 have hkk := (List.getElem?_eq_some_iff.1 hks).1
 obtain ⟨go, oo, co, hvo, hoc, cow, fow⟩ := (hM1.q.q 0 (x.vo, x.ow) rfl).cell how
 obtain ⟨gz, oz, cz, hvz, hzc, csz, fsz⟩ := (hM1.q.q 1 (x.vz, x.sz) rfl).cell hsz
 have hzl := (List.getElem?_eq_some_iff.1 hsz).1
 simp only at hvo hvz
 obtain ⟨gh, ch, hvh⟩ := hM1.hform (by omega)
 obtain ⟨nz, hnz⟩ : ∃ nz, nz = x.sz.length := ⟨_, rfl⟩
 obtain ⟨no, hno⟩ : ∃ no, no = x.ow.length := ⟨_, rfl⟩
 obtain ⟨nk, hnk⟩ : ∃ nk, nk = x.ks.length := ⟨_, rfl⟩
 obtain ⟨d0, d1, df⟩ := hM1.hcell hvh hH hks
 rw [hvo, <- hno] at c3
 rw [hvz, <- hnz] at c4
 rw [hvh, <- hnk] at c2
 rw [<- hno] at hol
 rw [<- hnz] at hzl
 rw [<- hnk] at hkk hkl ⊢
 have p0 : (0 : Int) <= (bl : Int) := by omega
 have p1 : (bl : Int) < (no : Int) := by omega
 have p2 : (bl : Int) < (nz : Int) := by omega
 have p3 : (0 : Int) <= (o : Int) := by omega
 have p4 : (o : Int) < (nk : Int) := by omega
 have hvO1 : OwnI w1 B v bs := trow_at hvO fun b e => hb1.block b (hvO.lt b e).2
 have hvn : ∀ b, v.ownBlock = some b -> w.heap.size ≠ b := fun b e e2 => by have := (hvO.lt b e).2; omega
 have H : Hid _ := And.intro hM1 (And.intro hb1 (And.intro hvo (And.intro hvz (And.intro hvh (And.intro hnz (And.intro hno (And.intro hnk (And.intro hH (And.intro hks (And.intro hvO1 (And.intro hvn (And.intro hw1 (And.intro hkl hbl)))))))))))))
 have H0 : Hid _ := And.intro how (And.intro hsz hM)
 have hd0 := d0
 obtain ⟨av, cv, hve⟩ := row_shape hvO1
 have HV : Hid _ := hve
 rw [hve] at d0
 obtain ⟨nb, hnb⟩ : ∃ nb, nb = bs.length := ⟨_, rfl⟩
 rw [<- hnb] at d0
 have HNB : Hid _ := And.intro hnb (And.intro hd0 (And.intro d1 df))
 clear hM hM1 hvo hvz hvh hnz hno hnk hH hks hvO hvO1 hvn how hsz hoc hzc hb1 hve hd0 hnb d1 df hbl hb0 hw1
 go_enter Tryz.func160, Tryz.ntmps160
 go_upto_region 1 with fail
 rw [<- H.out.2.2.2.2.2.2.2.2.2.2.2.2.1]
 refine wp_region_held_drew (S := (fun w' => (w'.cell? ⟨r, 2, none⟩ = some (.slice (some ⟨gh, 0, none⟩) nk ch) /\ w'.cell? ⟨r, 3, none⟩ = some (.slice (some ⟨go, oo, none⟩) no co)) /\ w'.cell? ⟨w.heap.size, 0, none⟩ = some (.int .i64 bl) /\ w'.cell? ⟨go, oo + bl, none⟩ = some (.int .i64 o))) (by kernel_rfl) ?_ (fun hHeld => ?_)
 ·exact ⟨⟨c2, c3⟩, cb, cow⟩
 refine tk8 0 rfl ?_; (try simp only [ty9, Act.put])
 refine tk8 1 rfl ?_; (try simp only [ty9, Act.put])
 refine tk8 2 rfl ?_; (try simp only [ty9, Act.put])
 refine tk8 3 rfl ?_; (try simp only [ty9, Act.put])
 refine tk8 4 rfl ?_; (try simp only [ty9, Act.put])
 refine tk8 5 rfl ?_; (try simp only [ty9, Act.put])
 refine tk8 6 rfl ?_; (try simp only [ty9, Act.put])
 refine tk8 7 rfl ?_; (try simp only [ty9, Act.put])
 refine tk8 8 rfl ?_; (try simp only [ty9, Act.put])
 refine tk8 9 rfl ?_; (try simp only [ty9, Act.put])
 refine tk8 10 rfl ?_; (try simp only [ty9, Act.put])
 refine tk8 11 rfl ?_; (try simp only [ty9, Act.put])
 refine tk8 12 rfl ?_; (try simp only [ty9, Act.put])
 refine tk8 13 rfl ?_; (try simp only [ty9, Act.put])
 refine wpAnyH_done (by kernel_rfl) ?_ _
 (try go_simp)
 clear hHeld
 have hbd : Below w1.heap.size w1 w1.drew := (Below.refl _ _).drew
 obtain ⟨wA, hwA⟩ : ∃ wA, wA = w1.drew := ⟨_, rfl⟩
 rw [<- hwA] at hbd ⊢
 clear hwA
 have hve := HV.out
 rw [<- HNB.out.1] at hve
 subst hve
 have hMA := H.out.1.below hbd
 have e2 := sg_cell c2 hbd
 have ebb := sg_cell cb hbd
 have ed0 := sg_cell d0 hbd
 have hOA : OwnI wA B (.slice av nb cv) bs := trow_at H.out.2.2.2.2.2.2.2.2.2.2.1 fun b e => hbd.block b (H.out.2.2.2.2.2.2.2.2.2.2.1.lt b e).2
 have hDel := deleteFunc1 186 B (.pointer (some ⟨w.heap.size, 0, none⟩)) (fun z => z == (bl : Int)) (.slice av nb cv) bs wA hOA (by have := H.out.2.2.2.2.2.2.2.2.2.2.2.2.2.2; omega) (enters_of Tryz.func186 (by kernel_rfl) rfl) (lift1_asks w.heap.size bl _ _ wA ebb fun e => H.out.2.2.2.2.2.2.2.2.2.2.2.1 _ e rfl)
 have hgn : (Value.slice av nb cv).ownBlock ≠ some gh := fun e => hMA.heap_list (b := gh) (by rw [H.out.2.2.2.2.1]; rfl) ⟨_, List.mem_of_getElem? (show x.L[o + 3]? = some _ from H.out.2.2.2.2.2.2.2.2.1), e⟩
 have hgf : wA.frozen? ⟨gh, o * 2, none⟩ = false := (hMA.hcell H.out.2.2.2.2.1 H.out.2.2.2.2.2.2.2.2.1 H.out.2.2.2.2.2.2.2.2.2.1).2.2 _
 have HD : Hid _ := And.intro hDel (And.intro hgn (And.intro hgf (And.intro hMA (And.intro hbd (And.intro ebb trivial)))))
 clear hDel hgn hgf hMA hbd c0 c1 c2 c3 c4 c5 c6 cb cow fow csz fsz d0 hOA ebb HV
 go_upto_region 4 with (go_at_call 162; refine Calls.mono HD.out.1 ?_; rintro r1 w2 ⟨v', rfl, hO2, hob, hkp⟩; obtain ⟨a2, m2, hv2⟩ := row_shape hO2; obtain ⟨n2, hn2⟩ : ∃ n2, n2 = (bs.filter fun b => !(b == (bl : Int))).length := ⟨_, rfl⟩; rw [<- hn2] at hv2; subst hv2; have q0 := kcell2 hkp HD.out.2.1 ed0; have qf : w2.frozen? ⟨gh, o * 2, none⟩ = false := (World.frozen?_of_block (hkp.block gh (World.block_lt_of_cell? wA _ ed0) HD.out.2.1)).trans HD.out.2.2.1; have H2 : Hid _ := And.intro hO2 (And.intro hob (And.intro hkp hn2)); clear hO2 hob hkp hn2)
 obtain ⟨xB, hxB⟩ : ∃ xB : Rv, xB = { x with H := x.H.set o (.slice a2 n2 m2, bs.filter fun b => !(b == (bl : Int))) } := ⟨_, rfl⟩
 obtain ⟨wB, hwB⟩ : ∃ wB, wB = w2.setCell ⟨gh, o * 2, none⟩ (.slice a2 n2 m2) := ⟨_, rfl⟩
 rw [<- hwB]
 have hMB : RnM wB B r g p mb xB := by rw [hwB, hxB]; exact HD.out.2.2.2.1.putHeap H.out.2.2.2.2.1 H.out.2.2.2.2.2.2.2.2.1 H2.out.2.2.1 (Que.of_own H2.out.1) (.inl H2.out.2.1) H2.out.1.at0
 have hkB : Kept (fun b => (Value.slice av nb cv).ownBlock = some b \/ b = gh) wA wB := by rw [hwB]; exact (H2.out.2.2.1.mono fun _ _ e => .inl e).trans ((Kept.setCell w2 gh _ _).mono fun _ _ e => .inr e)
 have hbA : Below w.heap.size w wA := sg_bel HD.out.2.2.2.2.1 H.out.2.1
 have hghf : x.foot gh := .inl (by rw [H.out.2.2.2.2.1]; rfl)
 have hvf : ∀ b, (Value.slice av nb cv).ownBlock = some b -> x.foot b := fun b e => .inr ⟨_, List.mem_of_getElem? (show x.L[o + 3]? = some _ from H.out.2.2.2.2.2.2.2.2.1), e⟩
 have hGB : Grew w wB r x xB := ⟨(Kept.of_below hbA).trans (hkB.mono fun b _ e => .inr (e.elim (hvf b) fun e => by rw [e]; exact hghf)), fun b hb => by rw [hxB] at hb; exact foot_app (x := x) (k := o + 3) (v' := .slice a2 n2 m2) (zs' := bs.filter fun b => !(b == (bl : Int))) H.out.2.2.2.2.2.2.2.2.1 (.inl H2.out.2.1) hb⟩
 have hbbf : ¬ ((Value.slice av nb cv).ownBlock = some w.heap.size \/ w.heap.size = gh) := fun e => by
  rcases e with e | e
  ·have := (H0.out.2.2.foot_lt (hvf _ e)).2; omega
  ·have := (H0.out.2.2.foot_lt hghf).2; omega
 have f0 : wB.cell? ⟨w.heap.size, 0, none⟩ = some (.int .i64 bl) := (World.cell?_of_block (a := ⟨w.heap.size, 0, none⟩) (hkB.block w.heap.size (World.block_lt_of_cell? wA _ HD.out.2.2.2.2.2.1) hbbf)).trans HD.out.2.2.2.2.2.1
 have hvhB : xB.vh = .slice (some ⟨gh, 0, none⟩) xB.ks.length ch := by rw [hxB]; exact H.out.2.2.2.2.1
 obtain ⟨_, f1, f2⟩ := hMB.hcell (o := o) (k := k) hvhB (by rw [hxB]; exact List.getElem?_set_self (List.getElem?_eq_some_iff.1 H.out.2.2.2.2.2.2.2.2.1).1) (by rw [hxB]; exact H.out.2.2.2.2.2.2.2.2.2.1)
 have f3 := (seven_cells hMB.box).2.2.2.2.1
 rw [show xB.vz = .slice (some ⟨gz, oz, none⟩) nz cz by rw [hxB, H.out.2.2.2.2.2.1]; exact H.out.2.2.2.1] at f3
 have f4 := (Que.cellAt (w := wB) (B := B) (g := gz) (off := oz) (n := nz) (cap := cz) (by have h9 := hMB.q.q 1 (xB.vz, xB.sz) rfl; rw [show xB.vz = .slice (some ⟨gz, oz, none⟩) nz cz by rw [hxB, H.out.2.2.2.2.2.1]; exact H.out.2.2.2.1] at h9; exact h9) (show xB.sz[bl]? = some (z : Int) by rw [hxB]; exact H0.out.2.1)).1
 have f5 := f2 (o * 2 + 1)
 have p5 : IntKind.i64.wrap ((k : Int) - (z : Int)) = (k : Int) - (z : Int) := by rw [IntKind.wrap_i64]; omega
 have HB : Hid _ := And.intro hMB (And.intro hGB (And.intro hxB (And.intro hvhB (And.intro hbbf hghf))))
 clear hMB hGB hxB hvhB hbbf hghf hvf hbA hkB hwB f2 q0 qf ed0 e2
 go_region
 have hpc : (k : Int) - (z : Int) = ((k - z : Nat) : Int) := by omega
 rw [hpc]
 obtain ⟨wC, hwC⟩ : ∃ wC, wC = (wB.setCell ⟨gh, o * 2 + 1, none⟩ (.int .i64 ((k - z : Nat) : Int))).drew := ⟨_, rfl⟩
 rw [<- hwC]
 obtain ⟨xC, hxC⟩ : ∃ xC : Rv, xC = { xB with ks := xB.ks.set o (k - z) } := ⟨_, rfl⟩
 have hMC : RnM wC B r g p mb xC := by rw [hwC, hxC]; exact (HB.out.1.putStates HB.out.2.2.2.1 (o := o) (k - z)).below ((Below.refl _ _).drew)
 have hkC : Kept (fun b => b = gh) wB wC := by rw [hwC]; exact (Kept.setCell wB gh _ _).trans (Kept.of_below ((Below.refl _ _).drew))
 have hfC : xB.foot = xC.foot := by rw [hxC]; rfl
 have hGC : Grew w wC r x xC := HB.out.2.1.trans ⟨hkC.mono fun b _ e => .inr (.inl (by rw [HB.out.2.2.2.1, e]; rfl)), fun b hb => .inl (by rw [hfC]; exact hb)⟩
 have g0 : wC.cell? ⟨w.heap.size, 0, none⟩ = some (.int .i64 bl) := (World.cell?_of_block (a := ⟨w.heap.size, 0, none⟩) (hkC.block w.heap.size (World.block_lt_of_cell? wB _ f0) fun e => HB.out.2.2.2.2.1 (.inr e))).trans f0
 have hlC : xC.ks.length = nk := by rw [hxC, HB.out.2.2.1, H.out.2.2.2.2.2.2.2.1]; exact List.length_set
 have hvhC : xC.vh = .slice (some ⟨gh, 0, none⟩) nk ch := by rw [hxC]; show xB.vh = _; rw [HB.out.2.2.1, H.out.2.2.2.2.2.2.2.1]; exact H.out.2.2.2.2.1
 have hvzC : xC.vz = .slice (some ⟨gz, oz, none⟩) nz cz := by rw [hxC, HB.out.2.2.1, H.out.2.2.2.2.2.1]; exact H.out.2.2.2.1
 have hvoC : xC.vo = .slice (some ⟨go, oo, none⟩) no co := by rw [hxC, HB.out.2.2.1, H.out.2.2.2.2.2.2.1]; exact H.out.2.2.1
 have hszC : xC.sz = x.sz := by rw [hxC, HB.out.2.2.1]
 have howC : xC.ow = x.ow := by rw [hxC, HB.out.2.2.1]
 have g1 := (seven_cells hMC.box).2.2.2.2.1
 rw [hvzC] at g1
 have g2 := (seven_cells hMC.box).2.2.1
 rw [hvhC] at g2
 have g3 := (Que.cellAt (w := wC) (B := B) (g := gz) (off := oz) (n := nz) (cap := cz) (by have h9 := hMC.q.q 1 (xC.vz, xC.sz) rfl; rw [hvzC] at h9; exact h9) (show xC.sz[bl]? = some (z : Int) by rw [hszC]; exact H0.out.2.1)).1
 have hwn : World.ownsRow wC B 221 2 (.slice (some ⟨gh, 0, none⟩) nk ch) nk (hpC xC.H xC.ks) := by have h9 := hMC.hp; rw [hvhC, hlC] at h9; exact h9
 obtain ⟨i0, hi0, hz0, hz1, hz2⟩ := info_parts Tryz.infoHp
 have HC : Hid _ := And.intro hMC (And.intro hGC (And.intro hxC (And.intro hlC (And.intro hvhC (And.intro hvoC (And.intro howC (And.intro hwn (And.intro hszC hvzC))))))))
 clear hMC hGC hxC hlC hvzC hvhC hvoC howC hwn hszC hkC hfC hwC hpc f0 f1 f3 f4 f5 p5
 have hba : Below wC.heap.size wC (wC.alloc (.cells #[.int .i64 bl] 3)) := (Below.refl _ _).alloc (Nat.le_refl _) _
 have k0 := sg_cell g0 hba
 have k1 := sg_cell g1 hba
 have k2 := sg_cell g2 hba
 have k3 := sg_cell g3 hba
 obtain ⟨W3, hW3⟩ : ∃ W3, W3 = ((wC.alloc (.cells #[.int .i64 bl] 3)).alloc (.cells #[.slice (some ⟨wC.heap.size, 0, none⟩) 1 1, .int .i64 z] 221)).drew := ⟨_, rfl⟩
 have hb3 : Below wC.heap.size wC W3 := by rw [hW3]; exact (((Below.refl _ _).alloc (Nat.le_refl _) _).alloc (by rw [World.size_alloc]; omega) _).drew
 have hs3 : W3.heap.size = wC.heap.size + 2 := by rw [hW3]; simp
 have hn3 : W3.heap[wC.heap.size + 1]? = some (.cells #[.slice (some ⟨wC.heap.size, 0, none⟩) 1 1, .int .i64 z] 221 (0, 0)) := by rw [hW3]; have h9 := heap_alloc_new (wC.alloc (.cells #[.int .i64 bl] 3)) (.cells #[.slice (some ⟨wC.heap.size, 0, none⟩) 1 1, .int .i64 z] 221); rw [World.size_alloc] at h9; exact h9
 have hm3 : W3.heap[wC.heap.size]? = some (.cells #[.int .i64 bl] 3 (0, 0)) := by rw [hW3]; exact (heap_alloc_old (wC.alloc (.cells #[.int .i64 bl] 3)) _ (by rw [World.size_alloc]; omega)).trans (heap_alloc_new wC _)
 have hO3 := own_up (F := fun _ => False) HC.out.2.2.2.2.2.2.2.1 (Kept.of_below hb3) (fun _ _ h => h)
 have hB3 : B <= wC.heap.size := by have := t_lt HC.out.1.box; have := HC.out.1.up; omega
 have hx3 : W3.heap[r]? = wC.heap[r]? := hb3.block r (t_lt HC.out.1.box)
 have hml : nk + 1 <= maxLen := by unfold maxLen; have := H.out.2.2.2.2.2.2.2.2.2.2.2.2.2.1; omega
 have hby : (nk + 1) * 32 <= 140737488355328 := by have := H.out.2.2.2.2.2.2.2.2.2.2.2.2.2.1; omega
 have HW : Hid _ := And.intro hb3 (And.intro hs3 (And.intro hn3 (And.intro hm3 (And.intro hO3 (And.intro hB3 (And.intro hx3 hW3))))))
 clear hb3 hs3 hn3 hm3 hO3 hB3 hx3 hW3
 have hrw : r ≠ w.heap.size := by have := t_lt H0.out.2.2.box; omega
 have hbg : w.heap.size ≠ gh := fun e => HB.out.2.2.2.2.1 (.inr e)
 have hrg : r ≠ gh := fun e => HC.out.1.r_foot (.inl (by rw [HC.out.2.2.2.2.1, e]; rfl))
 have hzf : Foot xC.L gz := ⟨(xC.vz, xC.sz), by simp [Rv.L], by rw [HC.out.2.2.2.2.2.2.2.2.2]; rfl⟩
 have hzg : gz ≠ gh := fun e => HC.out.1.heap_list (b := gh) (by rw [HC.out.2.2.2.2.1]; rfl) (by rw [<- e]; exact hzf)
 have hzr : gz ≠ r := fun e => HC.out.1.r_foot (.inr (by rw [<- e]; exact hzf))
 have l0 := sg_cell g0 HW.out.1
 have l1 := sg_cell g1 HW.out.1
 have l2 := sg_cell g2 HW.out.1
 have l3 := sg_cell g3 HW.out.1
 have HG : Hid _ := And.intro (And.intro l1 (And.intro l0 l3)) (And.intro hrw (And.intro hbg (And.intro hrg (And.intro hzg hzr))))
 rw [HW.out.2.2.2.2.2.2.2] at l2
 clear l0 l1 l3 hrw hbg hrg hzf hzg hzr
 have HK : Hid _ := And.intro k1 (And.intro k0 k3)
 clear k0 k1 k3
 go_upto_region 5 with fail
 refine wp_region_held_drew (S := (fun w' => w'.cell? ⟨r, 4, none⟩ = some (.slice (some ⟨gz, oz, none⟩) nz cz) /\ w'.cell? ⟨w.heap.size, 0, none⟩ = some (.int .i64 bl) /\ w'.cell? ⟨gz, oz + bl, none⟩ = some (.int .i64 z))) (by kernel_rfl) ?_ (fun hHeld => ?_)
 ·exact ⟨g1, g0, g3⟩
 refine tk8 0 rfl ?_; (try simp only [ty9, Act.put])
 refine tk8 1 rfl ?_; (try simp only [ty9, Act.put])
 refine tk8 2 rfl ?_; (try simp only [ty9, Act.put])
 refine tk8 3 rfl ?_; (try simp only [ty9, Act.put])
 refine tk8 5 rfl ?_; (try simp only [ty9, Act.put])
 refine tk8 7 rfl ?_; (try simp only [ty9, Act.put])
 refine tk8 8 rfl ?_; (try simp only [ty9, Act.put])
 refine tk8 9 rfl ?_; (try simp only [ty9, Act.put])
 refine tk8 10 rfl ?_; (try simp only [ty9, Act.put])
 refine tk8 11 rfl ?_; (try simp only [ty9, Act.put])
 refine tk8 12 rfl ?_; (try simp only [ty9, Act.put])
 refine tk8 13 rfl ?_; (try simp only [ty9, Act.put])
 refine wpAnyH_ready (rs := [4, 6]) (by kernel_rfl) (by simp) ?_
 refine AllReadyH.cons (o := _) rfl (fun K hK => ?_) ?_
 ·(go_simp)
  (try go_wp2_with fail)
  refine hK.out _ _ ?_ (fun hHeld => ?_)
  ·exact hHeld
  clear hK K
  (try simp only [ty9, Act.put])
  refine wpAnyH_ready (rs := [6]) (by kernel_rfl) (by simp) ?_
  refine AllReadyH.cons (o := _) rfl (fun K hK => ?_) ?_
  ·(go_simp)
   (try go_wp2_with fail)
   refine hK.out _ _ ?_ (fun hHeld => ?_)
   ·exact HK.out
   clear hK K
   (try simp only [ty9, Act.put])
   refine tk8 14 rfl ?_; (try simp only [ty9, Act.put])
   refine wpAnyH_ready (rs := [15]) (by kernel_rfl) (by simp) ?_
   refine AllReadyH.cons (o := _) rfl (fun K hK => ?_) ?_
   ·(go_simp)
    (try go_wp2_with fail)
    refine hK.out _ _ ?_ (fun hHeld => ?_)
    ·(have h9 := HG.out.1; rw [HW.out.2.2.2.2.2.2.2] at h9; exact h9)
    clear hK K
    (try simp only [ty9, Act.put])
    refine wpAnyH_ready (rs := [16]) (by kernel_rfl) (by simp) ?_
    refine AllReadyH.cons (o := _) rfl (fun K hK => ?_) ?_
    ·(rw [<- HW.out.2.2.2.2.2.2.2]; refine step_append_lies _ (by rfl) _ _ _ (by rfl) B 221 i0 _ 2 32 Tryz.underlying200 hi0 hz0 hz1 hz2 rfl (Nat.succ_pos 1) (.slice (some ⟨gh, 0, none⟩) nk ch) nk (hpC xC.H xC.ks) (by rfl) HW.out.2.2.2.2.1 ⟨wC.heap.size + 1, 0, none⟩ 1 1 [.slice (some ⟨wC.heap.size, 0, none⟩) 1 1, .int .i64 z] (by rfl) (by rfl) (World.news_of_block HW.out.2.2.1) (by simp [Value.oneCell']) Nat.one_pos hml hby (by have := HW.out.2.1; have := HW.out.2.2.2.2.2.1; omega) (wC.heap.size + 2) HW.out.2.1 ?_; intro gg cap2 w3 hown3 hgrow hat hlt; have hk3 := Kept.of_grown hgrow; have hr3 : w3.heap[r]? = wC.heap[r]? := (hk3.block r (by have := t_lt HC.out.1.box; have := HW.out.2.1; omega) (fun e => HC.out.1.r_foot (.inl (by rw [HC.out.2.2.2.2.1]; exact e)))).trans HW.out.2.2.2.2.2.2.1; have hbx := hr3.trans HC.out.1.box; have bc := (seven_cells hbx).2.2.1; rw [HC.out.2.2.2.2.1] at bc; have bf := blk_free hbx 2; have HN : Hid _ := And.intro hown3 (And.intro hk3 (And.intro hat hlt)); clear hown3 hk3 hat hlt hbx hr3 hgrow)
     (try go_wp2_with fail)
     refine hK.out _ _ ?_ (fun hHeld => ?_)
     ·exact lift_kp HN.out.2.1 HG.out.2.2.2.1 HG.out.2.2.1 HG.out.2.2.2.2.1 HG.out.1
     clear hK K
     (try simp only [ty9, Act.put])
     refine tk8 17 rfl ?_; (try simp only [ty9, Act.put])
     refine tk8 18 rfl ?_; (try simp only [ty9, Act.put])
     refine wpAnyH_ready (rs := [19]) (by kernel_rfl) (by simp) ?_
     refine AllReadyH.cons (o := _) rfl (fun K hK => ?_) ?_
     ·(go_simp)
      (try go_wp2_with fail)
      refine hK.out _ _ ?_ (fun hHeld => ?_)
      ·exact lift_st HG.out.2.1 HG.out.2.2.2.2.2 hHeld
      clear hK K
      (try simp only [ty9, Act.put])
      refine wpAnyH_done (by kernel_rfl) ?_ _
      (try go_simp)
      obtain ⟨xD, hxD⟩ : ∃ xD : Rv, xD = { xC with vh := .slice (some ⟨gg, 0, none⟩) (nk + 1) cap2, H := xC.H ++ [(.slice (some ⟨wC.heap.size, 0, none⟩) 1 1, [(bl : Int)])], ks := xC.ks ++ [z] } := ⟨_, rfl⟩
      obtain ⟨wD, hwD⟩ : ∃ wD, wD = w3.setCell ⟨r, 2, none⟩ (.slice (some ⟨gg, 0, none⟩) (nk + 1) cap2) := ⟨_, rfl⟩
      rw [<- hwD] at hHeld ⊢
      have hk3 : Kept (fun b => xC.vh.ownBlock = some b) W3 w3 := by rw [HC.out.2.2.2.2.1]; exact HN.out.2.1
      have hat3 : (Value.slice (some ⟨gg, 0, none⟩) (nk + 1) cap2).ownBlock = xC.vh.ownBlock \/ ∀ b, (Value.slice (some ⟨gg, 0, none⟩) (nk + 1) cap2).ownBlock = some b -> W3.heap.size <= b := by
       rw [HC.out.2.2.2.2.1]
       rcases HN.out.2.2.1 with e | e
       ·exact .inl e.symm
       ·exact .inr fun b e2 => by have e3 : gg = b := Option.some.inj e2; have := HW.out.2.1; omega
      have hf3 : ∀ b, (Value.slice (some ⟨wC.heap.size, 0, none⟩) 1 1).ownBlock = some b -> wC.heap.size <= b := fun b e => by cases e; exact Nat.le_refl _
      have hMD : RnM wD B r g p mb xD := by rw [hwD, hxD]; exact HC.out.1.snocHeap HW.out.1 (Que.one HW.out.2.2.2.2.2.1 HW.out.2.2.2.1) hf3 hk3 (by rw [HC.out.2.2.2.1]; exact HN.out.1) hat3 (at0_of _ _ _)
      have hGD : Grew w wD r x xD := HC.out.2.1.trans (by rw [hwD, hxD]; exact grew_snoc HW.out.1 hf3 hk3 hat3)
      have hvoD : xD.vo = .slice (some ⟨go, oo, none⟩) no co := by rw [hxD]; exact HC.out.2.2.2.2.2.1
      have howD : xD.ow = x.ow := by rw [hxD]; exact HC.out.2.2.2.2.2.2.1
      have j0 := hHeld.2.1
      have j1 := (seven_cells hMD.box).2.2.2.1
      rw [hvoD] at j1
      obtain ⟨j2, j3⟩ := Que.cellAt (w := wD) (B := B) (g := go) (off := oo) (n := no) (cap := co) (by have h9 := hMD.q.q 0 (xD.vo, xD.ow) rfl; rw [hvoD] at h9; exact h9) (show xD.ow[bl]? = some (o : Int) by rw [howD]; exact H0.out.1)
      have HE : Hid _ := And.intro hMD (And.intro hGD (And.intro hvoD (And.intro howD hxD)))
      clear hHeld hMD hGD hvoD howD hxD hk3 hat3 hf3 hwD bc bf
      go_upto_region 6 with fail
      go_region
      go_wp2_with fail
      go_ret2
      have hg9 := And.intro HC.out.2.2.1 HB.out.2.2.1
      refine ⟨rfl, { xD with ow := xD.ow.set bl (nk : Int) }, (HE.out.1.setOw HE.out.2.2.1 (by rw [HE.out.2.2.2.1, <- H.out.2.2.2.2.2.2.1]; exact hol) _).below ((Below.refl _ _).drew), ?_, ?_, ?_, ?_, ?_, HE.out.2.1.trans ⟨((Kept.setCell wD go _ _).mono fun b _ e => .inr (.inr ⟨(xD.vo, xD.ow), by simp [Rv.L], by simp only; rw [HE.out.2.2.1, e]; rfl⟩)).trans (Kept.of_below ((Below.refl _ _).drew)), fun b hb => foot_app (x := xD) (k := 0) (v' := xD.vo) (zs' := xD.ow.set bl (nk : Int)) rfl (.inl rfl) hb⟩⟩
      ·show xD.ow.set bl (nk : Int) = _; rw [HE.out.2.2.2.1, H.out.2.2.2.2.2.2.2.1]
      ·show xD.sz = _; rw [HE.out.2.2.2.2]; exact HC.out.2.2.2.2.2.2.2.2.1
      ·show xD.wt = _; rw [HE.out.2.2.2.2]; show xC.wt = _; rw [hg9.1, hg9.2]
      ·show xD.ks = _; rw [HE.out.2.2.2.2]; show xC.ks ++ [z] = _; rw [hg9.1, hg9.2]
      ·show xD.H.map (·.2) = _; rw [HE.out.2.2.2.2]; show (xC.H ++ _).map (·.2) = _; rw [hg9.1, hg9.2, List.map_append, List.map_set]; rfl
     exact AllReadyH.nil
    exact AllReadyH.nil
   exact AllReadyH.nil
  exact AllReadyH.nil
 refine AllReadyH.cons (o := _) rfl (fun K hK => ?_) ?_
 ·(go_simp)
  (try go_wp2_with fail)
  refine hK.out _ _ ?_ (fun hHeld => ?_)
  ·exact HK.out
  clear hK K
  (try simp only [ty9, Act.put])
  refine tk8 14 rfl ?_; (try simp only [ty9, Act.put])
  refine wpAnyH_ready (rs := [4, 15]) (by kernel_rfl) (by simp) ?_
  refine AllReadyH.cons (o := _) rfl (fun K hK => ?_) ?_
  ·(go_simp)
   (try go_wp2_with fail)
   refine hK.out _ _ ?_ (fun hHeld => ?_)
   ·exact hHeld
   clear hK K
   (try simp only [ty9, Act.put])
   refine wpAnyH_ready (rs := [15]) (by kernel_rfl) (by simp) ?_
   refine AllReadyH.cons (o := _) rfl (fun K hK => ?_) ?_
   ·(go_simp)
    (try go_wp2_with fail)
    refine hK.out _ _ ?_ (fun hHeld => ?_)
    ·(have h9 := HG.out.1; rw [HW.out.2.2.2.2.2.2.2] at h9; exact h9)
    clear hK K
    (try simp only [ty9, Act.put])
    refine wpAnyH_ready (rs := [16]) (by kernel_rfl) (by simp) ?_
    refine AllReadyH.cons (o := _) rfl (fun K hK => ?_) ?_
    ·(rw [<- HW.out.2.2.2.2.2.2.2]; refine step_append_lies _ (by rfl) _ _ _ (by rfl) B 221 i0 _ 2 32 Tryz.underlying200 hi0 hz0 hz1 hz2 rfl (Nat.succ_pos 1) (.slice (some ⟨gh, 0, none⟩) nk ch) nk (hpC xC.H xC.ks) (by rfl) HW.out.2.2.2.2.1 ⟨wC.heap.size + 1, 0, none⟩ 1 1 [.slice (some ⟨wC.heap.size, 0, none⟩) 1 1, .int .i64 z] (by rfl) (by rfl) (World.news_of_block HW.out.2.2.1) (by simp [Value.oneCell']) Nat.one_pos hml hby (by have := HW.out.2.1; have := HW.out.2.2.2.2.2.1; omega) (wC.heap.size + 2) HW.out.2.1 ?_; intro gg cap2 w3 hown3 hgrow hat hlt; have hk3 := Kept.of_grown hgrow; have hr3 : w3.heap[r]? = wC.heap[r]? := (hk3.block r (by have := t_lt HC.out.1.box; have := HW.out.2.1; omega) (fun e => HC.out.1.r_foot (.inl (by rw [HC.out.2.2.2.2.1]; exact e)))).trans HW.out.2.2.2.2.2.2.1; have hbx := hr3.trans HC.out.1.box; have bc := (seven_cells hbx).2.2.1; rw [HC.out.2.2.2.2.1] at bc; have bf := blk_free hbx 2; have HN : Hid _ := And.intro hown3 (And.intro hk3 (And.intro hat hlt)); clear hown3 hk3 hat hlt hbx hr3 hgrow)
     (try go_wp2_with fail)
     refine hK.out _ _ ?_ (fun hHeld => ?_)
     ·exact lift_kp HN.out.2.1 HG.out.2.2.2.1 HG.out.2.2.1 HG.out.2.2.2.2.1 HG.out.1
     clear hK K
     (try simp only [ty9, Act.put])
     refine tk8 17 rfl ?_; (try simp only [ty9, Act.put])
     refine tk8 18 rfl ?_; (try simp only [ty9, Act.put])
     refine wpAnyH_ready (rs := [19]) (by kernel_rfl) (by simp) ?_
     refine AllReadyH.cons (o := _) rfl (fun K hK => ?_) ?_
     ·(go_simp)
      (try go_wp2_with fail)
      refine hK.out _ _ ?_ (fun hHeld => ?_)
      ·exact lift_st HG.out.2.1 HG.out.2.2.2.2.2 hHeld
      clear hK K
      (try simp only [ty9, Act.put])
      refine wpAnyH_done (by kernel_rfl) ?_ _
      (try go_simp)
      obtain ⟨xD, hxD⟩ : ∃ xD : Rv, xD = { xC with vh := .slice (some ⟨gg, 0, none⟩) (nk + 1) cap2, H := xC.H ++ [(.slice (some ⟨wC.heap.size, 0, none⟩) 1 1, [(bl : Int)])], ks := xC.ks ++ [z] } := ⟨_, rfl⟩
      obtain ⟨wD, hwD⟩ : ∃ wD, wD = w3.setCell ⟨r, 2, none⟩ (.slice (some ⟨gg, 0, none⟩) (nk + 1) cap2) := ⟨_, rfl⟩
      rw [<- hwD] at hHeld ⊢
      have hk3 : Kept (fun b => xC.vh.ownBlock = some b) W3 w3 := by rw [HC.out.2.2.2.2.1]; exact HN.out.2.1
      have hat3 : (Value.slice (some ⟨gg, 0, none⟩) (nk + 1) cap2).ownBlock = xC.vh.ownBlock \/ ∀ b, (Value.slice (some ⟨gg, 0, none⟩) (nk + 1) cap2).ownBlock = some b -> W3.heap.size <= b := by
       rw [HC.out.2.2.2.2.1]
       rcases HN.out.2.2.1 with e | e
       ·exact .inl e.symm
       ·exact .inr fun b e2 => by have e3 : gg = b := Option.some.inj e2; have := HW.out.2.1; omega
      have hf3 : ∀ b, (Value.slice (some ⟨wC.heap.size, 0, none⟩) 1 1).ownBlock = some b -> wC.heap.size <= b := fun b e => by cases e; exact Nat.le_refl _
      have hMD : RnM wD B r g p mb xD := by rw [hwD, hxD]; exact HC.out.1.snocHeap HW.out.1 (Que.one HW.out.2.2.2.2.2.1 HW.out.2.2.2.1) hf3 hk3 (by rw [HC.out.2.2.2.1]; exact HN.out.1) hat3 (at0_of _ _ _)
      have hGD : Grew w wD r x xD := HC.out.2.1.trans (by rw [hwD, hxD]; exact grew_snoc HW.out.1 hf3 hk3 hat3)
      have hvoD : xD.vo = .slice (some ⟨go, oo, none⟩) no co := by rw [hxD]; exact HC.out.2.2.2.2.2.1
      have howD : xD.ow = x.ow := by rw [hxD]; exact HC.out.2.2.2.2.2.2.1
      have j0 := hHeld.2.1
      have j1 := (seven_cells hMD.box).2.2.2.1
      rw [hvoD] at j1
      obtain ⟨j2, j3⟩ := Que.cellAt (w := wD) (B := B) (g := go) (off := oo) (n := no) (cap := co) (by have h9 := hMD.q.q 0 (xD.vo, xD.ow) rfl; rw [hvoD] at h9; exact h9) (show xD.ow[bl]? = some (o : Int) by rw [howD]; exact H0.out.1)
      have HE : Hid _ := And.intro hMD (And.intro hGD (And.intro hvoD (And.intro howD hxD)))
      clear hHeld hMD hGD hvoD howD hxD hk3 hat3 hf3 hwD bc bf
      go_upto_region 6 with fail
      go_region
      go_wp2_with fail
      go_ret2
      have hg9 := And.intro HC.out.2.2.1 HB.out.2.2.1
      refine ⟨rfl, { xD with ow := xD.ow.set bl (nk : Int) }, (HE.out.1.setOw HE.out.2.2.1 (by rw [HE.out.2.2.2.1, <- H.out.2.2.2.2.2.2.1]; exact hol) _).below ((Below.refl _ _).drew), ?_, ?_, ?_, ?_, ?_, HE.out.2.1.trans ⟨((Kept.setCell wD go _ _).mono fun b _ e => .inr (.inr ⟨(xD.vo, xD.ow), by simp [Rv.L], by simp only; rw [HE.out.2.2.1, e]; rfl⟩)).trans (Kept.of_below ((Below.refl _ _).drew)), fun b hb => foot_app (x := xD) (k := 0) (v' := xD.vo) (zs' := xD.ow.set bl (nk : Int)) rfl (.inl rfl) hb⟩⟩
      ·show xD.ow.set bl (nk : Int) = _; rw [HE.out.2.2.2.1, H.out.2.2.2.2.2.2.2.1]
      ·show xD.sz = _; rw [HE.out.2.2.2.2]; exact HC.out.2.2.2.2.2.2.2.2.1
      ·show xD.wt = _; rw [HE.out.2.2.2.2]; show xC.wt = _; rw [hg9.1, hg9.2]
      ·show xD.ks = _; rw [HE.out.2.2.2.2]; show xC.ks ++ [z] = _; rw [hg9.1, hg9.2]
      ·show xD.H.map (·.2) = _; rw [HE.out.2.2.2.2]; show (xC.H ++ _).map (·.2) = _; rw [hg9.1, hg9.2, List.map_append, List.map_set]; rfl
     exact AllReadyH.nil
    exact AllReadyH.nil
   exact AllReadyH.nil
  refine AllReadyH.cons (o := _) rfl (fun K hK => ?_) ?_
  ·(go_simp)
   (try go_wp2_with fail)
   refine hK.out _ _ ?_ (fun hHeld => ?_)
   ·(have h9 := HG.out.1; rw [HW.out.2.2.2.2.2.2.2] at h9; exact h9)
   clear hK K
   (try simp only [ty9, Act.put])
   refine wpAnyH_ready (rs := [4]) (by kernel_rfl) (by simp) ?_
   refine AllReadyH.cons (o := _) rfl (fun K hK => ?_) ?_
   ·(go_simp)
    (try go_wp2_with fail)
    refine hK.out _ _ ?_ (fun hHeld => ?_)
    ·exact hHeld
    clear hK K
    (try simp only [ty9, Act.put])
    refine wpAnyH_ready (rs := [16]) (by kernel_rfl) (by simp) ?_
    refine AllReadyH.cons (o := _) rfl (fun K hK => ?_) ?_
    ·(rw [<- HW.out.2.2.2.2.2.2.2]; refine step_append_lies _ (by rfl) _ _ _ (by rfl) B 221 i0 _ 2 32 Tryz.underlying200 hi0 hz0 hz1 hz2 rfl (Nat.succ_pos 1) (.slice (some ⟨gh, 0, none⟩) nk ch) nk (hpC xC.H xC.ks) (by rfl) HW.out.2.2.2.2.1 ⟨wC.heap.size + 1, 0, none⟩ 1 1 [.slice (some ⟨wC.heap.size, 0, none⟩) 1 1, .int .i64 z] (by rfl) (by rfl) (World.news_of_block HW.out.2.2.1) (by simp [Value.oneCell']) Nat.one_pos hml hby (by have := HW.out.2.1; have := HW.out.2.2.2.2.2.1; omega) (wC.heap.size + 2) HW.out.2.1 ?_; intro gg cap2 w3 hown3 hgrow hat hlt; have hk3 := Kept.of_grown hgrow; have hr3 : w3.heap[r]? = wC.heap[r]? := (hk3.block r (by have := t_lt HC.out.1.box; have := HW.out.2.1; omega) (fun e => HC.out.1.r_foot (.inl (by rw [HC.out.2.2.2.2.1]; exact e)))).trans HW.out.2.2.2.2.2.2.1; have hbx := hr3.trans HC.out.1.box; have bc := (seven_cells hbx).2.2.1; rw [HC.out.2.2.2.2.1] at bc; have bf := blk_free hbx 2; have HN : Hid _ := And.intro hown3 (And.intro hk3 (And.intro hat hlt)); clear hown3 hk3 hat hlt hbx hr3 hgrow)
     (try go_wp2_with fail)
     refine hK.out _ _ ?_ (fun hHeld => ?_)
     ·exact lift_kp HN.out.2.1 HG.out.2.2.2.1 HG.out.2.2.1 HG.out.2.2.2.2.1 HG.out.1
     clear hK K
     (try simp only [ty9, Act.put])
     refine tk8 17 rfl ?_; (try simp only [ty9, Act.put])
     refine tk8 18 rfl ?_; (try simp only [ty9, Act.put])
     refine wpAnyH_ready (rs := [19]) (by kernel_rfl) (by simp) ?_
     refine AllReadyH.cons (o := _) rfl (fun K hK => ?_) ?_
     ·(go_simp)
      (try go_wp2_with fail)
      refine hK.out _ _ ?_ (fun hHeld => ?_)
      ·exact lift_st HG.out.2.1 HG.out.2.2.2.2.2 hHeld
      clear hK K
      (try simp only [ty9, Act.put])
      refine wpAnyH_done (by kernel_rfl) ?_ _
      (try go_simp)
      obtain ⟨xD, hxD⟩ : ∃ xD : Rv, xD = { xC with vh := .slice (some ⟨gg, 0, none⟩) (nk + 1) cap2, H := xC.H ++ [(.slice (some ⟨wC.heap.size, 0, none⟩) 1 1, [(bl : Int)])], ks := xC.ks ++ [z] } := ⟨_, rfl⟩
      obtain ⟨wD, hwD⟩ : ∃ wD, wD = w3.setCell ⟨r, 2, none⟩ (.slice (some ⟨gg, 0, none⟩) (nk + 1) cap2) := ⟨_, rfl⟩
      rw [<- hwD] at hHeld ⊢
      have hk3 : Kept (fun b => xC.vh.ownBlock = some b) W3 w3 := by rw [HC.out.2.2.2.2.1]; exact HN.out.2.1
      have hat3 : (Value.slice (some ⟨gg, 0, none⟩) (nk + 1) cap2).ownBlock = xC.vh.ownBlock \/ ∀ b, (Value.slice (some ⟨gg, 0, none⟩) (nk + 1) cap2).ownBlock = some b -> W3.heap.size <= b := by
       rw [HC.out.2.2.2.2.1]
       rcases HN.out.2.2.1 with e | e
       ·exact .inl e.symm
       ·exact .inr fun b e2 => by have e3 : gg = b := Option.some.inj e2; have := HW.out.2.1; omega
      have hf3 : ∀ b, (Value.slice (some ⟨wC.heap.size, 0, none⟩) 1 1).ownBlock = some b -> wC.heap.size <= b := fun b e => by cases e; exact Nat.le_refl _
      have hMD : RnM wD B r g p mb xD := by rw [hwD, hxD]; exact HC.out.1.snocHeap HW.out.1 (Que.one HW.out.2.2.2.2.2.1 HW.out.2.2.2.1) hf3 hk3 (by rw [HC.out.2.2.2.1]; exact HN.out.1) hat3 (at0_of _ _ _)
      have hGD : Grew w wD r x xD := HC.out.2.1.trans (by rw [hwD, hxD]; exact grew_snoc HW.out.1 hf3 hk3 hat3)
      have hvoD : xD.vo = .slice (some ⟨go, oo, none⟩) no co := by rw [hxD]; exact HC.out.2.2.2.2.2.1
      have howD : xD.ow = x.ow := by rw [hxD]; exact HC.out.2.2.2.2.2.2.1
      have j0 := hHeld.2.1
      have j1 := (seven_cells hMD.box).2.2.2.1
      rw [hvoD] at j1
      obtain ⟨j2, j3⟩ := Que.cellAt (w := wD) (B := B) (g := go) (off := oo) (n := no) (cap := co) (by have h9 := hMD.q.q 0 (xD.vo, xD.ow) rfl; rw [hvoD] at h9; exact h9) (show xD.ow[bl]? = some (o : Int) by rw [howD]; exact H0.out.1)
      have HE : Hid _ := And.intro hMD (And.intro hGD (And.intro hvoD (And.intro howD hxD)))
      clear hHeld hMD hGD hvoD howD hxD hk3 hat3 hf3 hwD bc bf
      go_upto_region 6 with fail
      go_region
      go_wp2_with fail
      go_ret2
      have hg9 := And.intro HC.out.2.2.1 HB.out.2.2.1
      refine ⟨rfl, { xD with ow := xD.ow.set bl (nk : Int) }, (HE.out.1.setOw HE.out.2.2.1 (by rw [HE.out.2.2.2.1, <- H.out.2.2.2.2.2.2.1]; exact hol) _).below ((Below.refl _ _).drew), ?_, ?_, ?_, ?_, ?_, HE.out.2.1.trans ⟨((Kept.setCell wD go _ _).mono fun b _ e => .inr (.inr ⟨(xD.vo, xD.ow), by simp [Rv.L], by simp only; rw [HE.out.2.2.1, e]; rfl⟩)).trans (Kept.of_below ((Below.refl _ _).drew)), fun b hb => foot_app (x := xD) (k := 0) (v' := xD.vo) (zs' := xD.ow.set bl (nk : Int)) rfl (.inl rfl) hb⟩⟩
      ·show xD.ow.set bl (nk : Int) = _; rw [HE.out.2.2.2.1, H.out.2.2.2.2.2.2.2.1]
      ·show xD.sz = _; rw [HE.out.2.2.2.2]; exact HC.out.2.2.2.2.2.2.2.2.1
      ·show xD.wt = _; rw [HE.out.2.2.2.2]; show xC.wt = _; rw [hg9.1, hg9.2]
      ·show xD.ks = _; rw [HE.out.2.2.2.2]; show xC.ks ++ [z] = _; rw [hg9.1, hg9.2]
      ·show xD.H.map (·.2) = _; rw [HE.out.2.2.2.2]; show (xC.H ++ _).map (·.2) = _; rw [hg9.1, hg9.2, List.map_append, List.map_set]; rfl
     exact AllReadyH.nil
    exact AllReadyH.nil
   exact AllReadyH.nil
  exact AllReadyH.nil
 exact AllReadyH.nil
end
end Go.Proofs.YthcpliinddjkhaaGreatDoor
