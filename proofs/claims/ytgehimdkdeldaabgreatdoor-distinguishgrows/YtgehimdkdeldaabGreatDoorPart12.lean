/- Texts of this claim, joined: SgSmall, SgNext, SyRch, SyEdg, SgBeg0, SoPiv, SoHeap, SoHeap2. -/
import Derived.Test.YtgehimdkdeldaabGreatDoorPart0
import Derived.Test.YtgehimdkdeldaabGreatDoorPart9
import Derived.Test.YtgehimdkdeldaabGreatDoorPart1
import Derived.BigRegion
import Derived.Deep.LoopGhost
import Derived.Test.YtgehimdkdeldaabGreatDoorPart3
import Derived.Deep.AppendLies
import Derived.Maps.AppendAt
import Derived.Test.YtgehimdkdeldaabGreatDoorPart11
import Derived.Test.YtgehimdkdeldaabGreatDoorPart2
namespace Go.Proofs.YtgehimdkdeldaabGreatDoor
section
open Go.RowKit Go.Maps
attribute [local go_sem ↓] Go.wp_at_zero Go.wp_at_succ
set_option linter.unusedSimpArgs false in
set_option maxRecDepth 100000 in
set_option maxHeartbeats 4000000 in
theorem smaller_any (B r g p mb : Nat) (x : Rv) (a b : Nat) (y z : Int) (w : World) (hM : RnM w B r g p mb x) (ha : x.sz[a]? = some y) (hb : x.sz[b]? = some z) :
 Calls Tryz.prog 91 #[.pointer (some ⟨r, 0, none⟩), .int .i64 a, .int .i64 b] w fun e w' => e = .returned (.int .i64 ((if y <= z then a else b : Nat) : Int)) /\ Below w.heap.size w w' := by
 obtain ⟨_, _, _, _, c4, _, _⟩ := seven_cells hM.box
 have hal := (List.getElem?_eq_some_iff.1 ha).1
 have hbl := (List.getElem?_eq_some_iff.1 hb).1
 obtain ⟨gz, oz, cz, hvz, _, csa, _⟩ := (hM.q.q 1 (x.vz, x.sz) rfl).cell ha
 simp only at hvz
 have csb := (Que.cellAt (w := w) (B := B) (g := gz) (off := oz) (n := x.sz.length) (cap := cz) (by have h9 := hM.q.q 1 (x.vz, x.sz) rfl; rw [hvz] at h9; exact h9) hb).1
 obtain ⟨nz, hnz⟩ : ∃ nz, nz = x.sz.length := ⟨_, rfl⟩
 rw [hvz, <- hnz] at c4
 rw [<- hnz] at hal hbl
 have p0 : (0 : Int) <= (a : Int) := by omega
 have p1 : (a : Int) < (nz : Int) := by omega
 have p2 : (0 : Int) <= (b : Int) := by omega
 have p3 : (b : Int) < (nz : Int) := by omega
 obtain ⟨cv, hcv⟩ : ∃ cv, cv = cmpI y z := ⟨_, rfl⟩
 have hC := fun W => cmpI_any y z W
 rw [<- hcv] at hC
 obtain ⟨m, hm⟩ : ∃ m, m = (if y <= z then a else b : Nat) := ⟨_, rfl⟩
 rw [<- hm]
 have HC : Hid _ := And.intro hC (And.intro hcv hm)
 clear hM ha hb hvz hnz hC hcv hm
 go_enter Tryz.func91, Tryz.ntmps91
 go_upto_region 1 with fail
 refine wp_region_held_drew (S := (fun w' => w'.cell? ⟨r, 4, none⟩ = some (.slice (some ⟨gz, oz, none⟩) nz cz) /\ w'.cell? ⟨gz, oz + a, none⟩ = some (.int .i64 y) /\ w'.cell? ⟨gz, oz + b, none⟩ = some (.int .i64 z))) (by kernel_rfl) ?_ (fun hHeld => ?_)
 ·exact ⟨c4, csa, csb⟩
 refine tk8 0 rfl ?_; (try simp only [ty9, Act.put])
 refine tk8 1 rfl ?_; (try simp only [ty9, Act.put])
 refine tk8 2 rfl ?_; (try simp only [ty9, Act.put])
 refine tk8 3 rfl ?_; (try simp only [ty9, Act.put])
 refine tk8 4 rfl ?_; (try simp only [ty9, Act.put])
 refine tk8 5 rfl ?_; (try simp only [ty9, Act.put])
 refine tk8 6 rfl ?_; (try simp only [ty9, Act.put])
 refine tk8 7 rfl ?_; (try simp only [ty9, Act.put])
 refine tk8 8 rfl ?_; (try simp only [ty9, Act.put])
 refine tk8 9 rfl ?_; (try simp only [ty9, Act.put])
 refine tk8 10 rfl ?_; (try simp only [ty9, Act.put])
 refine tk8 11 rfl ?_; (try simp only [ty9, Act.put])
 refine tk8 12 rfl ?_; (try simp only [ty9, Act.put])
 refine tk8 13 rfl ?_; (try simp only [ty9, Act.put])
 refine wpAnyH_ready (rs := [14]) (by kernel_rfl) (by simp) ?_
 refine AllReadyH.cons (o := _) rfl (fun K hK => ?_) ?_
 ·(go_simp; go_at_call 76; refine Calls.mono (HC.out.1 _) ?_; rintro r1 w1 ⟨rfl, hw1⟩; obtain rfl := hw1.symm; clear hw1)
  (try go_wp2_with fail)
  refine hK.out _ _ ?_ (fun hHeld => ?_)
  ·exact hHeld
  clear hK K
  (try simp only [ty9, Act.put])
  refine wpAnyH_done (by kernel_rfl) ?_ _
  (try go_simp)
  clear hHeld
  by_cases h1 : y < z
  ·have q1 : cv = -1 := by rw [HC.out.2.1]; unfold cmpI; rw [if_pos h1]
   subst q1
   have HE : Hid (m = a) := (by rw [HC.out.2.2, if_pos (by omega)] : m = a)
   clear h1
   go_wp2_with fail
   go_ret
   exact ⟨by first | rfl | (rw [HE.out]; rfl), (Below.refl _ _).drew⟩
  ·by_cases h2 : z < y
   ·have q1 : cv = 1 := by rw [HC.out.2.1]; unfold cmpI; rw [if_neg h1, if_pos h2]
    subst q1
    have HE : Hid (m = b) := (by rw [HC.out.2.2, if_neg (by omega)] : m = b)
    clear h1 h2
    go_wp2_with fail
    go_ret
    exact ⟨by first | rfl | (rw [HE.out]; rfl), (Below.refl _ _).drew⟩
   ·have q1 : cv = 0 := by rw [HC.out.2.1]; unfold cmpI; rw [if_neg h1, if_neg h2]
    subst q1
    have HE : Hid (m = a) := (by rw [HC.out.2.2, if_pos (by omega)] : m = a)
    clear h1 h2
    go_wp2_with fail
    go_ret
    exact ⟨by first | rfl | (rw [HE.out]; rfl), (Below.refl _ _).drew⟩
 exact AllReadyH.nil
end
section
open Go.RowKit Go.Maps
attribute [local go_sem ↓] Go.wp_at_zero Go.wp_at_succ
def Rv.wait (x : Rv) (k : Nat) (u : Value) : Rv := { x with vw := u, wt := x.wt.drop k }
structure NextAt (w w' : World) (B r g p mb : Nat) (x : Rv) (k : Nat) (u : Value) : Prop where
 m : RnM w' B r g p mb (x.wait k u)
 gw : Grew w w' r x (x.wait k u)
 lo : k <= x.wt.length
 one : ∀ z ∈ x.wt.take k, ∃ (o : Nat) (h : Value × List Int), z = (o : Int) /\ x.H[o]? = some h /\ h.2.length <= 1
theorem NextAt.drew {w w' : World} {B r g p mb : Nat} {x : Rv} {k : Nat} {u : Value} (h : NextAt w w' B r g p mb x k u) : NextAt w w'.drew B r g p mb x k u := ⟨h.m.below ((Below.refl _ _).drew), h.gw.below ((Below.refl _ _).drew), h.lo, h.one⟩
theorem NextAt.below {w w' w2 : World} {B r g p mb : Nat} {x : Rv} {k : Nat} {u : Value} (h : NextAt w w' B r g p mb x k u) (hb : Below w'.heap.size w' w2) : NextAt w w2 B r g p mb x k u := ⟨h.m.below hb, h.gw.below hb, h.lo, h.one⟩
theorem NextAt.step {w w' : World} {B r g p mb : Nat} {x : Rv} {k o : Nat} {u u' : Value} {h : Value × List Int} (hN : NextAt w w' B r g p mb x k u) (hz : x.wt[k]? = some (o : Int)) (hH : x.H[o]? = some h) (h1 : h.2.length <= 1) (hq : Que w' B u' (x.wt.drop (k + 1))) (hat : u'.ownBlock = u.ownBlock) : NextAt w (w'.setCell ⟨r, 6, none⟩ u') B r g p mb x (k + 1) u' := by
 have hkl := (List.getElem?_eq_some_iff.1 hz)
 obtain ⟨hk1, _⟩ := List.getElem?_eq_some_iff.1 hz
 have hL : (x.wait k u).L[2]? = some (u, x.wt.drop k) := rfl
 refine ⟨hN.m.appW rfl (Kept.refl _ _) hq (.inl hat), hN.gw.trans ⟨appKept hL (Kept.refl _ _), fun b hb => foot_app (x := x.wait k u) (k := 2) hL (.inl hat) hb⟩, by omega, fun z hz2 => ?_⟩
 rw [List.take_succ_eq_append_getElem hkl.1] at hz2
 rcases List.mem_append.1 hz2 with h2 | h2
 ·exact hN.one z h2
 ·exact ⟨o, h, by rw [List.mem_singleton.1 h2, hkl.2], hH, h1⟩
set_option linter.unusedSimpArgs false in
set_option maxRecDepth 100000 in
set_option maxHeartbeats 4000000 in
theorem next_any (B r g p mb : Nat) (x : Rv) (w : World) (hM : RnM w B r g p mb x) (hw : ∀ z ∈ x.wt, ∃ o : Nat, z = (o : Int) /\ o < x.ks.length) (hbk : ∀ h ∈ x.H, ∀ b ∈ h.2, ∃ c : Nat, b = (c : Int) /\ c < x.sz.length) :
 Calls Tryz.prog 66 #[.pointer (some ⟨r, 0, none⟩)] w fun e w' => ∃ k u, NextAt w w' B r g p mb x k u /\ ((k = x.wt.length /\ e = .returned (.tuple #[.int .i64 0, .bool false])) \/ ∃ (o a b : Nat) (v : Value) (bs : List Int) (y z : Int), x.wt[k]? = some (o : Int) /\ x.H[o]? = some (v, (a : Int) :: (b : Int) :: bs) /\ x.sz[a]? = some y /\ x.sz[b]? = some z /\ e = .returned (.tuple #[.int .i64 ((if y <= z then a else b : Nat) : Int), .bool true])) := by
 obtain ⟨N, hN⟩ : ∃ N, N = x.wt.length := ⟨_, rfl⟩
 have h0 : NextAt w w B r g p mb x 0 x.vw := ⟨hM, Grew.refl _ _ _, Nat.zero_le _, fun z hz => by simp at hz⟩
 rw [<- hN]
 have H : Hid _ := And.intro h0 (And.intro hw (And.intro hbk hN))
 clear hM hw hbk h0 hN
 go_enter Tryz.func66, Tryz.ntmps66
 go_wp2_with fail
 go_loopg [] N (fun z wr => ∃ (k : Nat) (u : Value), z = N - k /\ NextAt w wr B r g p mb x k u)
 case atStart => exact ⟨0, x.vw, rfl, H.out.1⟩
 case round =>
  obtain ⟨k, u, rfl, hA⟩ := hrel
  have hlo := hA.lo
  rw [<- H.out.2.2.2] at hlo
  obtain ⟨_, _, c2, _, _, _, c6⟩ := seven_cells hA.m.box
  have hQ : Que wr B u (x.wt.drop k) := hA.m.q.q 2 (u, x.wt.drop k) rfl
  obtain ⟨ua, uc, hu, huc⟩ := hQ.shape
  by_cases hlt : k < N
  ·obtain ⟨z, hz⟩ : ∃ z, x.wt[k]? = some z := ⟨x.wt[k]'(by have := H.out.2.2.2; omega), List.getElem?_eq_getElem _⟩
   obtain ⟨o, rfl, hol⟩ := H.out.2.1 z (List.mem_of_getElem? hz)
   obtain ⟨⟨v, bs⟩, hH⟩ : ∃ hv, x.H[o]? = some hv := ⟨x.H[o]'(by have h9 : x.H.length = x.ks.length := hA.m.len; omega), List.getElem?_eq_getElem _⟩
   obtain ⟨kk, hks⟩ : ∃ kk, x.ks[o]? = some kk := ⟨x.ks[o]'hol, List.getElem?_eq_getElem _⟩
   obtain ⟨gh, ch, hvh⟩ := hA.m.hform (show 0 < x.ks.length by omega)
   obtain ⟨d0, _, _⟩ := hA.m.hcell hvh hH hks
   obtain ⟨nk, hnk⟩ : ∃ nk, nk = x.ks.length := ⟨_, rfl⟩
   have c2' : wr.cell? ⟨r, 2, none⟩ = some (.slice (some ⟨gh, 0, none⟩) nk ch) := by rw [c2, hvh, hnk]; rfl
   have hQv : Que wr B v bs := hA.m.q.q (o + 3) (v, bs) (show x.H[o]? = _ from hH)
   have hd : x.wt.drop k = (o : Int) :: x.wt.drop (k + 1) := by obtain ⟨h8, h9⟩ := List.getElem?_eq_some_iff.1 hz; rw [List.drop_eq_getElem_cons h8, h9]
   obtain ⟨nu, hnu⟩ : ∃ nu, nu = (x.wt.drop (k + 1)).length := ⟨_, rfl⟩
   rw [hd, List.length_cons, <- hnu] at hu huc
   rw [hu, hd] at hQ
   obtain ⟨gw, ow, hua, hfl, cw, hq1, hq0⟩ := hQ.first
   clear hfl
   subst hua
   have c6' : wr.cell? ⟨r, 6, none⟩ = some (.slice (some ⟨gw, ow, none⟩) (nu + 1) uc) := by rw [<- hu]; exact c6
   obtain ⟨va, vc, hve, _⟩ := hQv.shape
   obtain ⟨nb, hnb⟩ : ∃ nb, nb = bs.length := ⟨_, rfl⟩
   rw [<- hnb] at hve
   rw [hve] at d0
   have p0 : (0 : Int) <= (o : Int) := by omega
   have p1 : (o : Int) < (nk : Int) := by omega
   have p2 : (0 : Int) < ((nu + 1 : Nat) : Int) := by omega
   have hbx := hA.m.box
   have bf := blk_free hbx 6
   have HA : Hid _ := And.intro hA (And.intro hu (And.intro hz (And.intro hH (And.intro hnu (And.intro hq1 (And.intro hq0 (And.intro hQv (And.intro hve (And.intro hnb hbx)))))))))
   clear c6 c2 hA hQ hu hd hz hH hks hvh hnk hnu hq1 hq0 hQv hve hnb hbx hol
   go_upto_region 2 with fail
   refine wp_region_held_drew (S := (fun w' => (w'.cell? ⟨r, 2, none⟩ = some (.slice (some ⟨gh, 0, none⟩) nk ch) /\ w'.cell? ⟨r, 6, none⟩ = some (.slice (some ⟨gw, ow, none⟩) (nu + 1) uc)) /\ w'.cell? ⟨gw, ow, none⟩ = some (.int .i64 o) /\ w'.cell? ⟨gh, o * 2, none⟩ = some (.slice va nb vc))) (by kernel_rfl) ?_ (fun hHeld => ?_)
   ·exact ⟨⟨c2', c6'⟩, cw, d0⟩
   refine tk8 0 rfl ?_; (try simp only [ty9, Act.put])
   refine tk8 1 rfl ?_; (try simp only [ty9, Act.put])
   refine tk8 2 rfl ?_; (try simp only [ty9, Act.put])
   refine tk8 3 rfl ?_; (try simp only [ty9, Act.put])
   refine tk8 4 rfl ?_; (try simp only [ty9, Act.put])
   refine tk8 5 rfl ?_; (try simp only [ty9, Act.put])
   refine tk8 6 rfl ?_; (try simp only [ty9, Act.put])
   refine tk8 7 rfl ?_; (try simp only [ty9, Act.put])
   refine tk8 8 rfl ?_; (try simp only [ty9, Act.put])
   refine tk8 9 rfl ?_; (try simp only [ty9, Act.put])
   refine tk8 10 rfl ?_; (try simp only [ty9, Act.put])
   refine tk8 11 rfl ?_; (try simp only [ty9, Act.put])
   refine tk8 12 rfl ?_; (try simp only [ty9, Act.put])
   refine tk8 13 rfl ?_; (try simp only [ty9, Act.put])
   refine wpAnyH_done (by kernel_rfl) ?_ _
   (try go_simp)
   clear hHeld
   by_cases hb2 : 1 < nb
   ·obtain ⟨a', b', rest, hbs⟩ : ∃ a b rest, bs = a :: b :: rest := by
     have h9 := HA.out.2.2.2.2.2.2.2.2.2.1
     match bs, h9 with
     | [], h9 => simp at h9; omega
     | [_], h9 => simp at h9; omega
     | a :: b :: l, _ => exact ⟨a, b, l, rfl⟩
    obtain ⟨a, rfl, hal⟩ := H.out.2.2.1 (v, bs) (List.mem_of_getElem? HA.out.2.2.2.1) a' (by rw [hbs]; simp)
    obtain ⟨b, rfl, hbl⟩ := H.out.2.2.1 (v, bs) (List.mem_of_getElem? HA.out.2.2.2.1) b' (by rw [hbs]; simp)
    obtain ⟨y, hy⟩ : ∃ y, x.sz[a]? = some y := ⟨x.sz[a]'hal, List.getElem?_eq_getElem _⟩
    obtain ⟨z, hz2⟩ : ∃ z, x.sz[b]? = some z := ⟨x.sz[b]'hbl, List.getElem?_eq_getElem _⟩
    obtain ⟨gv, ov, cv, hve2, _, e0, _⟩ := HA.out.2.2.2.2.2.2.2.1.cell (i := 0) (show bs[0]? = some (a : Int) by rw [hbs]; rfl)
    have hvv := HA.out.2.2.2.2.2.2.2.2.1.symm.trans hve2
    injection hvv with hva hvl hvc
    subst hva
    have e1 := (Que.cellAt (w := wr) (B := B) (g := gv) (off := ov) (n := bs.length) (cap := cv) (by rw [<- hve2]; exact HA.out.2.2.2.2.2.2.2.1) (show bs[1]? = some (b : Int) by rw [hbs]; rfl)).1
    rw [Nat.add_zero] at e0
    obtain ⟨m, hm⟩ : ∃ m, m = (if y <= z then a else b : Nat) := ⟨_, rfl⟩
    have hS := fun W (hb : Below wr.heap.size wr W) => smaller_any B r g p mb (x.wait k u) a b y z W (HA.out.1.m.below hb) hy hz2
    rw [<- hm] at hS
    have q1 : (1 : Int) < (nb : Int) := by omega
    have q2 : (0 : Int) < (nb : Int) := by omega
    have q3 : 0 < nb := by omega
    have HS : Hid _ := And.intro hS (And.intro hy (And.intro hz2 (And.intro hm hbs)))
    clear hS hy hz2 hm hbs hve2 hvl hvc hal hbl
    go_upto_region 4 with fail
    refine wp_region_held_drew (S := (fun w' => w'.cell? ⟨gv, ov, none⟩ = some (.int .i64 a) /\ w'.cell? ⟨gv, ov + 1, none⟩ = some (.int .i64 b))) (by kernel_rfl) ?_ (fun hHeld => ?_)
    ·exact ⟨e0, e1⟩
    refine tk8 0 rfl ?_; (try simp only [ty9, Act.put])
    refine tk8 1 rfl ?_; (try simp only [ty9, Act.put])
    refine tk8 2 rfl ?_; (try simp only [ty9, Act.put])
    refine tk8 3 rfl ?_; (try simp only [ty9, Act.put])
    refine tk8 4 rfl ?_; (try simp only [ty9, Act.put])
    refine tk8 5 rfl ?_; (try simp only [ty9, Act.put])
    refine tk8 6 rfl ?_; (try simp only [ty9, Act.put])
    refine wpAnyH_ready (rs := [7]) (by kernel_rfl) (by simp) ?_
    refine AllReadyH.cons (o := _) rfl (fun K hK => ?_) ?_
    ·(go_simp; go_at_call 91; refine Calls.mono (HS.out.1 _ ((Below.refl _ wr).drew.drew)) ?_; rintro r1 w5 ⟨rfl, hb5⟩; have H5 : Hid _ := And.intro ((Below.refl _ wr).drew.drew.trans (hb5.mono (Nat.le_refl _))) trivial; clear hb5)
     (try go_wp2_with fail)
     refine hK.out _ _ ?_ (fun hHeld => ?_)
     ·exact ⟨sg_cell e0 H5.out.1, sg_cell e1 H5.out.1⟩
     clear hK K
     (try simp only [ty9, Act.put])
     refine tk8 8 rfl ?_; (try simp only [ty9, Act.put])
     refine tk8 9 rfl ?_; (try simp only [ty9, Act.put])
     refine wpAnyH_done (by kernel_rfl) ?_ _
     (try go_simp)
     clear hHeld
     go_wp2_with fail
     go_ret2
     refine ⟨k, u, HA.out.1.below H5.out.1, .inr ⟨o, a, b, v, rest, y, z, HA.out.2.2.1, ?_, HS.out.2.1, HS.out.2.2.1, ?_⟩⟩
     ·rw [HA.out.2.2.2.1, HS.out.2.2.2.2]
     ·rw [<- HS.out.2.2.2.1]; rfl
    exact AllReadyH.nil
   ·have q1 : ¬ (1 : Int) < (nb : Int) := by omega
    by_cases hc : uc = 1
    ·have hn0 : nu = 0 := by rw [HA.out.2.2.2.2.1, (HA.out.2.2.2.2.2.2.1 (by omega)).1]; rfl
     subst hc
     subst hn0
     go_wp2_with fail
     go_roundg (N - (k + 1))
     case measure => omega
     case rel => exact ⟨k + 1, _, rfl, (HA.out.1.step HA.out.2.2.1 HA.out.2.2.2.1 (by have := HA.out.2.2.2.2.2.2.2.2.2.1; simp only; omega) (by rw [(HA.out.2.2.2.2.2.2.1 (by first | trivial | rfl)).1]; exact (HA.out.2.2.2.2.2.2.1 (by first | trivial | rfl)).2) (by rw [HA.out.2.1]; rfl)).drew⟩
    ·have hc0 : 0 < uc - 1 := by omega
     go_wp2_with fail
     go_roundg (N - (k + 1))
     case measure => omega
     case rel => exact ⟨k + 1, _, rfl, (HA.out.1.step HA.out.2.2.1 HA.out.2.2.2.1 (by have := HA.out.2.2.2.2.2.2.2.2.2.1; simp only; omega) (by have h9 := HA.out.2.2.2.2.2.1 hc0; rw [<- HA.out.2.2.2.2.1] at h9; exact h9) (by rw [HA.out.2.1]; rfl)).drew⟩
  ·obtain rfl : k = N := by omega
   have hl0 : (x.wt.drop k).length = 0 := by rw [List.length_drop, <- H.out.2.2.2]; omega
   rw [hl0] at hu
   have HA : Hid _ := And.intro hA hu
   have c6' : wr.cell? ⟨r, 6, none⟩ = some (.slice ua 0 uc) := by rw [<- hu]; exact c6
   clear c6 c2 hA hQ hu huc
   go_wp2_with fail
   go_ret2
   exact ⟨k, u, HA.out.1, .inl ⟨rfl, rfl⟩⟩
end
section
open Go.RowKit Go.Maps
attribute [local go_sem ↓] Go.wp_at_zero Go.wp_at_succ
def Sy.degTo (l : List Sy.Ed) : Nat -> Nat
 | 0 => 0
 | st + 1 => max (Sy.degTo l st) (Sy.steps l (st : Int)).length
theorem rowOf_in {n q : Nat} (l : List Sy.Ed) (h : q < n) : Sy.rowOf n l (q : Int) = Sy.steps l q := by
 unfold Sy.rowOf
 rw [if_pos ⟨by omega, by omega⟩]
def Sy.marked (bs : List Bool) : List Int := ((List.range bs.length).filter fun p => bs[p]? == some true).map fun (p : Nat) => (p : Int)
structure RpAt (w wr : World) (gi : Nat) (u : Value) (zs : List Int) (bs : List Bool) : Prop where
 inn : Arr 4 w wr gi (bC bs)
 lst : OwnI wr w.heap.size u zs
end
section
open Go.RowKit Go.Maps
attribute [local go_sem ↓] Go.wp_at_zero Go.wp_at_succ
def Sy.es1 (st : Int) (zs : List BSteps.El) : List Sy.Ed := zs.map fun x => (st, x.1, x.2)
theorem Sy.es1_steps (l : List Sy.Ed) (st : Int) : Sy.es1 st (Sy.steps l st) = l.filter fun e => e.1 == st := by
 unfold Sy.es1 Sy.steps
 rw [List.map_map]
 have h : ∀ e ∈ l.filter (fun e => e.1 == st), ((fun x : BSteps.El => (st, x.1, x.2)) ∘ fun e : Sy.Ed => (e.2.1, e.2.2)) e = e := fun e he => by
  have := (List.mem_filter.1 he).2
  simp at this
  obtain ⟨a, b, c⟩ := e
  simp at this
  simp [this]
 rw [List.map_congr_left h]
 simp
theorem Sy.take_row {l : List Sy.Ed} (h : Sy.Rows l) (st : Int) : l.take (Sy.cnt l st) ++ Sy.es1 st (Sy.steps l st) = l.take (Sy.cnt l (st + 1)) := by
 rw [Sy.es1_steps, Sy.row_piece h st]
 have h1 := Sy.cnt_mono l st
 conv => rhs; rw [show Sy.cnt l (st + 1) = Sy.cnt l st + (Sy.cnt l (st + 1) - Sy.cnt l st) by omega, List.take_add]
theorem Sy.es1_snoc {st : Int} {zs : List BSteps.El} {k : Nat} {x : BSteps.El} (h : zs[k]? = some x) : Sy.es1 st (zs.take (k + 1)) = Sy.es1 st (zs.take k) ++ [(st, x.1, x.2)] := by
 rw [take_succ_of h]
 simp [Sy.es1]
theorem Sy.es1_len (st : Int) (zs : List BSteps.El) : (Sy.es1 st zs).length = zs.length := by simp [Sy.es1]
theorem Sy.take_all {n k s : Int} {es : List Sy.Ed} (h : Sy.right n k s es = true) : (Sy.nf es).take (Sy.cnt (Sy.nf es) n) = Sy.nf es := by
 rw [Sy.cnt_all fun e he => ((right_parts h).2.2.2.2.2 e ((Sy.nf_mem es e).1 he)).2.1, List.take_length]
theorem Sy.take_none {n k s : Int} {es : List Sy.Ed} (h : Sy.right n k s es = true) : (Sy.nf es).take (Sy.cnt (Sy.nf es) 0) = [] := by
 rw [Sy.cnt_none fun e he => by have := ((right_parts h).2.2.2.2.2 e ((Sy.nf_mem es e).1 he)).1; omega]
 rfl
set_option maxRecDepth 100000 in
set_option maxHeartbeats 8000000 in
theorem edges_any {B g bs bb cs cb n : Nat} {k s : Int} {es : List Sy.Ed} (w : World) (h : Gr w B g bs bb cs cb n k s es) : Calls Tryz.prog 90 #[.pointer (some ⟨g, 0, none⟩)] w fun r w' => ∃ u, r = .returned u /\ BEdges.Own w' w.heap.size u (Sy.nf es) /\ Below w.heap.size w w' := by
 obtain ⟨i0, hi0, hz0, hz1, hz2⟩ := info_parts BEdges.Tryz.infoE
 have hSt := states_any w h
 have hs := h.sizes
 have HG : Hid _ := And.intro h (And.intro hSt hs)
 have hn : n <= 1000 := hs.1
 obtain ⟨l, hl⟩ : ∃ l, l = Sy.nf es := ⟨_, rfl⟩
 have HL : Hid (l = Sy.nf es /\ Sy.Rows l /\ l.take (Sy.cnt l 0) = [] /\ l.take (Sy.cnt l n) = l) := (by rw [hl]; exact ⟨rfl, nf_rows es, Sy.take_none h.right, Sy.take_all h.right⟩ : l = Sy.nf es /\ Sy.Rows l /\ l.take (Sy.cnt l 0) = [] /\ l.take (Sy.cnt l n) = l)
 rw [<- hl]
 clear h hSt hs hl
 go_enter Tryz.func90, Tryz.ntmps90
 go_wp2_with (go_at_call 117; refine Calls.mono HG.out.2.1 ?_; rintro r w1 ⟨rfl, hw⟩; obtain rfl := hw.symm)
 go_loopg [3, 9] n (fun q uv iv wr => ∃ st : Nat, q = n - st /\ st <= n /\ iv = .int .i64 st /\ BEdges.Own wr w.heap.size uv (l.take (Sy.cnt l (st : Int))) /\ Below w.heap.size w wr)
 case atStart => exact ⟨0, rfl, Nat.zero_le _, rfl, by show BEdges.Own w w.heap.size _ (l.take (Sy.cnt l 0)); rw [HL.out.2.2.1]; exact World.ownsRow_nil _ _ _ _, Below.refl _ _⟩
 case round =>
  obtain ⟨st, rfl, hst, rfl, hO, hb⟩ := hrel
  obtain ⟨wq, rfl⟩ : ∃ wq, wq = wr := ⟨_, rfl⟩
  by_cases hlt : st < n
  ·have hG := HG.out.1.below hb
   obtain ⟨_, _, _, ⟨c0, c1⟩, _, _⟩ := hG.cells
   have hR := hG.row (st : Int)
   have hT := hG.out
   obtain ⟨L, hL⟩ : ∃ L, L = (Sy.nf es).length := ⟨_, rfl⟩
   have hl1 := Sy.steps_len (Sy.nf es) (st : Int)
   have hsz := HG.out.2.2.2
   rw [rowOf_in _ hlt] at hR
   have HR : Hid _ := And.intro hR (And.intro hb (And.intro hO (And.intro hL hT)))
   rw [<- hL] at HR c0 hsz hl1
   have r1 : (st : Int) < (n : Int) := by omega
   clear hG hR hb hL hT hO
   go_wp2_with fail
   refine Calls.mono HR.out.1 ?_
   rintro r w1 ⟨v, rfl, hv, hb1⟩
   obtain ⟨av, cv, rfl, _⟩ := hv wq HR.out.2.2.2.2
   obtain ⟨M, hM⟩ : ∃ M, M = (Sy.steps (Sy.nf es) (st : Int)).length := ⟨_, rfl⟩
   rw [<- hM]
   rw [<- hM] at hv hl1
   have H1 : Hid _ := And.intro hv (And.intro hb1 hM)
   clear hv hb1 hM c0 c1
   go_wp2_with fail
   go_loopg [3, 19] M (fun q uv kv wr => ∃ k2 : Nat, q = M - k2 /\ k2 <= M /\ kv = .int .i64 k2 /\ BEdges.Own wr w.heap.size uv (l.take (Sy.cnt l (st : Int)) ++ Sy.es1 st ((Sy.steps l st).take k2)) /\ Below w.heap.size w wr)
   case atStart =>
    refine ⟨0, rfl, Nat.zero_le _, rfl, ?_, HR.out.2.1.trans (H1.out.2.1.mono HR.out.2.1.size)⟩
    have h1 : l.take (Sy.cnt l (st : Int)) ++ Sy.es1 st ((Sy.steps l st).take 0) = l.take (Sy.cnt l (st : Int)) := by simp [Sy.es1]
    rw [h1]
    exact trow_at HR.out.2.2.1 fun b hb => H1.out.2.1.block b (HR.out.2.2.1.lt b hb).2
   case round =>
    obtain ⟨k2, rfl, hk, rfl, hO, hb⟩ := hrel
    obtain ⟨ys, hys⟩ : ∃ ys, ys = l.take (Sy.cnt l (st : Int)) ++ Sy.es1 st ((Sy.steps l st).take k2) := ⟨_, rfl⟩
    rw [<- hys] at hO
    obtain ⟨au, cu, hu⟩ := row_shape hO
    obtain ⟨N, hN⟩ : ∃ N, N = ys.length := ⟨_, rfl⟩
    rw [<- hN] at hu
    subst hu
    have hys1 : N <= 100000 := by
     have h2 := List.length_take_le (Sy.cnt l (st : Int)) l
     have h3 := Sy.cnt_le l (st : Int)
     have h4 := List.length_take_le k2 (Sy.steps l st)
     have h5 := HG.out.2.2.2
     rw [<- HL.out.1] at h5
     rw [hN, hys, List.length_append, Sy.es1_len]
     omega
    by_cases hkm : k2 < M
    ·obtain ⟨x, hx⟩ : ∃ x, (Sy.steps l st)[k2]? = some x := ⟨(Sy.steps l st)[k2]'(by have := H1.out.2.2; rw [<- HL.out.1] at this; omega), List.getElem?_eq_getElem _⟩
     have hx' := hx
     rw [HL.out.1] at hx'
     obtain ⟨a, rfl, d0, d1⟩ := step_at (H1.out.1 wr (HG.out.1.out.below hb)) hx'
     have hs1 := Sy.es1_snoc (st := (st : Int)) hx
     obtain ⟨x1, x2⟩ := x
     simp only at d0 d1 hs1
     obtain ⟨wb, hwb⟩ : ∃ wb, wb = wr.alloc (.cells #[.int .i64 x1, .int .i64 x2] 111) := ⟨_, rfl⟩
     have hbb : Below wr.heap.size wr wb := by rw [hwb]; exact (Below.refl _ _).alloc (Nat.le_refl _) _
     have hgb : wb.heap[wr.heap.size]? = some (.cells #[.int .i64 x1, .int .i64 x2] 111 (0, 0)) := by rw [hwb]; exact heap_alloc_new wr _
     have f0 : wb.cell? ⟨wr.heap.size, 0, none⟩ = some (.int .i64 x1) := cell0_of hgb rfl
     have f1 : wb.cell? ⟨wr.heap.size, 1, none⟩ = some (.int .i64 x2) := cell0_of hgb rfl
     have hOb : BEdges.Own wb w.heap.size (.slice au N cu) ys := trow_at hO fun b hb => hbb.block b (hO.lt b hb).2
     have hOz : wb.ownsRow w.heap.size 29 3 (.slice au N cu) N (BEdges.C ys) := by have h1 := hOb; unfold BEdges.Own at h1; rw [<- hN] at h1; exact h1
     have hbw : Below w.heap.size w wb := hb.trans (hbb.mono hb.size)
     have hle : w.heap.size <= (wb.alloc (.cells #[.int .i64 st, .int .i64 x1, .int .i64 x2] 29)).heap.size := by have := hbw.size; simp; omega
     have hml : N + 1 <= maxLen := by unfold maxLen; omega
     have hby : (N + 1) * 24 <= 140737488355328 := by omega
     have k0 : (0 : Int) <= (k2 : Int) := by omega
     have k1 : (k2 : Int) < (M : Int) := by omega
     have HZ : Hid _ := And.intro hOz (And.intro hbw (And.intro hwb (And.intro hys (And.intro hs1 hN))))
     clear hO hOb hOz hbw hwb hbb hgb hys hs1 hN hx hx' hb
     go_upto_region 8 with fail
     rw [<- HZ.out.2.2.1]
     go_wp2_with (at_builtin; refine wpList_append_own_at _ rfl _ _ 25 rfl w.heap.size 29 i0 (.agg #[.int .i64 0, .int .i64 0, .int .i64 0]) 3 24 Tryz.underlying25 hi0 hz0 hz1 hz2 rfl (by decide) (.slice au N cu) N (BEdges.C ys) rfl (HZ.out.1.alloc _) ⟨wb.heap.size, 0, none⟩ 1 1 [.int .i64 st, .int .i64 x1, .int .i64 x2] rfl rfl (World.news_of_block (cs := #[.int .i64 st, .int .i64 x1, .int .i64 x2]) (t := 29) (fr := (0, 0)) (heap_alloc_new wb _)) (by simp [Value.oneCell']) hml hby hle ?_; intro v5 w5 hO5 hg5 hnil5 hat5; have H2 : Hid _ := And.intro hO5 hg5; clear hO5 hg5 hnil5 hat5)
     go_roundg (M - (k2 + 1))
     case measure => omega
     case rel =>
      refine ⟨k2 + 1, rfl, by omega, by go_num, ?_, ?_⟩
      ·rw [HZ.out.2.2.2.2.1, <- List.append_assoc, <- HZ.out.2.2.2.1]
       unfold BEdges.Own
       rw [BEdges.C_snoc, List.length_append, <- HZ.out.2.2.2.2.2]
       exact H2.out.1
      ·exact HZ.out.2.1.trans ((grown_alloc H2.out.2).below HZ.out.2.1.size fun b hb => (HZ.out.1.lt b hb).1)
    ·obtain rfl : k2 = M := by omega
     have k1 : ¬ (k2 : Int) < (k2 : Int) := by omega
     have hfull : ys = l.take (Sy.cnt l ((st : Int) + 1)) := by
      have ht : (Sy.steps l st).take k2 = Sy.steps l st := List.take_of_length_le (by have := H1.out.2.2; rw [<- HL.out.1] at this; omega)
      rw [hys, ht]
      exact Sy.take_row HL.out.2.1 st
     have HJ : Hid _ := And.intro hO (And.intro hfull (And.intro hb hN))
     clear hO hfull hb hN hys
     go_wp2_with fail
     go_roundg (n - (st + 1))
     case measure => omega
     case rel =>
      refine ⟨st + 1, rfl, by omega, by go_num, ?_, HJ.out.2.2.1⟩
      rw [show (((st + 1 : Nat) : Int)) = (st : Int) + 1 by omega, <- HJ.out.2.1]
      exact HJ.out.1
  ·obtain rfl : st = n := by omega
   have r1 : ¬ (st : Int) < (st : Int) := by omega
   rw [HL.out.2.2.2] at hO
   have HJ : Hid _ := And.intro hO hb
   obtain ⟨au, cu, hu⟩ := row_shape hO
   obtain ⟨N, hN⟩ : ∃ N, N = l.length := ⟨_, rfl⟩
   rw [<- hN] at hu
   subst hu
   clear hO hb hN
   go_wp2_with fail
   go_ret
   exact ⟨_, rfl, HJ.out.1, HJ.out.2⟩
end
section
open Go.RowKit Go.Maps
def Rv.first (gh b0 b1 b2 m : Nat) : Rv := ⟨.slice (some ⟨gh, 0, none⟩) 1 1, .slice (some ⟨b1, 0, none⟩) 1 1, .slice (some ⟨b2, 0, none⟩) 1 1, .slice none 0 0, [0], [(m : Int)], [], [(.slice (some ⟨b0, 0, none⟩) 1 1, [0])], [m]⟩
def Rv.bare0 (gh : Nat) : Rv := ⟨.slice (some ⟨gh, 0, none⟩) 1 1, .slice none 0 0, .slice none 0 0, .slice none 0 0, [], [], [], [(.slice none 0 0, [])], [0]⟩
theorem RnM.first {w : World} {B r g p mb gh b0 b1 b2 m : Nat} (hbox : w.heap[r]? = some (.cells #[.pointer (some ⟨g, 0, none⟩), .pointer (some ⟨p, 0, none⟩), .slice (some ⟨gh, 0, none⟩) 1 1, .slice (some ⟨b1, 0, none⟩) 1 1, .slice (some ⟨b2, 0, none⟩) 1 1, .map (some mb), .slice none 0 0] 164 (0, 0))) (hgh : w.heap[gh]? = some (.cells #[.slice (some ⟨b0, 0, none⟩) 1 1, .int .i64 (m : Int)] 197 (0, 0))) (h0 : w.heap[b0]? = some (.cells #[.int .i64 0] 3 (0, 0))) (h1 : w.heap[b1]? = some (.cells #[.int .i64 0] 3 (0, 0))) (h2 : w.heap[b2]? = some (.cells #[.int .i64 (m : Int)] 3 (0, 0))) (hB : B <= r /\ B <= gh /\ B <= b0 /\ B <= b1 /\ B <= b2) (hd : b0 ≠ b1 /\ b0 ≠ b2 /\ b1 ≠ b2) : RnM w B r g p mb (Rv.first gh b0 b1 b2 m) := by
 refine ⟨hbox, ⟨rfl, .inr ⟨gh, 1, _, rfl, hB.2.1, hgh, Nat.le_refl _, by unfold maxLen; omega, rfl, rfl⟩⟩, rfl, ⟨fun i z hz => ?_, fun i j z y b hz hy hne hb => ?_⟩, hB.1, fun z hz => ?_⟩
 ·have q0 := Que.one hB.2.2.1 h0
  have q1 := Que.one hB.2.2.2.1 h1
  have q2 := Que.one hB.2.2.2.2 h2
  match i, hz with
  | 0, hz => cases hz; exact q1
  | 1, hz => cases hz; exact q2
  | 2, hz => cases hz; exact Que.nil _ _
  | 3, hz => cases hz; exact q0
  | i + 4, hz => simp [Rv.L, Rv.first] at hz
 ·have key : ∀ (i : Nat) (z : Value × List Int) (b : Nat), (Rv.first gh b0 b1 b2 m).L[i]? = some z -> z.1.ownBlock = some b -> (i = 0 /\ b = b1) \/ (i = 1 /\ b = b2) \/ (i = 3 /\ b = b0) := fun i z b hz hb => by
   match i, hz with
   | 0, hz => cases hz; cases hb; exact .inl ⟨rfl, rfl⟩
   | 1, hz => cases hz; cases hb; exact .inr (.inl ⟨rfl, rfl⟩)
   | 2, hz => cases hz; cases hb
   | 3, hz => cases hz; cases hb; exact .inr (.inr ⟨rfl, rfl⟩)
   | i + 4, hz => simp [Rv.L, Rv.first] at hz
  intro hy2
  have k1 := key i z b hz hb
  have k2 := key j y b hy hy2
  omega
 ·rw [List.mem_singleton.1 hz]; exact at0_of _ _ _
theorem RnM.bare0 {w : World} {B r g p mb gh : Nat} (hbox : w.heap[r]? = some (.cells #[.pointer (some ⟨g, 0, none⟩), .pointer (some ⟨p, 0, none⟩), .slice (some ⟨gh, 0, none⟩) 1 1, .slice none 0 0, .slice none 0 0, .map (some mb), .slice none 0 0] 164 (0, 0))) (hgh : w.heap[gh]? = some (.cells #[.slice none 0 0, .int .i64 0] 197 (0, 0))) (hB : B <= r /\ B <= gh) : RnM w B r g p mb (Rv.bare0 gh) := by
 have key : ∀ (i : Nat) (z : Value × List Int), (Rv.bare0 gh).L[i]? = some z -> z = (.slice none 0 0, []) := fun i z hz => by
  match i, hz with
  | 0, hz => cases hz; rfl
  | 1, hz => cases hz; rfl
  | 2, hz => cases hz; rfl
  | 3, hz => cases hz; rfl
  | i + 4, hz => simp [Rv.L, Rv.bare0] at hz
 refine ⟨hbox, ⟨rfl, .inr ⟨gh, 1, _, rfl, hB.2, hgh, Nat.le_refl _, by unfold maxLen; omega, rfl, rfl⟩⟩, rfl, ⟨fun i z hz => ?_, fun i j z y b hz hy hne hb => ?_⟩, hB.1, fun z hz => ?_⟩
 ·rw [key i z hz]; exact Que.nil _ _
 ·rw [key i z hz] at hb; cases hb
 ·rw [List.mem_singleton.1 hz]; exact at0_nil _ _
theorem new_mem (m : Nat) : ((Pst.new m).mem 0).length = m := by
 rw [mem_count]
 have h : (List.range (Pst.new m).n).countP (fun e => decide ((Pst.new m).O e = 0)) = (List.range m).length := by
  rw [show (Pst.new m).n = m from rfl]
  exact List.countP_eq_length.2 fun e _ => rfl
 rw [h, List.length_range]
theorem RunI.first {gh b0 b1 b2 m : Nat} (hm : m ≠ 0) : RunI (Pst.new m) (Rv.first gh b0 b1 b2 m) := by
 have hnb : (Pst.new m).nb = 1 := if_neg hm
 have hH : ∀ (o : Nat) (bs : List Int), ((Rv.first gh b0 b1 b2 m).H.map (·.2))[o]? = some bs -> o = 0 /\ bs = [0] := fun o bs h => by
  match o, h with
  | 0, h => cases h; exact ⟨rfl, rfl⟩
  | o + 1, h => simp [Rv.first] at h
 refine ⟨hnb.symm, hnb.symm, fun b hb => ?_, fun b hb => ?_, fun o bs h => ?_, fun o bs h z => ?_, fun o bs h hl => ?_, by rw [hnb]; exact Nat.zero_le _, fun z hz => ?_, rfl⟩
 ·have e : b = 0 := by omega
  rw [e, new_mem]; rfl
 ·have e : b = 0 := by omega
  rw [e]; exact ⟨0, rfl, Nat.zero_lt_one⟩
 ·rw [(hH o bs h).2]; simp
 ·obtain ⟨rfl, rfl⟩ := hH o bs h
  rw [hnb, List.mem_singleton]
  constructor
  ·rintro rfl; exact ⟨0, rfl, Nat.zero_lt_one, rfl⟩
  ·rintro ⟨b, rfl, h1, _⟩; omega
 ·obtain ⟨_, rfl⟩ := hH o bs h
  simp at hl
 ·simp [Rv.first] at hz
theorem RunI.bare0 {gh : Nat} : RunI (Pst.new 0) (Rv.bare0 gh) := by
 have hH : ∀ (o : Nat) (bs : List Int), ((Rv.bare0 gh).H.map (·.2))[o]? = some bs -> o = 0 /\ bs = [] := fun o bs h => by
  match o, h with
  | 0, h => cases h; exact ⟨rfl, rfl⟩
  | o + 1, h => simp [Rv.bare0] at h
 refine ⟨rfl, rfl, fun b hb => absurd hb (Nat.not_lt_zero _), fun b hb => absurd hb (Nat.not_lt_zero _), fun o bs h => ?_, fun o bs h z => ?_, fun o bs h hl => ?_, Nat.le_refl _, fun z hz => ?_, rfl⟩
 ·rw [(hH o bs h).2]; simp
 ·obtain ⟨rfl, rfl⟩ := hH o bs h
  constructor
  ·intro h; simp at h
  ·rintro ⟨b, rfl, h1, _⟩; exact absurd h1 (Nat.not_lt_zero _)
 ·obtain ⟨_, rfl⟩ := hH o bs h
  simp at hl
 ·simp [Rv.bare0] at hz
def Rv.Zero (x : Rv) (m : Nat) : Prop := (∀ b, x.of b = 0) /\ x.ks = [m]
theorem Rv.first_zero (gh b0 b1 b2 m : Nat) : (Rv.first gh b0 b1 b2 m).Zero m := ⟨fun b => by match b with | 0 => rfl | b + 1 => rfl, rfl⟩
theorem Rv.bare0_zero (gh : Nat) : (Rv.bare0 gh).Zero 0 := ⟨fun _ => rfl, rfl⟩
def Sg.cnt0 (l : List Sy.Ed) (p b h : Int) : Int := if h = 0 then ((l.countP fun e => e.2.1 == b && e.1 == p : Nat) : Int) else 0
theorem Sg.cnt0_snoc (l : List Sy.Ed) (e : Sy.Ed) (p b h : Int) : Sg.cnt0 (l ++ [e]) p b h = updC (Sg.cnt0 l) e.1 e.2.1 0 (Sg.cnt0 l e.1 e.2.1 0 + 1) p b h := by
 unfold updC Sg.cnt0
 rw [List.countP_append, List.countP_cons, List.countP_nil]
 by_cases h1 : p = e.1 /\ b = e.2.1 /\ h = 0
 ·obtain ⟨rfl, rfl, rfl⟩ := h1
  simp
 ·rw [if_neg h1]
  by_cases h2 : h = 0
  ·rw [if_pos h2, if_pos h2]
   have h3 : (e.2.1 == b && e.1 == p) = false := by
    cases h4 : (e.2.1 == b && e.1 == p) with
    | false => rfl
    | true =>
      simp only [Bool.and_eq_true, beq_iff_eq] at h4
      exact absurd ⟨h4.2.symm, h4.1.symm, h2⟩ h1
   rw [h3]; simp
  ·rw [if_neg h2, if_neg h2]
theorem Sg.cnt0_all {G : Gp} {s : Pst} {x : Rv} {m : Nat} (hx : x.Zero m) (p b h : Int) : Sg.cnt0 (Sy.nf G.es) p b h = Sg.cf (Sg.tn G.es) (hOf s x) p b h := by
 unfold Sg.cnt0 Sg.cf
 by_cases h1 : h = 0
 ·rw [if_pos h1, h1]
  congr 1
  rw [<- Sg.cn_all]
  refine Sg.cn_congr (fun e _ => ?_) p b
  unfold hOf
  rw [hx.1]; rfl
 ·rw [if_neg h1]
  rw [Sg.cn_zero (fun e _ => ?_)]
  ·rfl
  ·unfold hOf
   rw [hx.1]
   simp; exact fun e => h1 e.symm
theorem Sg.cnt0_le (l : List Sy.Ed) (p b h : Int) : 0 <= Sg.cnt0 l p b h /\ Sg.cnt0 l p b h <= (l.length : Int) := by
 unfold Sg.cnt0
 have := List.countP_le_length (p := fun e : Sy.Ed => e.2.1 == b && e.1 == p) (l := l)
 split <;> omega
theorem new_bare (m : Nat) : (Pst.new m).bare := fun _ _ => rfl
theorem run_first {w0 w : World} {r g p mb nm m : Nat} {G : Gp} {x : Rv} {c : Nat -> Int} (hM : RnM w w0.heap.size r g p mb x) (hP : Pt w0 w p c) (hL : Lay c (Pst.new m)) (hm : m <= 1000) (hI : RunI (Pst.new m) x) (hx : x.Zero m) (hG : G.at w0 g) (hn : m = G.n) (hmu : w0.heap.size <= mb) (hC : Cnt w mb nm (Sg.cnt0 (Sy.nf G.es))) : RunAt w0 w r g p mb nm G (Pst.new m) x := by
 refine ⟨hM, ⟨c, hP, hL⟩, Pst.new_ok hm, new_bare m, hn, hI, hG, hmu, hC.congr fun p b q => Sg.cnt0_all hx p b q, fun o k hk => ?_⟩
 rw [hx.2] at hk
 have h1 := (List.getElem?_eq_some_iff.1 hk).1
 simp only [List.length_cons, List.length_nil] at h1
 have e : o = 0 := by omega
 rw [e] at hk ⊢
 have h2 : m = k := Option.some.inj hk
 rw [<- h2, hn]
 unfold hc hOf
 rw [List.countP_eq_length.2 (fun e _ => by rw [hx.1]; rfl), List.length_range]
end
section
open Go.RowKit Go.Maps
attribute [local go_sem ↓] Go.wp_at_zero Go.wp_at_succ
structure CnE (w0 wr : World) (g : Nat) (d : Array Sy.Ed) (rest : List Value) (c s : Nat) : Prop where
 row : RowE w0 wr g d rest
 cell : wr.heap[c]? = some (.cells #[.int .i64 s] 3 (0, 0))
 up : w0.heap.size <= c
theorem CnE.below {w0 wr w' : World} {g : Nat} {d : Array Sy.Ed} {rest : List Value} {c s : Nat} (h : CnE w0 wr g d rest c s) (hb : Below wr.heap.size wr w') : CnE w0 w' g d rest c s := ⟨h.row.below hb, (hb.block _ (t_lt h.cell)).trans h.cell, h.up⟩
theorem CnE.bump {w0 wr : World} {g : Nat} {d : Array Sy.Ed} {rest : List Value} {c s : Nat} (h : CnE w0 wr g d rest c s) (t : Nat) : CnE w0 (wr.setCell ⟨c, 0, none⟩ (.int .i64 t)) g d rest c t := by
 have hne : c ≠ g := fun e => by
  obtain ⟨cs, hc, _⟩ := h.row.ids
  have h1 := h.cell
  rw [e, hc] at h1
  injection h1 with h1
  injection h1 with _ h1
  exact absurd h1 (by decide)
 exact ⟨Arr.kept h.row (Kept.setCell _ _ _ _) fun b e => by subst e; exact ⟨h.up, hne⟩, heap_setCell_same _ _ 0 _ _ _ h.cell, h.up⟩
set_option maxRecDepth 100000 in
set_option maxHeartbeats 4000000 in
theorem order2_any (f : Nat) (vw : Sy.Ed -> Sy.Ed) (hV : ViewAt f vw) (g cap a b c0 s : Nat) (d : Array Sy.Ed) (rest : List Value) (w0 w : World) (hR : CnE w0 w g d rest c0 s) (ha : a < d.size) (hb : b < d.size) (hs : s <= 1000000) :
 Calls Tryz.prog 142 #[.slice (some ⟨g, 0, none⟩) d.size cap, .int .i64 a, .int .i64 b, .pointer (some ⟨c0, 0, none⟩), cmpV f] w fun r w' => r = .returned (.tuple #[.int .i64 (Sort.order2 (ltV vw) d a b s).1, .int .i64 (Sort.order2 (ltV vw) d a b s).2.1]) /\ CnE w0 w' g d rest c0 (Sort.order2 (ltV vw) d a b s).2.2 := by
 obtain ⟨n, hn⟩ : ∃ n, n = d.size := ⟨_, rfl⟩
 have HR : Hid _ := And.intro hR (And.intro hn hV)
 rw [<- hn] at ha hb ⊢
 unfold cmpV Sort.order2
 have he := enter_cmp
 obtain ⟨x0, x1, x2⟩ := hR.row.cells (j := b) (by omega)
 obtain ⟨y0, y1, y2⟩ := hR.row.cells (j := a) (by omega)
 have hcm := fun W => compare_any f vw HR.out.2.2 (d[b]!) (d[a]!) W
 unfold edV at hcm
 have hlt2 := cmpV_neg vw (d[b]!) (d[a]!)
 obtain ⟨xe, hxe⟩ : ∃ xe, xe = d[b]! := ⟨_, rfl⟩
 obtain ⟨ye, hye⟩ : ∃ ye, ye = d[a]! := ⟨_, rfl⟩
 rw [<- hxe] at x0 x1 x2 hcm hlt2
 rw [<- hye] at y0 y1 y2 hcm hlt2
 have HE : Hid _ := And.intro hxe hye
 clear hxe hye
 obtain ⟨xa, xb, xc⟩ := xe
 obtain ⟨ya, yb, yc⟩ := ye
 generalize cmpE (vw (xa, xb, xc)) (vw (ya, yb, yc)) = c at hcm hlt2
 have HC : Hid _ := hcm
 have HL : Hid _ := hlt2
 clear hcm hlt2
 simp only at x0 x1 x2 y0 y1 y2
 clear hR hn hV
 have p0 : (0 : Int) <= (b : Int) := by omega
 have p1 : (b : Int) < (n : Int) := by omega
 have p2 : (0 : Int) <= (a : Int) := by omega
 have p3 : (a : Int) < (n : Int) := by omega
 by_cases hc : c < 0
 ·have p6 : decide (c < 0) = true := decide_eq_true hc
  rw [if_pos (by rw [<- HE.out.1, <- HE.out.2]; exact HL.out.1 hc)]
  go_enter Tryz.func142, Tryz.ntmps142
  go_upto_region 1 with fail
  go_region_held3 (fun w' => ((w'.cell? ⟨g, b * 3, none⟩ = some (.int .i64 xa) /\ w'.cell? ⟨g, b * 3 + 1, none⟩ = some (.int .i64 xb) /\ w'.cell? ⟨g, b * 3 + 2, none⟩ = some (.int .i64 xc)) /\ (w'.cell? ⟨g, a * 3, none⟩ = some (.int .i64 ya) /\ w'.cell? ⟨g, a * 3 + 1, none⟩ = some (.int .i64 yb) /\ w'.cell? ⟨g, a * 3 + 2, none⟩ = some (.int .i64 yc))) /\ Hid (Below w.heap.size w w')) (first | exact rg_up6 hb3 (by assumption) | exact ⟨⟨⟨x0, x1, x2⟩, ⟨y0, y1, y2⟩⟩, ((Below.refl _ _).drew : Below w.heap.size w w.drew)⟩ | go_keep)
   ((first
     | (go_at_fn 49; refine (HC.out _).mono ?_; rintro r w3 ⟨rfl, hb3⟩)
     | fail))
  have hbq : Below w.heap.size w w3 := rg_b (by assumption)
  clear x0 x1 x2 y0 y1 y2 hb3 HC
  rename_i hS3
  clear hS3
  have hR3 := HR.out.1.below hbq
  have k0 : w3.cell? ⟨c0, 0, none⟩ = some (.int .i64 s) := cell0_of hR3.cell rfl
  have k1 := blk_free hR3.cell 0
  have p8 : IntKind.i64.wrap ((s : Int) + 1) = (s : Int) + 1 := by rw [IntKind.wrap_i64]; omega
  have H3 : Hid _ := hR3
  clear hR3 hbq
  go_wp2_with fail
  go_ret2
  exact ⟨rfl, H3.out.bump (s + 1)⟩
 ·have p6 : decide (c < 0) = false := decide_eq_false hc
  rw [if_neg (by rw [<- HE.out.1, <- HE.out.2]; intro h; exact hc (HL.out.2 h))]
  go_enter Tryz.func142, Tryz.ntmps142
  go_upto_region 1 with fail
  go_region_held3 (fun w' => ((w'.cell? ⟨g, b * 3, none⟩ = some (.int .i64 xa) /\ w'.cell? ⟨g, b * 3 + 1, none⟩ = some (.int .i64 xb) /\ w'.cell? ⟨g, b * 3 + 2, none⟩ = some (.int .i64 xc)) /\ (w'.cell? ⟨g, a * 3, none⟩ = some (.int .i64 ya) /\ w'.cell? ⟨g, a * 3 + 1, none⟩ = some (.int .i64 yb) /\ w'.cell? ⟨g, a * 3 + 2, none⟩ = some (.int .i64 yc))) /\ Hid (Below w.heap.size w w')) (first | exact rg_up6 hb3 (by assumption) | exact ⟨⟨⟨x0, x1, x2⟩, ⟨y0, y1, y2⟩⟩, ((Below.refl _ _).drew : Below w.heap.size w w.drew)⟩ | go_keep)
   ((first
     | (go_at_fn 49; refine (HC.out _).mono ?_; rintro r w3 ⟨rfl, hb3⟩)
     | fail))
  have hbq : Below w.heap.size w w3 := rg_b (by assumption)
  clear x0 x1 x2 y0 y1 y2 hb3 HC
  rename_i hS3
  clear hS3
  have H3 : Hid _ := HR.out.1.below hbq
  clear hbq
  go_wp2_with fail
  go_ret2
  exact ⟨rfl, H3.out⟩
theorem o2_lt {lt : Sy.Ed -> Sy.Ed -> Bool} {d : Array Sy.Ed} {a b s n : Nat} (ha : a < n) (hb : b < n) : (Sort.order2 lt d a b s).1 < n /\ (Sort.order2 lt d a b s).2.1 < n /\ (Sort.order2 lt d a b s).2.2 <= s + 1 := by
 unfold Sort.order2
 split <;> simp [ha, hb]
set_option maxRecDepth 100000 in
set_option maxHeartbeats 4000000 in
theorem median_any (f : Nat) (vw : Sy.Ed -> Sy.Ed) (hV : ViewAt f vw) (g cap a b c c0 s : Nat) (d : Array Sy.Ed) (rest : List Value) (w0 w : World) (hR : CnE w0 w g d rest c0 s) (ha : a < d.size) (hb : b < d.size) (hc : c < d.size) (hs : s + 3 <= 1000000) :
 Calls Tryz.prog 135 #[.slice (some ⟨g, 0, none⟩) d.size cap, .int .i64 a, .int .i64 b, .int .i64 c, .pointer (some ⟨c0, 0, none⟩), cmpV f] w fun r w' => r = .returned (.int .i64 (Sort.median (ltV vw) d a b c s).1) /\ CnE w0 w' g d rest c0 (Sort.median (ltV vw) d a b c s).2 := by
 have h1 := order2_any f vw hV g cap a b c0 s d rest w0 w hR ha hb (by omega)
 obtain ⟨l1, l2, l3⟩ := o2_lt (lt := ltV vw) (d := d) (s := s) ha hb
 unfold Sort.median
 generalize Sort.order2 (ltV vw) d a b s = r1 at h1 l1 l2 l3 ⊢
 obtain ⟨a1, b1, s1⟩ := r1
 simp only at h1 l1 l2 l3 ⊢
 have h2 := fun W (h : CnE w0 W g d rest c0 s1) => order2_any f vw hV g cap b1 c c0 s1 d rest w0 W h l2 hc (by omega)
 obtain ⟨l4, l5, l6⟩ := o2_lt (lt := ltV vw) (d := d) (s := s1) l2 hc
 generalize Sort.order2 (ltV vw) d b1 c s1 = r2 at h2 l4 l5 l6 ⊢
 obtain ⟨b2, c2, s2⟩ := r2
 simp only at h2 l4 l5 l6 ⊢
 have h3 := fun W (h : CnE w0 W g d rest c0 s2) => order2_any f vw hV g cap a1 b2 c0 s2 d rest w0 W h l1 l4 (by omega)
 generalize Sort.order2 (ltV vw) d a1 b2 s2 = r3 at h3 ⊢
 obtain ⟨a3, b3, s3⟩ := r3
 simp only at h3 ⊢
 have HH : Hid _ := And.intro h1 (And.intro h2 h3)
 unfold cmpV at HH ⊢
 clear h1 h2 h3 hR hV l1 l2 l3 l4 l5 l6
 go_enter Tryz.func135, Tryz.ntmps135
 go_wp2_with fail
 refine Calls.mono HH.out.1 ?_
 rintro r w1 ⟨rfl, hR1⟩
 go_wp2_with fail
 refine Calls.mono (HH.out.2.1 _ hR1) ?_
 rintro r w2 ⟨rfl, hR2⟩
 go_wp2_with fail
 refine Calls.mono (HH.out.2.2 _ hR2) ?_
 rintro r w3 ⟨rfl, hR3⟩
 go_wp2_with fail
 go_ret
 exact ⟨rfl, hR3⟩
set_option maxRecDepth 100000 in
set_option maxHeartbeats 4000000 in
theorem medianAdj_any (f : Nat) (vw : Sy.Ed -> Sy.Ed) (hV : ViewAt f vw) (g cap a c0 s : Nat) (d : Array Sy.Ed) (rest : List Value) (w0 w : World) (hR : CnE w0 w g d rest c0 s) (ha : 1 <= a) (hb : a + 1 < d.size) (hsz : d.size <= 1000000) (hs : s + 3 <= 1000000) :
 Calls Tryz.prog 134 #[.slice (some ⟨g, 0, none⟩) d.size cap, .int .i64 a, .pointer (some ⟨c0, 0, none⟩), cmpV f] w fun r w' => r = .returned (.int .i64 (Sort.medianAdjacent (ltV vw) d a s).1) /\ CnE w0 w' g d rest c0 (Sort.medianAdjacent (ltV vw) d a s).2 := by
 obtain ⟨p, rfl⟩ : ∃ p, a = p + 1 := ⟨a - 1, by omega⟩
 have h1 := median_any f vw hV g cap p (p + 1) (p + 1 + 1) c0 s d rest w0 w hR (by omega) (by omega) (by omega) hs
 unfold Sort.medianAdjacent
 rw [Nat.add_sub_cancel]
 generalize Sort.median (ltV vw) d p (p + 1) (p + 1 + 1) s = r1 at h1 ⊢
 obtain ⟨m1, s1⟩ := r1
 have e1 : IntKind.i64.wrap (((p + 1 : Nat) : Int) - 1) = (p : Int) := by rw [IntKind.wrap_i64]; omega
 have e2 : IntKind.i64.wrap (((p + 1 : Nat) : Int) + 1) = ((p + 1 + 1 : Nat) : Int) := by rw [IntKind.wrap_i64]; omega
 have HH : Hid _ := h1
 unfold cmpV at HH ⊢
 clear h1 hR hV
 go_enter Tryz.func134, Tryz.ntmps134
 go_wp2_with fail
 have HH2 := HH.out
 simp only [Int.natCast_add, Int.natCast_one] at HH2 ⊢
 refine Calls.mono HH2 ?_
 rintro r w1 ⟨rfl, hR1⟩
 go_wp2_with fail
 go_ret
 exact ⟨rfl, hR1⟩
end
section
open Go.RowKit Go.Maps
attribute [local go_sem ↓] Go.wp_at_zero Go.wp_at_succ
theorem rev_go (i j : Nat) (d : Array Sy.Ed) (h : i < j) : Sort.reverseLoop i j d = Sort.reverseLoop (i + 1) (j - 1) (Sort.swp d i j) := by rw [Sort.reverseLoop, if_pos h]
theorem rev_end (i j : Nat) (d : Array Sy.Ed) (h : ¬ i < j) : Sort.reverseLoop i j d = d := by rw [Sort.reverseLoop, if_neg h]
set_option maxRecDepth 100000 in
set_option maxHeartbeats 8000000 in
theorem reverse_any (u : Value) (g cap a b : Nat) (d : Array Sy.Ed) (rest : List Value) (w0 w : World) (hR : RowE w0 w g d rest) (hab : a < b) (hb : b <= d.size) (hsz : d.size <= 1000000) :
 Calls Tryz.prog 105 #[.slice (some ⟨g, 0, none⟩) d.size cap, .int .i64 a, .int .i64 b, u] w fun r w' => r = .returned (.tuple #[]) /\ RowE w0 w' g (Sort.reverseRange d a b) rest := by
 obtain ⟨n, hn⟩ : ∃ n, n = d.size := ⟨_, rfl⟩
 have HR : Hid _ := And.intro hR hn
 rw [<- hn] at hb hsz ⊢
 unfold Sort.reverseRange
 clear hR hn
 go_enter Tryz.func105, Tryz.ntmps105
 go_wp2_with fail
 go_loopg [8, 9] (b - a) (fun q iv jv wr => ∃ (i j : Nat) (dk : Array Sy.Ed), iv = .int .i64 i /\ jv = .int .i64 j /\ i <= n /\ j < n /\ j - i <= q /\ dk.size = n /\ RowE w0 wr g dk rest /\ Hid (Sort.reverseLoop i j dk = Sort.reverseLoop a (b - 1) d))
 case atStart => exact ⟨a, b - 1, d, rfl, by first | go_num | (congr 1; omega), by omega, by omega, by omega, HR.out.2.symm, HR.out.1, rfl⟩
 case round =>
  obtain ⟨i, j, dk, rfl, rfl, hi, hj, hq, hsk, hRk, HO⟩ := hrel
  by_cases hlt : i < j
  ·obtain ⟨jp, rfl⟩ : ∃ jp, j = jp + 1 := ⟨j - 1, by omega⟩
   have r0 : (0 : Int) <= (i : Int) := by omega
   have r1 : (i : Int) < (n : Int) := by omega
   have r2 : (0 : Int) <= (jp : Int) + 1 := by omega
   have r3 : (jp : Int) + 1 < (n : Int) := by omega
   have r4 : ((jp : Int) + 1).toNat = jp + 1 := by omega
   have r5 : (i : Int) < (jp : Int) + 1 := by omega
   have r6 : IntKind.i64.wrap ((jp : Int) + 1 - 1) = (jp : Int) := by rw [IntKind.wrap_i64]; omega
   have r7 : IntKind.i64.wrap (jp : Int) = (jp : Int) := by rw [IntKind.wrap_i64]; omega
   have f0 := hRk.free (i * 3)
   have f1 := hRk.free (i * 3 + 1)
   have f2 := hRk.free (i * 3 + 2)
   have f3 := hRk.free ((jp + 1) * 3)
   have f4 := hRk.free ((jp + 1) * 3 + 1)
   have f5 := hRk.free ((jp + 1) * 3 + 2)
   obtain ⟨z0, z1, z2⟩ := hRk.cells (j := i) (by omega)
   obtain ⟨z3, z4, z5⟩ := hRk.cells (j := (jp + 1)) (by omega)
   obtain ⟨xe2, hxe2⟩ : ∃ xe, xe = dk[i]! := ⟨_, rfl⟩
   obtain ⟨ye2, hye2⟩ : ∃ ye, ye = dk[(jp + 1)]! := ⟨_, rfl⟩
   rw [<- hxe2] at z0 z1 z2
   rw [<- hye2] at z3 z4 z5
   have HE2 : Hid _ := And.intro hxe2 hye2
   clear hxe2 hye2
   obtain ⟨sa, sb, sc⟩ := xe2
   obtain ⟨ta, tb, tc⟩ := ye2
   simp only at z0 z1 z2 z3 z4 z5
   have HK : Hid _ := And.intro hRk hsk
   clear hRk hsk
   go_wp2_with fail
   go_region
   all_goals go_wp2_with fail
   go_roundg (jp - (i + 1))
   case measure => omega
   case rel =>
    refine ⟨i + 1, jp, Sort.swp dk i (jp + 1), by go_num, by go_num, by omega, by omega, Nat.le_refl _, by rw [Sort.size_swp]; exact HK.out.2, HK.out.1.swapped (i := i) (j := jp + 1) (x := (sa, sb, sc)) (y := (ta, tb, tc)) (by have := HK.out.2; omega) (by have := HK.out.2; omega) HE2.out.1 HE2.out.2, (show Hid _ from ?_)⟩
    show _ = _
    rw [<- HO.out, rev_go _ _ _ hlt]
    rfl
  ·have r5 : ¬ (i : Int) < (j : Int) := by omega
   go_wp2
   go_end0
   exact ⟨rfl, by rw [<- HO.out, rev_end _ _ _ hlt]; exact hRk⟩
theorem sd_end {lt : Sy.Ed -> Sy.Ed -> Bool} {hi first root : Nat} {d : Array Sy.Ed} (h : hi <= 2 * root + 1) : Sort.siftDown lt hi first root d = d := by rw [Sort.siftDown, dif_pos h]
theorem sd_two {lt : Sy.Ed -> Sy.Ed -> Bool} {hi first root : Nat} {d : Array Sy.Ed} (h2 : 2 * root + 2 < hi) (hl : lt d[first + (2 * root + 1)]! d[first + (2 * root + 1) + 1]! = true) (hc : lt d[first + root]! d[first + (2 * root + 2)]! = true) : Sort.siftDown lt hi first root d = Sort.siftDown lt hi first (2 * root + 2) (Sort.swp d (first + root) (first + (2 * root + 2))) := by
 rw [Sort.siftDown, dif_neg (by omega), if_pos (by simp [hl]; omega), if_neg (by simp [hc]), dif_pos h2]
theorem sd_two_stop {lt : Sy.Ed -> Sy.Ed -> Bool} {hi first root : Nat} {d : Array Sy.Ed} (h2 : 2 * root + 2 < hi) (hl : lt d[first + (2 * root + 1)]! d[first + (2 * root + 1) + 1]! = true) (hc : lt d[first + root]! d[first + (2 * root + 2)]! = false) : Sort.siftDown lt hi first root d = d := by
 rw [Sort.siftDown, dif_neg (by omega), if_pos (by simp [hl]; omega), if_pos (by simp [hc])]
theorem sd_one {lt : Sy.Ed -> Sy.Ed -> Bool} {hi first root : Nat} {d : Array Sy.Ed} (h1 : 2 * root + 1 < hi) (hn : ¬ (2 * root + 2 < hi /\ lt d[first + (2 * root + 1)]! d[first + (2 * root + 1) + 1]! = true)) (hc : lt d[first + root]! d[first + (2 * root + 1)]! = true) : Sort.siftDown lt hi first root d = Sort.siftDown lt hi first (2 * root + 1) (Sort.swp d (first + root) (first + (2 * root + 1))) := by
 rw [Sort.siftDown, dif_neg (by omega), if_neg (by simpa using hn), if_neg (by simp [hc])]
theorem sd_one_stop {lt : Sy.Ed -> Sy.Ed -> Bool} {hi first root : Nat} {d : Array Sy.Ed} (h1 : 2 * root + 1 < hi) (hn : ¬ (2 * root + 2 < hi /\ lt d[first + (2 * root + 1)]! d[first + (2 * root + 1) + 1]! = true)) (hc : lt d[first + root]! d[first + (2 * root + 1)]! = false) : Sort.siftDown lt hi first root d = d := by
 rw [Sort.siftDown, dif_neg (by omega), if_neg (by simpa using hn), if_pos (by simp [hc])]
set_option maxRecDepth 100000 in
set_option maxHeartbeats 16000000 in
theorem sift_any (f : Nat) (vw : Sy.Ed -> Sy.Ed) (hV : ViewAt f vw) (g cap lo hi first : Nat) (d : Array Sy.Ed) (rest : List Value) (w0 w : World) (hR : RowE w0 w g d rest) (hlo : lo <= hi) (hb : first + hi <= d.size) (hsz : d.size <= 1000000) :
 Calls Tryz.prog 131 #[.slice (some ⟨g, 0, none⟩) d.size cap, .int .i64 lo, .int .i64 hi, .int .i64 first, cmpV f] w fun r w' => r = .returned (.tuple #[]) /\ RowE w0 w' g (Sort.siftDown (ltV vw) hi first lo d) rest /\ (Sort.siftDown (ltV vw) hi first lo d).size = d.size := by
 obtain ⟨n, hn⟩ : ∃ n, n = d.size := ⟨_, rfl⟩
 have HR : Hid _ := And.intro hR (And.intro hn hV)
 rw [<- hn] at hb hsz ⊢
 unfold cmpV
 have he := enter_cmp
 clear hR hn hV
 go_enter Tryz.func131, Tryz.ntmps131
 go_wp2_with fail
 go_loopg [10] hi (fun q rv wr => ∃ (root : Nat) (dk : Array Sy.Ed), rv = .int .i64 root /\ root <= hi /\ hi - root <= q /\ dk.size = n /\ RowE w0 wr g dk rest /\ Hid (Sort.siftDown (ltV vw) hi first root dk = Sort.siftDown (ltV vw) hi first lo d))
 case atStart => exact ⟨lo, d, rfl, hlo, by omega, HR.out.2.1.symm, HR.out.1, rfl⟩
 case round =>
  obtain ⟨root, dk, rfl, hro, hq, hsk, hRk, HO⟩ := hrel
  have m1 : IntKind.i64.wrap (2 * (root : Int)) = 2 * (root : Int) := by rw [IntKind.wrap_i64]; omega
  have m2 : IntKind.i64.wrap (2 * (root : Int) + 1) = 2 * (root : Int) + 1 := by rw [IntKind.wrap_i64]; omega
  have m3 : IntKind.i64.wrap (2 * (root : Int) + 1 + 1) = 2 * (root : Int) + 1 + 1 := by rw [IntKind.wrap_i64]; omega
  obtain ⟨w4, hw4⟩ : ∃ w4, w4 = wr := ⟨_, rfl⟩
  by_cases h1 : 2 * root + 1 < hi
  ·have q1 : ¬ (hi : Int) <= 2 * (root : Int) + 1 := by omega
   by_cases h2 : 2 * root + 2 < hi
   ·have q2 : decide (2 * (root : Int) + 1 + 1 < (hi : Int)) = true := decide_eq_true (by omega)
    have q3 : 2 * (root : Int) + 1 + 1 < (hi : Int) := by omega
    have u1 : (first : Int) + (2 * (root : Int) + 1) < (n : Int) := by omega
    have u2 : (0 : Int) <= (first : Int) + (2 * (root : Int) + 1) := by omega
    have u3 : ((first : Int) + (2 * (root : Int) + 1)).toNat = first + (2 * root + 1) := by omega
    have u4 : IntKind.i64.wrap ((first : Int) + (2 * (root : Int) + 1)) = (first : Int) + (2 * (root : Int) + 1) := by rw [IntKind.wrap_i64]; omega
    have u5 : (first : Int) + (2 * (root : Int) + 1) + 1 < (n : Int) := by omega
    have u6 : (0 : Int) <= (first : Int) + (2 * (root : Int) + 1) + 1 := by omega
    have u7 : ((first : Int) + (2 * (root : Int) + 1) + 1).toNat = first + (2 * root + 1) + 1 := by omega
    have u8 : IntKind.i64.wrap ((first : Int) + (2 * (root : Int) + 1) + 1) = (first : Int) + (2 * (root : Int) + 1) + 1 := by rw [IntKind.wrap_i64]; omega
    obtain ⟨x0, x1, x2⟩ := hRk.cells (j := (first + (2 * root + 1))) (by omega)
    obtain ⟨y0, y1, y2⟩ := hRk.cells (j := (first + (2 * root + 1) + 1)) (by omega)
    have hcm := fun W => compare_any f vw HR.out.2.2 (dk[(first + (2 * root + 1))]!) (dk[(first + (2 * root + 1) + 1)]!) W
    unfold edV at hcm
    have hlt2 := cmpV_neg vw (dk[(first + (2 * root + 1))]!) (dk[(first + (2 * root + 1) + 1)]!)
    obtain ⟨xe, hxe⟩ : ∃ xe, xe = dk[(first + (2 * root + 1))]! := ⟨_, rfl⟩
    obtain ⟨ye, hye⟩ : ∃ ye, ye = dk[(first + (2 * root + 1) + 1)]! := ⟨_, rfl⟩
    rw [<- hxe] at x0 x1 x2 hcm hlt2
    rw [<- hye] at y0 y1 y2 hcm hlt2
    have HE : Hid _ := And.intro hxe hye
    clear hxe hye
    obtain ⟨xa, xb, xc⟩ := xe
    obtain ⟨ya, yb, yc⟩ := ye
    generalize cmpE (vw (xa, xb, xc)) (vw (ya, yb, yc)) = c at hcm hlt2
    have HC : Hid _ := hcm
    have HL : Hid _ := hlt2
    clear hcm hlt2
    simp only at x0 x1 x2 y0 y1 y2
    have HK : Hid _ := And.intro hRk hsk
    clear hRk hsk hw4
    by_cases hc1 : c < 0
    ·have p7 : decide (c < 0) = true := decide_eq_true hc1
     go_upto_region 3 with fail
     go_region_held3 (fun w' => ((w'.cell? ⟨g, (first + (2 * root + 1)) * 3, none⟩ = some (.int .i64 xa) /\ w'.cell? ⟨g, (first + (2 * root + 1)) * 3 + 1, none⟩ = some (.int .i64 xb) /\ w'.cell? ⟨g, (first + (2 * root + 1)) * 3 + 2, none⟩ = some (.int .i64 xc)) /\ (w'.cell? ⟨g, (first + (2 * root + 1) + 1) * 3, none⟩ = some (.int .i64 ya) /\ w'.cell? ⟨g, (first + (2 * root + 1) + 1) * 3 + 1, none⟩ = some (.int .i64 yb) /\ w'.cell? ⟨g, (first + (2 * root + 1) + 1) * 3 + 2, none⟩ = some (.int .i64 yc))) /\ Hid (Below wr.heap.size wr w')) (first | exact rg_up6 hb3 (by assumption) | exact ⟨⟨⟨x0, x1, x2⟩, ⟨y0, y1, y2⟩⟩, ((Below.refl _ _).drew : Below wr.heap.size wr wr.drew)⟩ | go_keep)
      ((first
        | (go_at_fn 49; refine (HC.out _).mono ?_; rintro r w3 ⟨rfl, hb3⟩)
        | fail))
     have hbq : Below wr.heap.size wr w3 := rg_b (by assumption)
     clear x0 x1 x2 y0 y1 y2 hb3 HC
     rename_i hS3
     clear hS3
     have hll : ltV vw dk[first + (2 * root + 1)]! dk[first + (2 * root + 1) + 1]! = true := by rw [<- HE.out.1, <- HE.out.2]; exact HL.out.1 hc1
     have hR4 := HK.out.1.below hbq
     obtain ⟨w4, hw4⟩ : ∃ w4, w4 = w3 := ⟨_, rfl⟩
     rw [<- hw4] at hR4 ⊢
     have HLL : Hid _ := hll
     clear hbq hw4 HE HL hll hc1 p7 u1 u2 u3 u4 u5 u6 u7 u8
     have hCn : first + (2 * root + 2) < n := by omega
     have t1 : (first : Int) + (root : Int) < (n : Int) := by omega
     have t2 : (0 : Int) <= (first : Int) + (root : Int) := by omega
     have t3 : ((first : Int) + (root : Int)).toNat = first + root := by omega
     have t4 : IntKind.i64.wrap ((first : Int) + (root : Int)) = (first : Int) + (root : Int) := by rw [IntKind.wrap_i64]; omega
     have t5 : (first : Int) + (2 * (root : Int) + 1 + 1) < (n : Int) := by omega
     have t6 : (0 : Int) <= (first : Int) + (2 * (root : Int) + 1 + 1) := by omega
     have t7 : ((first : Int) + (2 * (root : Int) + 1 + 1)).toNat = first + (2 * root + 2) := by omega
     have t8 : IntKind.i64.wrap ((first : Int) + (2 * (root : Int) + 1 + 1)) = (first : Int) + (2 * (root : Int) + 1 + 1) := by rw [IntKind.wrap_i64]; omega
     obtain ⟨x0, x1, x2⟩ := hR4.cells (j := (first + root)) (by have := HK.out.2; omega)
     obtain ⟨y0, y1, y2⟩ := hR4.cells (j := (first + (2 * root + 2))) (by have := HK.out.2; omega)
     have hcm := fun W => compare_any f vw HR.out.2.2 (dk[(first + root)]!) (dk[(first + (2 * root + 2))]!) W
     unfold edV at hcm
     have hlt2 := cmpV_neg vw (dk[(first + root)]!) (dk[(first + (2 * root + 2))]!)
     obtain ⟨xe, hxe⟩ : ∃ xe, xe = dk[(first + root)]! := ⟨_, rfl⟩
     obtain ⟨ye, hye⟩ : ∃ ye, ye = dk[(first + (2 * root + 2))]! := ⟨_, rfl⟩
     rw [<- hxe] at x0 x1 x2 hcm hlt2
     rw [<- hye] at y0 y1 y2 hcm hlt2
     have HE : Hid _ := And.intro hxe hye
     clear hxe hye
     obtain ⟨xa, xb, xc⟩ := xe
     obtain ⟨ya, yb, yc⟩ := ye
     generalize cmpE (vw (xa, xb, xc)) (vw (ya, yb, yc)) = c at hcm hlt2
     have HC : Hid _ := hcm
     have HL : Hid _ := hlt2
     clear hcm hlt2
     simp only at x0 x1 x2 y0 y1 y2
     have H4 : Hid (RowE w0 w4 g dk rest) := hR4
     clear hR4
     by_cases hc2 : c < 0
     ·have p6 : decide (c < 0) = true := decide_eq_true hc2
      go_upto_region 5 with fail
      go_region_held3 (fun w' => ((w'.cell? ⟨g, (first + root) * 3, none⟩ = some (.int .i64 xa) /\ w'.cell? ⟨g, (first + root) * 3 + 1, none⟩ = some (.int .i64 xb) /\ w'.cell? ⟨g, (first + root) * 3 + 2, none⟩ = some (.int .i64 xc)) /\ (w'.cell? ⟨g, (first + (2 * root + 2)) * 3, none⟩ = some (.int .i64 ya) /\ w'.cell? ⟨g, (first + (2 * root + 2)) * 3 + 1, none⟩ = some (.int .i64 yb) /\ w'.cell? ⟨g, (first + (2 * root + 2)) * 3 + 2, none⟩ = some (.int .i64 yc))) /\ Hid (Below w4.heap.size w4 w')) (first | exact rg_up6 hb3 (by assumption) | exact ⟨⟨⟨x0, x1, x2⟩, ⟨y0, y1, y2⟩⟩, ((Below.refl _ _).drew : Below w4.heap.size w4 w4.drew)⟩ | go_keep)
       ((first
         | (go_at_fn 49; refine (HC.out _).mono ?_; rintro r w3 ⟨rfl, hb3⟩)
         | fail))
      have hbq : Below w4.heap.size w4 w3 := rg_b (by assumption)
      clear x0 x1 x2 y0 y1 y2 hb3 HC
      rename_i hS3
      clear hS3
      have hR5 := H4.out.below hbq
      clear hbq
      obtain ⟨w5, hw5⟩ : ∃ w5, w5 = w3 := ⟨_, rfl⟩
      rw [<- hw5] at hR5 ⊢
      clear hw5
      have f0 := hR5.free ((first + root) * 3)
      have f1 := hR5.free ((first + root) * 3 + 1)
      have f2 := hR5.free ((first + root) * 3 + 2)
      have f3 := hR5.free ((first + (2 * root + 2)) * 3)
      have f4 := hR5.free ((first + (2 * root + 2)) * 3 + 1)
      have f5 := hR5.free ((first + (2 * root + 2)) * 3 + 2)
      obtain ⟨z0, z1, z2⟩ := hR5.cells (j := (first + root)) (by have := HK.out.2; omega)
      obtain ⟨z3, z4, z5⟩ := hR5.cells (j := (first + (2 * root + 2))) (by have := HK.out.2; omega)
      obtain ⟨xe2, hxe2⟩ : ∃ xe, xe = dk[(first + root)]! := ⟨_, rfl⟩
      obtain ⟨ye2, hye2⟩ : ∃ ye, ye = dk[(first + (2 * root + 2))]! := ⟨_, rfl⟩
      rw [<- hxe2] at z0 z1 z2
      rw [<- hye2] at z3 z4 z5
      have HE2 : Hid _ := And.intro hxe2 hye2
      clear hxe2 hye2
      obtain ⟨sa, sb, sc⟩ := xe2
      obtain ⟨ta, tb, tc⟩ := ye2
      simp only at z0 z1 z2 z3 z4 z5
      have H5 : Hid (RowE w0 w5 g dk rest) := hR5
      clear hR5
      go_wp2_with fail
      go_region
      all_goals go_wp2_with fail
      go_roundg (hi - ((2 * root + 2)))
      case measure => omega
      case rel =>
       refine ⟨(2 * root + 2), Sort.swp dk (first + root) (first + (2 * root + 2)), by first | rfl | go_num | (congr 1; omega), by omega, Nat.le_refl _, by rw [Sort.size_swp]; exact HK.out.2, H5.out.swapped (i := first + root) (j := first + (2 * root + 2)) (x := (sa, sb, sc)) (y := (ta, tb, tc)) (by have := HK.out.2; omega) (by have := HK.out.2; omega) HE2.out.1 HE2.out.2, (show Hid _ from ?_)⟩
       show _ = _
       rw [<- HO.out, sd_two h2 HLL.out (by rw [<- HE.out.1, <- HE.out.2]; exact HL.out.1 hc2)]
     ·have p6 : decide (c < 0) = false := decide_eq_false hc2
      go_upto_region 5 with fail
      go_region_held3 (fun w' => ((w'.cell? ⟨g, (first + root) * 3, none⟩ = some (.int .i64 xa) /\ w'.cell? ⟨g, (first + root) * 3 + 1, none⟩ = some (.int .i64 xb) /\ w'.cell? ⟨g, (first + root) * 3 + 2, none⟩ = some (.int .i64 xc)) /\ (w'.cell? ⟨g, (first + (2 * root + 2)) * 3, none⟩ = some (.int .i64 ya) /\ w'.cell? ⟨g, (first + (2 * root + 2)) * 3 + 1, none⟩ = some (.int .i64 yb) /\ w'.cell? ⟨g, (first + (2 * root + 2)) * 3 + 2, none⟩ = some (.int .i64 yc))) /\ Hid (Below w4.heap.size w4 w')) (first | exact rg_up6 hb3 (by assumption) | exact ⟨⟨⟨x0, x1, x2⟩, ⟨y0, y1, y2⟩⟩, ((Below.refl _ _).drew : Below w4.heap.size w4 w4.drew)⟩ | go_keep)
       ((first
         | (go_at_fn 49; refine (HC.out _).mono ?_; rintro r w3 ⟨rfl, hb3⟩)
         | fail))
      have hbq : Below w4.heap.size w4 w3 := rg_b (by assumption)
      clear x0 x1 x2 y0 y1 y2 hb3 HC
      rename_i hS3
      clear hS3
      have H5 : Hid (RowE w0 w3 g dk rest) := H4.out.below hbq
      clear hbq
      go_wp2_with fail
      (try simp only [Exit.inBlock, Exit.then])
      refine bodyPost_ret (results_none rfl _ _ _) rfl ?_
      refine ⟨rfl, ?_⟩
      have hl : ltV vw dk[first + root]! dk[first + (2 * root + 2)]! = false := by
       rw [<- HE.out.1, <- HE.out.2]
       cases h : ltV vw (xa, xb, xc) (ya, yb, yc) with
       | false => rfl
       | true => exact absurd (HL.out.2 h) (by omega)
      rw [<- HO.out, sd_two_stop h2 HLL.out hl]
      exact ⟨H5.out, HK.out.2⟩
    ·have p7 : decide (c < 0) = false := decide_eq_false hc1
     go_upto_region 3 with fail
     go_region_held3 (fun w' => ((w'.cell? ⟨g, (first + (2 * root + 1)) * 3, none⟩ = some (.int .i64 xa) /\ w'.cell? ⟨g, (first + (2 * root + 1)) * 3 + 1, none⟩ = some (.int .i64 xb) /\ w'.cell? ⟨g, (first + (2 * root + 1)) * 3 + 2, none⟩ = some (.int .i64 xc)) /\ (w'.cell? ⟨g, (first + (2 * root + 1) + 1) * 3, none⟩ = some (.int .i64 ya) /\ w'.cell? ⟨g, (first + (2 * root + 1) + 1) * 3 + 1, none⟩ = some (.int .i64 yb) /\ w'.cell? ⟨g, (first + (2 * root + 1) + 1) * 3 + 2, none⟩ = some (.int .i64 yc))) /\ Hid (Below wr.heap.size wr w')) (first | exact rg_up6 hb3 (by assumption) | exact ⟨⟨⟨x0, x1, x2⟩, ⟨y0, y1, y2⟩⟩, ((Below.refl _ _).drew : Below wr.heap.size wr wr.drew)⟩ | go_keep)
      ((first
        | (go_at_fn 49; refine (HC.out _).mono ?_; rintro r w3 ⟨rfl, hb3⟩)
        | fail))
     have hbq : Below wr.heap.size wr w3 := rg_b (by assumption)
     clear x0 x1 x2 y0 y1 y2 hb3 HC
     rename_i hS3
     clear hS3
     have hll : ¬ (2 * root + 2 < hi /\ ltV vw dk[first + (2 * root + 1)]! dk[first + (2 * root + 1) + 1]! = true) := fun h => by
      rw [<- HE.out.1, <- HE.out.2] at h
      have := HL.out.2 h.2
      omega
     have hR4 := HK.out.1.below hbq
     obtain ⟨w4, hw4⟩ : ∃ w4, w4 = w3 := ⟨_, rfl⟩
     rw [<- hw4] at hR4 ⊢
     have HLL : Hid _ := hll
     clear hbq hw4 HE HL hll hc1 p7 u1 u2 u3 u4 u5 u6 u7 u8
     have hCn : first + (2 * root + 1) < n := by omega
     have t1 : (first : Int) + (root : Int) < (n : Int) := by omega
     have t2 : (0 : Int) <= (first : Int) + (root : Int) := by omega
     have t3 : ((first : Int) + (root : Int)).toNat = first + root := by omega
     have t4 : IntKind.i64.wrap ((first : Int) + (root : Int)) = (first : Int) + (root : Int) := by rw [IntKind.wrap_i64]; omega
     have t5 : (first : Int) + (2 * (root : Int) + 1) < (n : Int) := by omega
     have t6 : (0 : Int) <= (first : Int) + (2 * (root : Int) + 1) := by omega
     have t7 : ((first : Int) + (2 * (root : Int) + 1)).toNat = first + (2 * root + 1) := by omega
     have t8 : IntKind.i64.wrap ((first : Int) + (2 * (root : Int) + 1)) = (first : Int) + (2 * (root : Int) + 1) := by rw [IntKind.wrap_i64]; omega
     obtain ⟨x0, x1, x2⟩ := hR4.cells (j := (first + root)) (by have := HK.out.2; omega)
     obtain ⟨y0, y1, y2⟩ := hR4.cells (j := (first + (2 * root + 1))) (by have := HK.out.2; omega)
     have hcm := fun W => compare_any f vw HR.out.2.2 (dk[(first + root)]!) (dk[(first + (2 * root + 1))]!) W
     unfold edV at hcm
     have hlt2 := cmpV_neg vw (dk[(first + root)]!) (dk[(first + (2 * root + 1))]!)
     obtain ⟨xe, hxe⟩ : ∃ xe, xe = dk[(first + root)]! := ⟨_, rfl⟩
     obtain ⟨ye, hye⟩ : ∃ ye, ye = dk[(first + (2 * root + 1))]! := ⟨_, rfl⟩
     rw [<- hxe] at x0 x1 x2 hcm hlt2
     rw [<- hye] at y0 y1 y2 hcm hlt2
     have HE : Hid _ := And.intro hxe hye
     clear hxe hye
     obtain ⟨xa, xb, xc⟩ := xe
     obtain ⟨ya, yb, yc⟩ := ye
     generalize cmpE (vw (xa, xb, xc)) (vw (ya, yb, yc)) = c at hcm hlt2
     have HC : Hid _ := hcm
     have HL : Hid _ := hlt2
     clear hcm hlt2
     simp only at x0 x1 x2 y0 y1 y2
     have H4 : Hid (RowE w0 w4 g dk rest) := hR4
     clear hR4
     by_cases hc2 : c < 0
     ·have p6 : decide (c < 0) = true := decide_eq_true hc2
      go_upto_region 5 with fail
      go_region_held3 (fun w' => ((w'.cell? ⟨g, (first + root) * 3, none⟩ = some (.int .i64 xa) /\ w'.cell? ⟨g, (first + root) * 3 + 1, none⟩ = some (.int .i64 xb) /\ w'.cell? ⟨g, (first + root) * 3 + 2, none⟩ = some (.int .i64 xc)) /\ (w'.cell? ⟨g, (first + (2 * root + 1)) * 3, none⟩ = some (.int .i64 ya) /\ w'.cell? ⟨g, (first + (2 * root + 1)) * 3 + 1, none⟩ = some (.int .i64 yb) /\ w'.cell? ⟨g, (first + (2 * root + 1)) * 3 + 2, none⟩ = some (.int .i64 yc))) /\ Hid (Below w4.heap.size w4 w')) (first | exact rg_up6 hb3 (by assumption) | exact ⟨⟨⟨x0, x1, x2⟩, ⟨y0, y1, y2⟩⟩, ((Below.refl _ _).drew : Below w4.heap.size w4 w4.drew)⟩ | go_keep)
       ((first
         | (go_at_fn 49; refine (HC.out _).mono ?_; rintro r w3 ⟨rfl, hb3⟩)
         | fail))
      have hbq : Below w4.heap.size w4 w3 := rg_b (by assumption)
      clear x0 x1 x2 y0 y1 y2 hb3 HC
      rename_i hS3
      clear hS3
      have hR5 := H4.out.below hbq
      clear hbq
      obtain ⟨w5, hw5⟩ : ∃ w5, w5 = w3 := ⟨_, rfl⟩
      rw [<- hw5] at hR5 ⊢
      clear hw5
      have f0 := hR5.free ((first + root) * 3)
      have f1 := hR5.free ((first + root) * 3 + 1)
      have f2 := hR5.free ((first + root) * 3 + 2)
      have f3 := hR5.free ((first + (2 * root + 1)) * 3)
      have f4 := hR5.free ((first + (2 * root + 1)) * 3 + 1)
      have f5 := hR5.free ((first + (2 * root + 1)) * 3 + 2)
      obtain ⟨z0, z1, z2⟩ := hR5.cells (j := (first + root)) (by have := HK.out.2; omega)
      obtain ⟨z3, z4, z5⟩ := hR5.cells (j := (first + (2 * root + 1))) (by have := HK.out.2; omega)
      obtain ⟨xe2, hxe2⟩ : ∃ xe, xe = dk[(first + root)]! := ⟨_, rfl⟩
      obtain ⟨ye2, hye2⟩ : ∃ ye, ye = dk[(first + (2 * root + 1))]! := ⟨_, rfl⟩
      rw [<- hxe2] at z0 z1 z2
      rw [<- hye2] at z3 z4 z5
      have HE2 : Hid _ := And.intro hxe2 hye2
      clear hxe2 hye2
      obtain ⟨sa, sb, sc⟩ := xe2
      obtain ⟨ta, tb, tc⟩ := ye2
      simp only at z0 z1 z2 z3 z4 z5
      have H5 : Hid (RowE w0 w5 g dk rest) := hR5
      clear hR5
      go_wp2_with fail
      go_region
      all_goals go_wp2_with fail
      go_roundg (hi - ((2 * root + 1)))
      case measure => omega
      case rel =>
       refine ⟨(2 * root + 1), Sort.swp dk (first + root) (first + (2 * root + 1)), by first | rfl | go_num | (congr 1; omega), by omega, Nat.le_refl _, by rw [Sort.size_swp]; exact HK.out.2, H5.out.swapped (i := first + root) (j := first + (2 * root + 1)) (x := (sa, sb, sc)) (y := (ta, tb, tc)) (by have := HK.out.2; omega) (by have := HK.out.2; omega) HE2.out.1 HE2.out.2, (show Hid _ from ?_)⟩
       show _ = _
       rw [<- HO.out, sd_one h1 HLL.out (by rw [<- HE.out.1, <- HE.out.2]; exact HL.out.1 hc2)]
     ·have p6 : decide (c < 0) = false := decide_eq_false hc2
      go_upto_region 5 with fail
      go_region_held3 (fun w' => ((w'.cell? ⟨g, (first + root) * 3, none⟩ = some (.int .i64 xa) /\ w'.cell? ⟨g, (first + root) * 3 + 1, none⟩ = some (.int .i64 xb) /\ w'.cell? ⟨g, (first + root) * 3 + 2, none⟩ = some (.int .i64 xc)) /\ (w'.cell? ⟨g, (first + (2 * root + 1)) * 3, none⟩ = some (.int .i64 ya) /\ w'.cell? ⟨g, (first + (2 * root + 1)) * 3 + 1, none⟩ = some (.int .i64 yb) /\ w'.cell? ⟨g, (first + (2 * root + 1)) * 3 + 2, none⟩ = some (.int .i64 yc))) /\ Hid (Below w4.heap.size w4 w')) (first | exact rg_up6 hb3 (by assumption) | exact ⟨⟨⟨x0, x1, x2⟩, ⟨y0, y1, y2⟩⟩, ((Below.refl _ _).drew : Below w4.heap.size w4 w4.drew)⟩ | go_keep)
       ((first
         | (go_at_fn 49; refine (HC.out _).mono ?_; rintro r w3 ⟨rfl, hb3⟩)
         | fail))
      have hbq : Below w4.heap.size w4 w3 := rg_b (by assumption)
      clear x0 x1 x2 y0 y1 y2 hb3 HC
      rename_i hS3
      clear hS3
      have H5 : Hid (RowE w0 w3 g dk rest) := H4.out.below hbq
      clear hbq
      go_wp2_with fail
      (try simp only [Exit.inBlock, Exit.then])
      refine bodyPost_ret (results_none rfl _ _ _) rfl ?_
      refine ⟨rfl, ?_⟩
      have hl : ltV vw dk[first + root]! dk[first + (2 * root + 1)]! = false := by
       rw [<- HE.out.1, <- HE.out.2]
       cases h : ltV vw (xa, xb, xc) (ya, yb, yc) with
       | false => rfl
       | true => exact absurd (HL.out.2 h) (by omega)
      rw [<- HO.out, sd_one_stop h1 HLL.out hl]
      exact ⟨H5.out, HK.out.2⟩
   ·have q2 : decide (2 * (root : Int) + 1 + 1 < (hi : Int)) = false := decide_eq_false (by omega)
    have q3 : ¬ 2 * (root : Int) + 1 + 1 < (hi : Int) := by omega
    have hll : ¬ (2 * root + 2 < hi /\ ltV vw dk[first + (2 * root + 1)]! dk[first + (2 * root + 1) + 1]! = true) := fun h => h2 h.1
    have HLL : Hid _ := hll
    have HK : Hid _ := And.intro hRk hsk
    clear hRk hsk hw4 hll
    go_wp2_with fail
    go_region
    all_goals go_wp2_with fail
    have hR4 := HK.out.1.below (Below.refl _ _).drew
    obtain ⟨w4, hw4⟩ : ∃ w4, w4 = wr.drew := ⟨_, rfl⟩
    rw [<- hw4] at hR4 ⊢
    clear hw4
    have hCn : first + (2 * root + 1) < n := by omega
    have t1 : (first : Int) + (root : Int) < (n : Int) := by omega
    have t2 : (0 : Int) <= (first : Int) + (root : Int) := by omega
    have t3 : ((first : Int) + (root : Int)).toNat = first + root := by omega
    have t4 : IntKind.i64.wrap ((first : Int) + (root : Int)) = (first : Int) + (root : Int) := by rw [IntKind.wrap_i64]; omega
    have t5 : (first : Int) + (2 * (root : Int) + 1) < (n : Int) := by omega
    have t6 : (0 : Int) <= (first : Int) + (2 * (root : Int) + 1) := by omega
    have t7 : ((first : Int) + (2 * (root : Int) + 1)).toNat = first + (2 * root + 1) := by omega
    have t8 : IntKind.i64.wrap ((first : Int) + (2 * (root : Int) + 1)) = (first : Int) + (2 * (root : Int) + 1) := by rw [IntKind.wrap_i64]; omega
    obtain ⟨x0, x1, x2⟩ := hR4.cells (j := (first + root)) (by have := HK.out.2; omega)
    obtain ⟨y0, y1, y2⟩ := hR4.cells (j := (first + (2 * root + 1))) (by have := HK.out.2; omega)
    have hcm := fun W => compare_any f vw HR.out.2.2 (dk[(first + root)]!) (dk[(first + (2 * root + 1))]!) W
    unfold edV at hcm
    have hlt2 := cmpV_neg vw (dk[(first + root)]!) (dk[(first + (2 * root + 1))]!)
    obtain ⟨xe, hxe⟩ : ∃ xe, xe = dk[(first + root)]! := ⟨_, rfl⟩
    obtain ⟨ye, hye⟩ : ∃ ye, ye = dk[(first + (2 * root + 1))]! := ⟨_, rfl⟩
    rw [<- hxe] at x0 x1 x2 hcm hlt2
    rw [<- hye] at y0 y1 y2 hcm hlt2
    have HE : Hid _ := And.intro hxe hye
    clear hxe hye
    obtain ⟨xa, xb, xc⟩ := xe
    obtain ⟨ya, yb, yc⟩ := ye
    generalize cmpE (vw (xa, xb, xc)) (vw (ya, yb, yc)) = c at hcm hlt2
    have HC : Hid _ := hcm
    have HL : Hid _ := hlt2
    clear hcm hlt2
    simp only at x0 x1 x2 y0 y1 y2
    have H4 : Hid (RowE w0 w4 g dk rest) := hR4
    clear hR4
    by_cases hc2 : c < 0
    ·have p6 : decide (c < 0) = true := decide_eq_true hc2
     go_upto_region 5 with fail
     go_region_held3 (fun w' => ((w'.cell? ⟨g, (first + root) * 3, none⟩ = some (.int .i64 xa) /\ w'.cell? ⟨g, (first + root) * 3 + 1, none⟩ = some (.int .i64 xb) /\ w'.cell? ⟨g, (first + root) * 3 + 2, none⟩ = some (.int .i64 xc)) /\ (w'.cell? ⟨g, (first + (2 * root + 1)) * 3, none⟩ = some (.int .i64 ya) /\ w'.cell? ⟨g, (first + (2 * root + 1)) * 3 + 1, none⟩ = some (.int .i64 yb) /\ w'.cell? ⟨g, (first + (2 * root + 1)) * 3 + 2, none⟩ = some (.int .i64 yc))) /\ Hid (Below w4.heap.size w4 w')) (first | exact rg_up6 hb3 (by assumption) | exact ⟨⟨⟨x0, x1, x2⟩, ⟨y0, y1, y2⟩⟩, ((Below.refl _ _).drew : Below w4.heap.size w4 w4.drew)⟩ | go_keep)
      ((first
        | (go_at_fn 49; refine (HC.out _).mono ?_; rintro r w3 ⟨rfl, hb3⟩)
        | fail))
     have hbq : Below w4.heap.size w4 w3 := rg_b (by assumption)
     clear x0 x1 x2 y0 y1 y2 hb3 HC
     rename_i hS3
     clear hS3
     have hR5 := H4.out.below hbq
     clear hbq
     obtain ⟨w5, hw5⟩ : ∃ w5, w5 = w3 := ⟨_, rfl⟩
     rw [<- hw5] at hR5 ⊢
     clear hw5
     have f0 := hR5.free ((first + root) * 3)
     have f1 := hR5.free ((first + root) * 3 + 1)
     have f2 := hR5.free ((first + root) * 3 + 2)
     have f3 := hR5.free ((first + (2 * root + 1)) * 3)
     have f4 := hR5.free ((first + (2 * root + 1)) * 3 + 1)
     have f5 := hR5.free ((first + (2 * root + 1)) * 3 + 2)
     obtain ⟨z0, z1, z2⟩ := hR5.cells (j := (first + root)) (by have := HK.out.2; omega)
     obtain ⟨z3, z4, z5⟩ := hR5.cells (j := (first + (2 * root + 1))) (by have := HK.out.2; omega)
     obtain ⟨xe2, hxe2⟩ : ∃ xe, xe = dk[(first + root)]! := ⟨_, rfl⟩
     obtain ⟨ye2, hye2⟩ : ∃ ye, ye = dk[(first + (2 * root + 1))]! := ⟨_, rfl⟩
     rw [<- hxe2] at z0 z1 z2
     rw [<- hye2] at z3 z4 z5
     have HE2 : Hid _ := And.intro hxe2 hye2
     clear hxe2 hye2
     obtain ⟨sa, sb, sc⟩ := xe2
     obtain ⟨ta, tb, tc⟩ := ye2
     simp only at z0 z1 z2 z3 z4 z5
     have H5 : Hid (RowE w0 w5 g dk rest) := hR5
     clear hR5
     go_wp2_with fail
     go_region
     all_goals go_wp2_with fail
     go_roundg (hi - ((2 * root + 1)))
     case measure => omega
     case rel =>
      refine ⟨(2 * root + 1), Sort.swp dk (first + root) (first + (2 * root + 1)), by first | rfl | go_num | (congr 1; omega), by omega, Nat.le_refl _, by rw [Sort.size_swp]; exact HK.out.2, H5.out.swapped (i := first + root) (j := first + (2 * root + 1)) (x := (sa, sb, sc)) (y := (ta, tb, tc)) (by have := HK.out.2; omega) (by have := HK.out.2; omega) HE2.out.1 HE2.out.2, (show Hid _ from ?_)⟩
      show _ = _
      rw [<- HO.out, sd_one h1 HLL.out (by rw [<- HE.out.1, <- HE.out.2]; exact HL.out.1 hc2)]
    ·have p6 : decide (c < 0) = false := decide_eq_false hc2
     go_upto_region 5 with fail
     go_region_held3 (fun w' => ((w'.cell? ⟨g, (first + root) * 3, none⟩ = some (.int .i64 xa) /\ w'.cell? ⟨g, (first + root) * 3 + 1, none⟩ = some (.int .i64 xb) /\ w'.cell? ⟨g, (first + root) * 3 + 2, none⟩ = some (.int .i64 xc)) /\ (w'.cell? ⟨g, (first + (2 * root + 1)) * 3, none⟩ = some (.int .i64 ya) /\ w'.cell? ⟨g, (first + (2 * root + 1)) * 3 + 1, none⟩ = some (.int .i64 yb) /\ w'.cell? ⟨g, (first + (2 * root + 1)) * 3 + 2, none⟩ = some (.int .i64 yc))) /\ Hid (Below w4.heap.size w4 w')) (first | exact rg_up6 hb3 (by assumption) | exact ⟨⟨⟨x0, x1, x2⟩, ⟨y0, y1, y2⟩⟩, ((Below.refl _ _).drew : Below w4.heap.size w4 w4.drew)⟩ | go_keep)
      ((first
        | (go_at_fn 49; refine (HC.out _).mono ?_; rintro r w3 ⟨rfl, hb3⟩)
        | fail))
     have hbq : Below w4.heap.size w4 w3 := rg_b (by assumption)
     clear x0 x1 x2 y0 y1 y2 hb3 HC
     rename_i hS3
     clear hS3
     have H5 : Hid (RowE w0 w3 g dk rest) := H4.out.below hbq
     clear hbq
     go_wp2_with fail
     (try simp only [Exit.inBlock, Exit.then])
     refine bodyPost_ret (results_none rfl _ _ _) rfl ?_
     refine ⟨rfl, ?_⟩
     have hl : ltV vw dk[first + root]! dk[first + (2 * root + 1)]! = false := by
      rw [<- HE.out.1, <- HE.out.2]
      cases h : ltV vw (xa, xb, xc) (ya, yb, yc) with
      | false => rfl
      | true => exact absurd (HL.out.2 h) (by omega)
     rw [<- HO.out, sd_one_stop h1 HLL.out hl]
     exact ⟨H5.out, HK.out.2⟩
  ·have q1 : (hi : Int) <= 2 * (root : Int) + 1 := by omega
   go_wp2
   go_end0
   refine ⟨rfl, ?_⟩
   rw [<- HO.out, sd_end (by omega)]
   exact ⟨hRk, hsk⟩
end
section
open Go.RowKit Go.Maps
attribute [local go_sem ↓] Go.wp_at_zero Go.wp_at_succ
set_option maxRecDepth 100000 in
set_option maxHeartbeats 16000000 in
theorem heap_any (f : Nat) (vw : Sy.Ed -> Sy.Ed) (hV : ViewAt f vw) (g cap a b : Nat) (d : Array Sy.Ed) (rest : List Value) (w0 w : World) (hR : RowE w0 w g d rest) (hab : a < b) (hb : b <= d.size) (hsz : d.size <= 1000000) :
 Calls Tryz.prog 102 #[.slice (some ⟨g, 0, none⟩) d.size cap, .int .i64 a, .int .i64 b, cmpV f] w fun r w' => r = .returned (.tuple #[]) /\ RowE w0 w' g (Sort.heapSort (ltV vw) d a b) rest := by
 obtain ⟨M, hbM⟩ : ∃ M, b = a + (M + 1) := ⟨b - a - 1, by omega⟩
 obtain ⟨n, hn⟩ : ∃ n, n = d.size := ⟨_, rfl⟩
 have HR : Hid _ := And.intro hR (And.intro hn hV)
 rw [<- hn] at hb hsz ⊢
 have hSi : ∀ (lo hi : Nat) (dk : Array Sy.Ed) (W : World), dk.size = n -> RowE w0 W g dk rest -> lo <= hi -> a + hi <= n -> Calls Tryz.prog 131 #[.slice (some ⟨g, 0, none⟩) n cap, .int .i64 lo, .int .i64 hi, .int .i64 a, cmpV f] W fun r w' => r = .returned (.tuple #[]) /\ RowE w0 w' g (Sort.siftDown (ltV vw) hi a lo dk) rest /\ (Sort.siftDown (ltV vw) hi a lo dk).size = n := fun lo hi dk W hs h h1 h2 => by
  have h9 := sift_any f vw hV g cap lo hi a dk rest w0 W h h1 (by omega) (by omega)
  rw [hs] at h9
  exact h9
 have HS : Hid _ := hSi
 unfold cmpV at HS ⊢
 unfold Sort.heapSort
 have eM : b - a = M + 1 := by omega
 rw [eM, Nat.add_sub_cancel]
 have hbn : a + (M + 1) <= n := by omega
 have e0 : (b : Int) - (a : Int) = (M : Int) + 1 := by omega
 have e1 : IntKind.i64.wrap ((b : Int) - (a : Int)) = (M : Int) + 1 := by rw [IntKind.wrap_i64]; omega
 have e2 : IntKind.i64.wrap ((M : Int) + 1 - 1) = (M : Int) := by rw [IntKind.wrap_i64]; omega
 have e3 : IntKind.i64.wrap (M : Int) = (M : Int) := by rw [IntKind.wrap_i64]; omega
 have e4 : IntKind.i64.wrap ((M : Int) / 2) = ((M / 2 : Nat) : Int) := by rw [IntKind.wrap_i64]; omega
 clear hR hn hV hSi eM hbM hab hb
 go_enter Tryz.func102, Tryz.ntmps102
 go_wp2_with fail
 go_loopg [11] (M / 2 + 1) (fun q iv wr => ∃ (k : Nat) (dk : Array Sy.Ed), iv = .int .i64 ((k : Int) - 1) /\ k <= M / 2 + 1 /\ k <= q /\ dk.size = n /\ RowE w0 wr g dk rest /\ Hid (Sort.heapBuild (ltV vw) (M + 1) a k dk = Sort.heapBuild (ltV vw) (M + 1) a (M / 2 + 1) d))
 case atStart => exact ⟨M / 2 + 1, d, by congr 1; omega, Nat.le_refl _, Nat.le_refl _, HR.out.2.1.symm, HR.out.1, rfl⟩
 case round =>
  obtain ⟨k, dk, rfl, hk, hq, hsk, hRk, HO⟩ := hrel
  cases k with
  | succ k =>
    have q3 : ((k + 1 : Nat) : Int) - 1 = (k : Int) := by omega
    have q4 : IntKind.i64.wrap ((k : Int) - 1) = (k : Int) - 1 := by rw [IntKind.wrap_i64]; omega
    have q5 : (0 : Int) <= (k : Int) := by omega
    rw [q3]
    have hC := HS.out k (M + 1) dk wr hsk hRk (by omega) (by omega)
    simp only [Int.natCast_add, Int.natCast_one] at hC
    have HC : Hid _ := And.intro hC trivial
    clear hC hRk q3 hsk e1 e2 e3 e4 e0
    go_wp2_with fail
    refine Calls.mono HC.out.1 ?_
    rintro r w3 ⟨rfl, hR3, hs3⟩
    have H3 : Hid _ := And.intro hR3 hs3
    clear hR3 hs3
    go_wp2_with fail
    go_roundg k
    case measure => omega
    case rel => exact ⟨k, _, rfl, by omega, Nat.le_refl _, H3.out.2, H3.out.1, HO.out⟩
  | zero =>
    have q2 : ((0 : Nat) : Int) - 1 = -1 := by omega
    rw [q2]
    have hO := HO.out
    rw [Sort.heapBuild] at hO
    have HO2 : Hid (dk = Sort.heapBuild (ltV vw) (M + 1) a (M / 2 + 1) d) := hO
    have HK : Hid (RowE w0 wr g dk rest /\ dk.size = n) := ⟨hRk, hsk⟩
    clear hO hRk hsk HO
    go_wp2_with fail
    go_loopg [12] (M + 1) (fun q iv wr => ∃ (k : Nat) (dj : Array Sy.Ed), iv = .int .i64 ((k : Int) - 1) /\ k <= M + 1 /\ k <= q /\ dj.size = n /\ RowE w0 wr g dj rest /\ Hid (Sort.heapPop (ltV vw) a k dj = Sort.heapPop (ltV vw) a (M + 1) dk))
    case atStart => exact ⟨M + 1, dk, by congr 1; omega, Nat.le_refl _, Nat.le_refl _, HK.out.2, HK.out.1, rfl⟩
    case round =>
     obtain ⟨k, dj, rfl, hk, hq, hsj, hRj, HP⟩ := hrel
     cases k with
     | succ k =>
       have q3 : ((k + 1 : Nat) : Int) - 1 = (k : Int) := by omega
       rw [q3]
       rcases Nat.eq_zero_or_pos k with hk0 | hkp
       ·subst hk0
        have t5 : (0 : Int) <= (a : Int) := by omega
        have t6 : (a : Int) < (n : Int) := by omega
        have f0 := hRj.free (a * 3)
        have f1 := hRj.free (a * 3 + 1)
        have f2 := hRj.free (a * 3 + 2)
        have f3 := hRj.free (a * 3)
        have f4 := hRj.free (a * 3 + 1)
        have f5 := hRj.free (a * 3 + 2)
        obtain ⟨z0, z1, z2⟩ := hRj.cells (j := a) (by omega)
        obtain ⟨z3, z4, z5⟩ := hRj.cells (j := a) (by omega)
        obtain ⟨xe2, hxe2⟩ : ∃ xe, xe = dj[a]! := ⟨_, rfl⟩
        obtain ⟨ye2, hye2⟩ : ∃ ye, ye = dj[a]! := ⟨_, rfl⟩
        rw [<- hxe2] at z0 z1 z2
        rw [<- hye2] at z3 z4 z5
        have HE2 : Hid _ := And.intro hxe2 hye2
        clear hxe2 hye2
        obtain ⟨sa, sb, sc⟩ := xe2
        obtain ⟨ta, tb, tc⟩ := ye2
        simp only at z0 z1 z2 z3 z4 z5
        have HJ : Hid (RowE w0 wr g dj rest /\ dj.size = n) := ⟨hRj, hsj⟩
        clear hRj hsj q2 q3
        rw [show ((0 : Nat) : Int) = 0 from rfl]
        go_wp2_with fail
        go_region
        all_goals go_wp2_with fail
        have hRs := HJ.out.1.swapped (i := a) (j := a) (x := (sa, sb, sc)) (y := (sa, sb, sc)) (by have := HJ.out.2; omega) (by have := HJ.out.2; omega) HE2.out.1 HE2.out.1
        have hC := HS.out 0 0 (Sort.swp dj a a) _ (by rw [Sort.size_swp]; exact HJ.out.2) hRs (by omega) (by omega)
        rw [show ((0 : Nat) : Int) = 0 from rfl] at hC
        refine Calls.mono hC ?_
        rintro r w3 ⟨rfl, hR3, hs3⟩
        have H3 : Hid _ := And.intro hR3 hs3
        clear hR3 hs3 hC hRs
        go_wp2_with fail
        go_roundg 0
        case measure => omega
        case rel => exact ⟨0, _, rfl, by omega, Nat.le_refl _, H3.out.2, H3.out.1, HP.out⟩
       ·have q4 : IntKind.i64.wrap ((k : Int) - 1) = (k : Int) - 1 := by rw [IntKind.wrap_i64]; omega
        have q5 : (0 : Int) <= (k : Int) := by omega
        have t1 : (a : Int) + (k : Int) < (n : Int) := by omega
        have t2 : (0 : Int) <= (a : Int) + (k : Int) := by omega
        have t3 : ((a : Int) + (k : Int)).toNat = a + k := by omega
        have t4 : IntKind.i64.wrap ((a : Int) + (k : Int)) = (a : Int) + (k : Int) := by rw [IntKind.wrap_i64]; omega
        have t5 : (0 : Int) <= (a : Int) := by omega
        have t6 : (a : Int) < (n : Int) := by omega
        obtain ⟨ak, hak⟩ : ∃ ak, ak = a + k := ⟨_, rfl⟩
        have hne : ¬ a = ak := by omega
        have hne2 : ¬ ak = a := by omega
        rw [<- hak] at t3
        have hakn : ak < n := by omega
        have f0 := hRj.free (a * 3)
        have f1 := hRj.free (a * 3 + 1)
        have f2 := hRj.free (a * 3 + 2)
        have f3 := hRj.free (ak * 3)
        have f4 := hRj.free (ak * 3 + 1)
        have f5 := hRj.free (ak * 3 + 2)
        obtain ⟨z0, z1, z2⟩ := hRj.cells (j := a) (by omega)
        obtain ⟨z3, z4, z5⟩ := hRj.cells (j := ak) (by omega)
        obtain ⟨xe2, hxe2⟩ : ∃ xe, xe = dj[a]! := ⟨_, rfl⟩
        obtain ⟨ye2, hye2⟩ : ∃ ye, ye = dj[ak]! := ⟨_, rfl⟩
        rw [<- hxe2] at z0 z1 z2
        rw [<- hye2] at z3 z4 z5
        have HE2 : Hid _ := And.intro hxe2 hye2
        clear hxe2 hye2
        obtain ⟨sa, sb, sc⟩ := xe2
        obtain ⟨ta, tb, tc⟩ := ye2
        simp only at z0 z1 z2 z3 z4 z5
        have HJ : Hid (RowE w0 wr g dj rest /\ dj.size = n /\ ak = a + k) := ⟨hRj, hsj, hak⟩
        clear hRj hsj q2 q3 hak
        go_wp2_with fail
        go_region
        all_goals go_wp2_with fail
        have hRs := HJ.out.1.swapped (i := a) (j := ak) (x := (sa, sb, sc)) (y := (ta, tb, tc)) (by have := HJ.out.2; omega) (by have := HJ.out.2; omega) HE2.out.1 HE2.out.2
        have hC := HS.out 0 k (Sort.swp dj a ak) _ (by rw [Sort.size_swp]; exact HJ.out.2.1) hRs (by omega) (by omega)
        rw [show ((0 : Nat) : Int) = 0 from rfl] at hC
        refine Calls.mono hC ?_
        rintro r w3 ⟨rfl, hR3, hs3⟩
        have H3 : Hid _ := And.intro hR3 hs3
        clear hR3 hs3 hC hRs
        go_wp2_with fail
        go_roundg k
        case measure => omega
        case rel => exact ⟨k, _, rfl, by omega, Nat.le_refl _, H3.out.2, H3.out.1, by rw [HJ.out.2.2]; exact HP.out⟩
     | zero =>
       have q2 : ((0 : Nat) : Int) - 1 = -1 := by omega
       rw [q2]
       go_wp2_with fail
       go_end0
       refine ⟨rfl, ?_⟩
       rw [<- HO2.out, <- HP.out, Sort.heapPop]
       exact hRj
end
end Go.Proofs.YtgehimdkdeldaabGreatDoor
