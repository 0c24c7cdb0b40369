/- Texts of this claim, joined: RoOf, RoLoop, SyEq, RoIter, RoNote. -/
import Derived.Test.YtpmanmoljlhogaaGreatDoorPart3
import Derived.Test.YtpmanmoljlhogaaGreatDoorPart10
import Derived.Test.YtpmanmoljlhogaaGreatDoorPart1
import Derived.Deep.RegionHeld3
import Derived.RangeFuncNested
import Derived.RangeFuncBound
import Derived.RangeFuncCalls
import Derived.RangeFuncLeaves
import Derived.RangeFuncBox
import Derived.RangeFuncWrites
import Derived.Deep.LoopGhost
import Derived.Deep.QuietTactic
import Derived.BigQuiet
import Derived.WalkSmall
import Derived.Shelf.Abstract
import Derived.Shelf.RegionOpen
import Derived.WalkKit
import Derived.OwnWalkIn
import Derived.TacticsInMore
import Derived.LoopNIn
import Derived.LoopIn
/- Contract of the program's roundsOf: the rows of steps, and the function that tells the rounds. -/
namespace Go.Proofs.YtpmanmoljlhogaaGreatDoor
open Go.RowKit Go.Maps
attribute [local go_sem ↓] Go.wp_at_zero Go.wp_at_succ
theorem bel6 {w W w8 : World} (hb : Below W.heap.size W w8) (h : Below w.heap.size w W) : Below w.heap.size w w8 := h.trans (hb.mono h.size)
theorem res_up6 {W w8 : World} {b : Nat} {o : Obj} (hb : Below W.heap.size W w8) (h : W.heap[b]? = some o) : w8.heap[b]? = some o := (hb.block b (t_lt h)).trans h
def rndB : ByteArray := ⟨#[114, 111, 117, 110, 100, 115]⟩
theorem rfault_any (T : TypeId) (u : Value) (w : World) (a : Addr) (ls : List ByteArray) (h : Chain w 0 0 a ls (.iface T u)) : Calls Tryz.prog 35 #[.iface T u] w fun r w' => ∃ b, r = .returned (.iface 76 (.pointer (some ⟨b, 0, none⟩))) ∧ Chain w' 0 0 a (rndB :: ls) (.iface 76 (.pointer (some ⟨b, 0, none⟩))) ∧ Below w.heap.size w w' := by
  have HC : Hid (Chain w 0 0 a ls (.iface T u)) := h
  clear h
  go_enter Tryz.func35, Tryz.ntmps35
  go_wp2
  go_ret
  have hb : Below w.heap.size w (w.alloc (.cells #[.string rndB, .int .i64 0, .int .i64 0, .iface T u] 79)) := (Below.refl _ _).alloc (Nat.le_refl _) _
  exact ⟨_, rfl, ⟨_, _, rfl, heap_alloc_new w _, HC.out.below hb⟩, hb⟩
theorem setCell_other {w : World} {b g o : Nat} (x : Value) (h : b ≠ g) : (w.setCell ⟨g, o, none⟩ x).heap[b]? = w.heap[b]? := by
  simp only [World.setCell]
  rw [Array.getElem?_modify, if_neg (fun e => h e.symm)]
theorem cell_block {w w' : World} {b o : Nat} (h : w'.heap[b]? = w.heap[b]?) : w'.cell? ⟨b, o, none⟩ = w.cell? ⟨b, o, none⟩ := World.cell?_of_block (a := ⟨b, o, none⟩) h
/-- Rows being filled. -/
structure StAt (w wr : World) (gs n i : Nat) (us : List Value) (out : Nat → List BSteps.El) : Prop where
  arr : Arr 114 w wr gs us
  len : us.length = n
  row : ∀ j, j < i → ∃ u, us[j]? = some u ∧ BSteps.Own wr w.heap.size u (out j)
theorem StAt.step {w wr w4 : World} {gs n i : Nat} {us : List Value} {out : Nat → List BSteps.El} (h : StAt w wr gs n i us out) (hi : i < n) (hb : Below wr.heap.size wr w4) {u : Value} (hO : BSteps.Own w4 wr.heap.size u (out i)) : StAt w (w4.setCell ⟨gs, i, none⟩ u) gs n (i + 1) (us.set i u) out := by
  have hA4 := h.arr.below hb
  obtain ⟨cs9, hc9, _⟩ := hA4.ids
  have keep : ∀ {x : Value} {zs : List BSteps.El} {B : Nat}, BSteps.Own w4 B x zs → BSteps.Own (w4.setCell ⟨gs, i, none⟩ u) B x zs := fun hx => own_up hx (Kept.setCell w4 gs i u) fun b hb2 e => own_bk hx hc9 (by decide) (by rw [← e]; exact hb2)
  refine ⟨hA4.set i u, by rw [List.length_set]; exact h.len, fun j hj => ?_⟩
  rcases Nat.lt_or_ge j i with hji | hji
  · obtain ⟨x, hx, hOx⟩ := h.row j hji
    refine ⟨x, by rw [List.getElem?_set_ne (by omega)]; exact hx, keep (trow_at hOx fun b hb2 => hb.block b (hOx.lt b hb2).2)⟩
  · obtain rfl : j = i := by omega
    exact ⟨u, by rw [List.getElem?_set_self (by have := h.len; omega)], keep (row_base hO h.arr.bl.size)⟩
theorem StAt.done {w wr : World} {gs n : Nat} {us : List Value} {out : Nat → List BSteps.El} (h : StAt w wr gs n n us out) : Stp wr gs n out :=
  ⟨fun i hi => by
    obtain ⟨u, hu, hO⟩ := h.row i hi
    obtain ⟨a, c, rfl⟩ := row_shape hO
    exact ⟨a, c, h.arr.cell hu, hO.has⟩⟩
theorem Tryz.infoRS : (Tryz.prog.info? 114).map (fun i => (i.zero, i.size, i.bytes)) = some (some (.slice none 0 0), 1, 24) := by kernel_rfl
theorem makeRS (n : Nat) (hn : n ≤ 1000000) (w : World) : (Instr.makeSlice 32 (.int .i64 (n : Int)) (.int .i64 (n : Int))).run Tryz.prog w = .ok (.slice (some ⟨w.heap.size, 0, none⟩) n n) (w.alloc (.cells (madeV (.slice none 0 0) n) 114)) := make_of _ _ _ 24 Tryz.underlying32 Tryz.infoRS n hn (by decide) w
/-- The steps of a system's states. -/
def outOf (m : Nat) (es : List Sy.Ed) (i : Nat) : List BSteps.El := Sy.rowOf m (Sy.nf es) i
/-- What roundsOf answers: the function with what it has taken along. -/
structure OfAt (w w' : World) (b1 b2 gs m : Nat) (es : List Sy.Ed) : Prop where
  bl : Below w.heap.size w w'
  l1 : b1 < w'.heap.size
  l2 : b2 < w'.heap.size
  c1 : w'.cell? ⟨b1, 0, none⟩ = some (.int .i64 m)
  c2 : w'.cell? ⟨b2, 0, none⟩ = some (.slice (some ⟨gs, 0, none⟩) m m)
  st : Stp w' gs m (outOf m es)
def roundsV (b1 b2 : Nat) : Value := .func (.func 97) #[] #[.pointer (some ⟨b1, 0, none⟩), .pointer (some ⟨b2, 0, none⟩)]
set_option maxRecDepth 100000 in
set_option maxHeartbeats 8000000 in
set_option linter.unusedSimpArgs false in
theorem roundsOf_ok (hS : SortOk 1000000) (m : Nat) (k s : Int) (v : Value) (es : List Sy.Ed) (a : Addr) (w : World) (hA : Sent w 14 a) (hv : BEdges.Has w v es) (hm : es.length ≤ 100000) (hq : Sy.right m k s es = true) :
    Calls Tryz.prog 34 #[sysV m k s v] w fun r w' => ∃ b1 b2 gs, r = .returned (.tuple #[roundsV b1 b2, .nilIface]) ∧ OfAt w w' b1 b2 gs m es := by
  have hv0 := hv
  obtain ⟨ao, cap, rfl, _⟩ := hv0
  obtain ⟨L, hL⟩ : ∃ L, L = es.length := ⟨_, rfl⟩
  obtain ⟨w1, hw1⟩ : ∃ w1, w1 = w.alloc (.cells #[.int .i64 m, .int .i64 k, .int .i64 s, .slice ao L cap] 24) := ⟨_, rfl⟩
  have hb1 : Below w.heap.size w w1 := by rw [hw1]; exact (Below.refl _ _).alloc (Nat.le_refl _) _
  have hg1 : w1.heap[w.heap.size]? = some (.cells #[.int .i64 m, .int .i64 k, .int .i64 s, .slice ao L cap] 24 (0, 0)) := by rw [hw1]; exact heap_alloc_new w _
  have hN := new_ok hS m k s _ es a w1 (hA.below hb1) (hv.below hb1) (by omega) hm hq
  rw [← hL] at hN ⊢
  unfold sysV at hN ⊢
  have hm1 : m ≤ 1000 := by have := (right_parts hq).1; omega
  have H1 : Hid _ := And.intro hw1 (And.intro hb1 (And.intro hg1 hN))
  obtain ⟨x0, x1, x2, x3⟩ := four_cells hg1
  clear hA hv hm hq hw1 hb1 hg1 hN hL
  go_enter Tryz.func34, Tryz.ntmps34
  go_upto_region 1 with fail
  rw [← H1.out.1]
  go_wp2_with fail
  refine Calls.mono H1.out.2.2.2 ?_
  rintro r w2 ⟨g, bs, bb, cs, cb, m', hm', rfl, hG2, hb2⟩
  obtain rfl : m = m' := by omega
  clear hm' x0 x1 x2 x3
  have hg2 := res_up6 hb2 H1.out.2.2.1
  obtain ⟨x0, x1, x2, x3⟩ := four_cells hg2
  have hmk := makeRS m (by omega) w2
  obtain ⟨w3, hw3⟩ : ∃ w3, w3 = (w2.alloc (.cells (madeV (.slice none 0 0) m) 114)).alloc (.cells #[.slice (some ⟨w2.heap.size, 0, none⟩) m m] 32) := ⟨_, rfl⟩
  have hb3 : Below w2.heap.size w2 w3 := by rw [hw3]; exact ((Below.refl _ _).alloc (Nat.le_refl _) _).alloc (by simp) _
  have hbx : w3.heap[w2.heap.size + 1]? = some (.cells #[.slice (some ⟨w2.heap.size, 0, none⟩) m m] 32 (0, 0)) := by
    rw [hw3]
    have h := heap_alloc_new (w2.alloc (.cells (madeV (.slice none 0 0) m) 114)) (.cells #[.slice (some ⟨w2.heap.size, 0, none⟩) m m] 32)
    rw [World.size_alloc] at h
    exact h
  have hA3 : Arr 114 w2 w3 w2.heap.size (List.replicate m (.slice none 0 0)) := by
    rw [hw3]
    exact (arr_new 114 (.slice none 0 0) rfl m w2).below ((Below.refl _ _).alloc (Nat.le_refl _) _)
  have H3 : Hid _ := And.intro hw3 (And.intro hb3 (And.intro hbx (And.intro hA3 (And.intro hG2 (And.intro hg2 (bel6 hb2 H1.out.2.1))))))
  have e1 : (w2.alloc (.cells (madeV (.slice none 0 0) m) 114)).heap.size = w2.heap.size + 1 := by simp
  clear hw3 hb3 hbx hA3 hG2 hg2 hb2
  go_upto_region 5 with fail
  rw [← H3.out.1]
  have y0 : w3.cell? ⟨w2.heap.size + 1, 0, none⟩ = some (.slice (some ⟨w2.heap.size, 0, none⟩) m m) := cell0_of H3.out.2.2.1 rfl
  clear hmk x0 x1 x2 x3 e1
  go_wp2_with fail
  clear y0
  go_loopg [21] m (fun q iv wr => ∃ (i : Nat) (us : List Value), q = m - i ∧ i ≤ m ∧ iv = .int .i64 i ∧ StAt w2 wr w2.heap.size m i us (outOf m es) ∧ wr.heap[w2.heap.size + 1]? = some (.cells #[.slice (some ⟨w2.heap.size, 0, none⟩) m m] 32 (0, 0)))
  case atStart => exact ⟨0, _, rfl, Nat.zero_le _, rfl, ⟨H3.out.2.2.2.1, by simp, fun j hj => by omega⟩, H3.out.2.2.1⟩
  case round =>
    obtain ⟨i, us, rfl, hi, rfl, hT, hbx⟩ := hrel
    obtain ⟨w4, rfl⟩ : ∃ w4, w4 = wr := ⟨_, rfl⟩
    by_cases hlt : i < m
    · have p0 : (0 : Int) ≤ (i : Int) := by omega
      have p1 : (i : Int) < (m : Int) := by omega
      have y0 : w4.cell? ⟨w2.heap.size + 1, 0, none⟩ = some (.slice (some ⟨w2.heap.size, 0, none⟩) m m) := cell0_of hbx rfl
      have hO := out_any (i : Int) w4.drew (H3.out.2.2.2.2.1.below (bel6 (Below.refl _ _).drew hT.arr.bl))
      obtain ⟨ux, hux⟩ : ∃ ux, us[i]? = some ux := ⟨us[i]'(by have := hT.len; omega), List.getElem?_eq_getElem _⟩
      have HT : Hid _ := And.intro hT (And.intro hbx (And.intro hO hux))
      clear hT hbx hO hux
      go_upto_region 8 with fail
      refine wp_region_held_drew (S := (fun w' => w'.cell? ⟨w2.heap.size + 1, 0, none⟩ = some (.slice (some ⟨w2.heap.size, 0, none⟩) m m) ∧ Hid (w'.heap[w2.heap.size + 1]? = some (.cells #[.slice (some ⟨w2.heap.size, 0, none⟩) m m] 32 (0, 0))))) (by kernel_rfl) ?_ (fun hHeld => ?_)
      · exact ⟨y0, HT.out.2.1⟩
      refine wpAnyH_take (i := 0) (oi := _) (v := ?_) rfl (by kernel_rfl) (by kernel_rfl) (by kernel_rfl) (fun _ _ _ h => h) (Or.inl ⟨by rfl, ?_⟩) (by assumption) ?_
      rotate_left
      · (intro w hSw; (try dsimp only at hSw); go_simp; (try with_reducible rfl))
      (try simp only [List.getElem_toArray, List.getElem_cons_succ, List.getElem_cons_zero, Act.put, List.setIfInBounds_toArray, List.set_cons_zero, List.set_cons_succ])
      refine wpAnyH_take (i := 1) (oi := _) (v := ?_) rfl (by kernel_rfl) (by kernel_rfl) (by kernel_rfl) (fun _ _ _ h => h) (Or.inl ⟨by rfl, ?_⟩) (by assumption) ?_
      rotate_left
      · (intro w hSw; (try dsimp only at hSw); go_simp; (try with_reducible rfl))
      (try simp only [List.getElem_toArray, List.getElem_cons_succ, List.getElem_cons_zero, Act.put, List.setIfInBounds_toArray, List.set_cons_zero, List.set_cons_succ])
      refine wpAnyH_take (i := 2) (oi := _) (v := ?_) rfl (by kernel_rfl) (by kernel_rfl) (by kernel_rfl) (fun _ _ _ h => h) (Or.inl ⟨by rfl, ?_⟩) (by assumption) ?_
      rotate_left
      · (intro w hSw; (try dsimp only at hSw); go_simp; (try with_reducible rfl))
      (try simp only [List.getElem_toArray, List.getElem_cons_succ, List.getElem_cons_zero, Act.put, List.setIfInBounds_toArray, List.set_cons_zero, List.set_cons_succ])
      refine wpAnyH_take (i := 3) (oi := _) (v := ?_) rfl (by kernel_rfl) (by kernel_rfl) (by kernel_rfl) (fun _ _ _ h => h) (Or.inl ⟨by rfl, ?_⟩) (by assumption) ?_
      rotate_left
      · (intro w hSw; (try dsimp only at hSw); go_simp; (try with_reducible rfl))
      (try simp only [List.getElem_toArray, List.getElem_cons_succ, List.getElem_cons_zero, Act.put, List.setIfInBounds_toArray, List.set_cons_zero, List.set_cons_succ])
      refine wpAnyH_ready (rs := [4]) (by kernel_rfl) (by simp) ?_
      refine AllReadyH.cons (o := _) rfl (fun K hK => ?_) ?_
      · (go_simp; go_at_call 96; refine Calls.mono HT.out.2.2.1 ?_; rintro r w5 ⟨u, rfl, hO5, hb5⟩; obtain ⟨au, cu, hu⟩ := row_shape hO5; have hb45 := bel6 hb5 (Below.refl w4.heap.size w4).drew; have H5 : Hid _ := And.intro hO5 (And.intro hb45 (HT.out.1.arr.below hb45)); generalize hLg : List.length _ = Lu at hu; subst hu; clear hO5 hb5 hLg; have cx := H5.out.2.2.cell HT.out.2.2.2; have cf := H5.out.2.2.free i)
        (try go_wp2_with fail)
        refine hK.out _ _ ?_ (fun hHeld => ?_)
        · exact ⟨cell_up y0 hb45, res_up6 hb45 HT.out.2.1⟩
        clear hK K
        (try simp only [List.getElem_toArray, List.getElem_cons_succ, List.getElem_cons_zero, Act.put, List.setIfInBounds_toArray, List.set_cons_zero, List.set_cons_succ])
        clear hb45
        refine wpAnyH_take (i := 5) (oi := _) (v := ?_) rfl (by kernel_rfl) (by kernel_rfl) (by kernel_rfl) (fun _ _ _ h => h) (Or.inl ⟨by rfl, ?_⟩) (by assumption) ?_
        rotate_left
        · (intro w hSw; (try dsimp only at hSw); go_simp; (try with_reducible rfl))
        (try simp only [List.getElem_toArray, List.getElem_cons_succ, List.getElem_cons_zero, Act.put, List.setIfInBounds_toArray, List.set_cons_zero, List.set_cons_succ])
        refine wpAnyH_ready (rs := [6]) (by kernel_rfl) (by simp) ?_
        refine AllReadyH.cons (o := _) rfl (fun K hK => ?_) ?_
        · (go_simp)
          (try go_wp2_with fail)
          refine hK.out _ _ ?_ (fun hHeld => ?_)
          · exact ⟨(cell_block (setCell_other _ (show w2.heap.size + 1 ≠ w2.heap.size by omega))).trans hHeld.1, (setCell_other _ (show w2.heap.size + 1 ≠ w2.heap.size by omega)).trans hHeld.2.out⟩
          clear hK K
          (try simp only [List.getElem_toArray, List.getElem_cons_succ, List.getElem_cons_zero, Act.put, List.setIfInBounds_toArray, List.set_cons_zero, List.set_cons_succ])
          refine wpAnyH_done (by kernel_rfl) ?_ _
          (try go_simp)
          have H6 : Hid _ := hHeld.2.out
          go_wp2_with fail
          go_roundg (m - (i + 1))
          case measure => omega
          case rel => exact ⟨i + 1, _, rfl, by omega, by go_num, HT.out.1.step hlt H5.out.2.1 H5.out.1, H6.out⟩
        exact AllReadyH.nil
      exact AllReadyH.nil
    · obtain rfl : i = m := by omega
      have p1 : ¬ (i : Int) < (i : Int) := by omega
      have HT : Hid _ := And.intro hT hbx
      clear hT hbx
      go_wp2_with fail
      go_ret2
      have hg := res_up6 HT.out.1.arr.bl H3.out.2.2.2.2.2.1
      exact ⟨_, _, rfl, _, ⟨bel6 HT.out.1.arr.bl H3.out.2.2.2.2.2.2, t_lt hg, t_lt HT.out.2, cell0_of hg rfl, cell0_of HT.out.2 rfl, HT.out.1.done⟩⟩
set_option maxRecDepth 100000 in
set_option maxHeartbeats 4000000 in
theorem roundsOf_bad (hS : SortOk 1000000) (n k s : Int) (v : Value) (es : List Sy.Ed) (a : Addr) (w : World) (hA : Sent w 14 a) (hv : BEdges.Has w v es) (hm : es.length ≤ 100000) (hq : Sy.right n k s es = false) :
    Calls Tryz.prog 34 #[sysV n k s v] w fun r w' => ∃ T u, r = .returned (.tuple #[.nilFunc, .iface T u]) ∧ Chain w' 0 0 a [sysB] (.iface T u) ∧ Below w.heap.size w w' := by
  have hv0 := hv
  obtain ⟨ao, cap, rfl, _⟩ := hv0
  obtain ⟨L, hL⟩ : ∃ L, L = es.length := ⟨_, rfl⟩
  obtain ⟨w1, hw1⟩ : ∃ w1, w1 = w.alloc (.cells #[.int .i64 n, .int .i64 k, .int .i64 s, .slice ao L cap] 24) := ⟨_, rfl⟩
  have hb1 : Below w.heap.size w w1 := by rw [hw1]; exact (Below.refl _ _).alloc (Nat.le_refl _) _
  have hg1 : w1.heap[w.heap.size]? = some (.cells #[.int .i64 n, .int .i64 k, .int .i64 s, .slice ao L cap] 24 (0, 0)) := by rw [hw1]; exact heap_alloc_new w _
  have hN := new_bad hS n k s _ es a w1 (hA.below hb1) (hv.below hb1) (by omega) hm hq
  rw [← hL] at hN ⊢
  unfold sysV at hN ⊢
  have H1 : Hid _ := And.intro hw1 (And.intro hb1 hN)
  obtain ⟨x0, x1, x2, x3⟩ := four_cells hg1
  clear hA hv hm hq hw1 hb1 hg1 hN hL
  go_enter Tryz.func34, Tryz.ntmps34
  go_upto_region 1 with fail
  rw [← H1.out.1]
  go_wp2_with fail
  refine Calls.mono H1.out.2.2 ?_
  rintro r w2 ⟨x, rfl, hC, hb2⟩
  obtain ⟨T, u, rfl⟩ := hC.iface
  have H2 : Hid _ := And.intro hC (bel6 hb2 H1.out.2.1)
  clear hC hb2
  go_wp2_with fail
  go_ret2
  exact ⟨_, _, rfl, H2.out.1, H2.out.2⟩
end Go.Proofs.YtpmanmoljlhogaaGreatDoor
/- A loop over a function that tells its body what the memory holds of what it hands over. Nothing of the program is in it. -/
namespace Go.Proofs.YtpmanmoljlhogaaGreatDoor
open Go.RowKit
/-- The function that is ranged over: with each thing that it hands over stands what the memory holds of it (Good). -/
def Tells {α : Type} (F : Fence) (n : Nat) (P : Program) (g : Nat) (lb : Array Value) (encs : α → Array Value) (Kp : World → World → Prop) (Good : List α → α → World → Prop) (S Sp : List α → Prop) (w : World) : Prop :=
  ∀ (l : Nat) (J Jx : List α → World → Prop) (W : World), Below w.heap.size w W → AbidesFrom W.heap.size J → AbidesFrom W.heap.size Jx →
    (∀ pre x W1, J pre W1 → Good pre x W1 → YieldAt F (n - 1) P l (encs x) W1 fun e W' =>
      (e = .returned (.bool true) ∧ J (pre ++ [x]) W' ∧ Kp W1 W') ∨ (e = .returned (.bool false) ∧ Jx (pre ++ [x]) W')) →
    J [] W →
    CallsIn F n P g (#[.func (.yield l) #[] #[]] ++ lb) W fun e W' => (∃ v, e = .returned v) ∧ ((∃ xs, S xs ∧ J xs W') ∨ (∃ pre, Sp pre ∧ Jx pre W'))
section
variable {F : Fence} {n : Nat} {P : Program}
/-- The record of a loop. -/
def rec5 (fn : FuncId) (a : Act) (ps : Array Tmp) (assign body : Code) (d : Nat) (st : LoopState) (pe : Option Code) : Loop := { state := st, pending := pe, fn, tmps := a.tmps, params := ps, assign, body, defers := d }
theorem loop_tells {α : Type} {g : Operand} {ps : Array Tmp} {assign body : Code} {Q : Exit → Act → World → Prop} {a : Act} {w : World}
    (hro : F.round = none) (h1 : 1 ≤ n) {gf : Nat} {lb : Array Value} (hg : a.eval g = .func (.func gf) #[] lb) (hFg : F.fn gf) (eg : ∀ args w, (callFunc gf args).run P w = .ok (.enter gf args) w)
    {encs : α → Array Value} {Kp : World → World → Prop} {Good : List α → α → World → Prop} {S Sp : List α → Prop} {w0 : World} (hseq : Tells F (n - 1) P gf lb encs Kp Good S Sp w0)
    (hKt : ∀ {A B C : World}, Kp A B → Kp B C → Kp A C) (hKb : ∀ (W : World) (l : Nat) (o o' : Obj), w.heap.size ≤ l → W.heap[l]? = some o → o.isCells = false → o.isWalk = false → Kp W (W.putObj l o'))
    (hGb : ∀ pre x (W : World) (l : Nat) (o o' : Obj), w.heap.size ≤ l → W.heap[l]? = some o → o.isCells = false → Good pre x W → Good pre x (W.putObj l o'))
    (hb0 : Below w0.heap.size w0 w) (hps : ∀ x, (encs x).size = ps.size)
    (I : List α → World → Prop) (Ix : Code → List α → World → Prop) (hI : OwnFrom w.heap.size I) (hIx : ∀ c, OwnFrom w.heap.size (Ix c)) (h0 : I [] w) (a₁ : α → Act)
    (hassign : ∀ (l : Nat) (x : α) (W : World) (K : Act → World → Prop), K (a₁ x) W →
      assign.wpIn (F.inRound l) (n - 1 - 1) P (Exit.then K (fun _ _ _ => False)) { tmps := (ps.zip (encs x)).foldl (fun t (p, v) => t.setIfInBounds p v) a.tmps, defers := [] } W)
    (hbody : ∀ (l : Nat) (pre : List α) (x : α) (W : World), I pre W → Good pre x W → body.wpIn (F.inRound l) (n - 1 - 1) P (ownPostG w.heap.size Kp I Ix (pre ++ [x]) W) (a₁ x) W)
    (hdone : ∀ (D : Nat) (xs : List α) (W : World), w.heap.size ≤ D → S xs → I xs W → W.heap[D]? = some (.deferred (some [])) → Q .normal { a with defers := { target := .collected D, args := #[] } :: a.defers } W)
    (hstop : ∀ (D : Nat) (c : Code) (pre : List α) (W : World), w.heap.size ≤ D → Sp pre → Ix c pre W → W.heap[D]? = some (.deferred (some [])) → c.wpIn F n P Q { a with defers := { target := .collected D, args := #[] } :: a.defers } W) :
    (Code.rangeFunc g ps assign body).wpIn F n P Q a w := by
  refine wpIn_rangeFunc fun fn hfn => ?_
  rw [hro]
  have eL : w.heap.size < w.heap.size + 1 := Nat.lt_succ_self _
  let R5 := rec5 fn a ps assign body w.heap.size
  obtain ⟨W1, hW1⟩ : ∃ W1, W1 = (w.alloc (.deferred (some []))).alloc (.loop (R5 .ready none)) := ⟨_, rfl⟩
  have hz : W1.heap.size = w.heap.size + 2 := by rw [hW1]; simp
  have hL1 : W1.heap[w.heap.size + 1]? = some (.loop (R5 .ready none)) := by
    have h := World.alloc_heap_new (w.alloc (.deferred (some []))) (.loop (R5 .ready none))
    rw [World.size_alloc] at h
    rw [hW1]
    exact h
  have hK1 : W1.heap[w.heap.size]? = some (.deferred (some [])) := by
    rw [hW1]
    exact (Below.heap_alloc _ _ _ (by simp)).trans (World.alloc_heap_new w _)
  have hI1 : I [] W1 := by rw [hW1]; exact hI.alloc _ (hI.alloc _ h0)
  have hb1 : Below w0.heap.size w0 W1 := by
    rw [hW1]
    exact hb0.trans ((((Below.refl _ w).alloc (Nat.le_refl _) _).alloc (by simp) _).mono hb0.size)
  refine ⟨w.heap.size + 1, [{ target := .collected w.heap.size, args := #[] }], W1, { target := .fn (.func gf) lb, args := #[.func (.yield (w.heap.size + 1)) #[] #[]] }, W1, gf, #[.func (.yield (w.heap.size + 1)) #[] #[]] ++ lb, W1, by rw [hW1]; exact run_enterLoop_outer _ _ _ _ _, by simp only [resolve, hg]; simp [go_sem], fun f' hf' => by simp [Target.leads] at hf'; subst hf'; exact hFg, by simp [invoke, go_sem, eg], fun _ => h1, ?_⟩
  have turn : ∀ {A : World} {row : Option Nat}, (∀ r, row = some r → W1.heap.size ≤ r ∧ ∃ o : Obj, A.heap[r]? = some o ∧ o.isWalk = true) → ∀ r, row = some r → w.heap.size ≤ r ∧ ∃ o : Obj, A.heap[r]? = some o ∧ o.isCells = false := fun hr r e => by
    obtain ⟨hB, o, ho, hw⟩ := hr r e
    exact ⟨by omega, o, ho, Obj.not_cells_of_walk hw⟩
  have hcall := hseq (w.heap.size + 1)
    (fun pre W => I pre W ∧ W.heap[w.heap.size + 1]? = some (.loop (R5 .ready none)) ∧ W.heap[w.heap.size]? = some (.deferred (some [])))
    (fun pre W => ∃ c, Ix c pre W ∧ W.heap[w.heap.size + 1]? = some (.loop (R5 .done (some c))) ∧ W.heap[w.heap.size]? = some (.deferred (some [])))
    W1 hb1
    (fun s A B row hs hg' hr => ⟨hI s A B row hs.1 hg' (turn hr), (grownBy_keeps hg' (fun r e => (hr r e).2) hs.2.1 rfl).trans hs.2.1, (grownBy_keeps hg' (fun r e => (hr r e).2) hs.2.2 rfl).trans hs.2.2⟩)
    (fun s A B row hs hg' hr => by
      obtain ⟨c, hc, hl, hk⟩ := hs
      exact ⟨c, hIx c s A B row hc hg' (turn hr), (grownBy_keeps hg' (fun r e => (hr r e).2) hl rfl).trans hl, (grownBy_keeps hg' (fun r e => (hr r e).2) hk rfl).trans hk⟩)
    ?_ ⟨hI1, hL1, hK1⟩
  · refine hcall.mono ?_
    rintro e W2 ⟨⟨v, rfl⟩, (⟨xs, hS, hi, hl, hk⟩ | ⟨pre, hSp, c, hi, hl, hk⟩)⟩
    · exact ⟨none, _, run_endLoop (P := P) hl (by simp [R5, rec5]), hdone _ xs _ (Nat.le_refl _) hS (hI.putObj _ hi (by omega) hl rfl) ((World.putObj_heap_other (by omega)).trans hk)⟩
    · exact ⟨some c, _, run_endLoop (P := P) hl (by simp [R5, rec5]), hstop _ c pre _ (Nat.le_refl _) hSp ((hIx c).putObj _ hi (by omega) hl rfl) ((World.putObj_heap_other (by omega)).trans hk)⟩
  · rintro pre x W ⟨hi, hl, hk⟩ hG
    have hlt : w.heap.size + 1 < W.heap.size := (Array.getElem?_eq_some_iff.1 hl).1
    refine ⟨fn, _, assign, body, run_yield (P := P) (args := encs x) hl (hps x), roundIn_of_wpIn hfn (hassign _ x W _ ⟨_, run_beginRound hl rfl, ?_⟩)⟩
    obtain ⟨V, hV⟩ : ∃ V, V = W.putObj (w.heap.size + 1) (.loop (R5 .busy none)) := ⟨_, rfl⟩
    show Code.wpIn _ _ _ _ _ _ (W.putObj (w.heap.size + 1) (.loop (R5 .busy none)))
    rw [← hV]
    have hl2 : V.heap[w.heap.size + 1]? = some (.loop (R5 .busy none)) := by rw [hV]; exact World.putObj_heap_same hlt
    have hk2 : V.heap[w.heap.size]? = some (.deferred (some [])) := by rw [hV]; exact (World.putObj_heap_other (by omega)).trans hk
    have hw2 : Kp W V := by rw [hV]; exact hKb _ _ _ _ (by omega) hl rfl rfl
    have hi2 : I pre V := by rw [hV]; exact hI.putObj _ hi (by omega) hl rfl
    have hG2 : Good pre x V := by rw [hV]; exact hGb _ _ _ _ _ _ (by omega) hl rfl hG
    have ends : ∀ (jump : Option Code) (W3 : World), KeepsFrom w.heap.size V W3 →
        (Instr.endRound (w.heap.size + 1) jump).run P W3 = .ok (.bool jump.isNone) (W3.putObj (w.heap.size + 1) (.loop (R5 (if jump.isNone then .ready else .done) jump))) ∧ W3.heap[w.heap.size + 1]? = some (.loop (R5 .busy none)) ∧
        (W3.putObj (w.heap.size + 1) (.loop (R5 (if jump.isNone then .ready else .done) jump))).heap[w.heap.size + 1]? = some (.loop (R5 (if jump.isNone then .ready else .done) jump)) ∧
        (W3.putObj (w.heap.size + 1) (.loop (R5 (if jump.isNone then .ready else .done) jump))).heap[w.heap.size]? = some (.deferred (some [])) := fun jump W3 hk3 => by
      have hl3 := hk3.same _ _ (by omega) hl2 rfl
      exact ⟨run_endRound (P := P) jump hl3, hl3, World.putObj_heap_same (Array.getElem?_eq_some_iff.1 hl3).1, (World.putObj_heap_other (by omega)).trans (hk3.same _ _ (Nat.le_refl _) hk2 rfl)⟩
    refine wpIn_mono (hbody _ pre x V hi2 hG2) ?_
    have left : ∀ (c : Code) (W3 : World), KeepsFrom w.heap.size V W3 → Ix c (pre ++ [x]) W3 → ∃ v W4, (Instr.endRound (w.heap.size + 1) (some c)).run P W3 = .ok v W4 ∧ ((Ending.returned v = .returned (.bool true) ∧ (I (pre ++ [x]) W4 ∧ W4.heap[w.heap.size + 1]? = some (.loop (R5 .ready none)) ∧ W4.heap[w.heap.size]? = some (.deferred (some []))) ∧ Kp W W4) ∨ (Ending.returned v = .returned (.bool false) ∧ ∃ c, Ix c (pre ++ [x]) W4 ∧ W4.heap[w.heap.size + 1]? = some (.loop (R5 .done (some c))) ∧ W4.heap[w.heap.size]? = some (.deferred (some [])))) := fun c W3 hk3 hx3 => by
      obtain ⟨hr, hl3, hl4, hk4⟩ := ends (some c) W3 hk3
      exact ⟨_, _, hr, .inr ⟨rfl, c, (hIx _).putObj _ hx3 (by omega) hl3 rfl, hl4, hk4⟩⟩
    rintro e a3 W3 hp
    cases e with
    | normal =>
      obtain ⟨hk3, hkp3, hi3⟩ := hp
      obtain ⟨hr, hl3, hl4, hk4⟩ := ends none W3 hk3
      exact ⟨_, _, hr, .inl ⟨rfl, ⟨hI.putObj _ hi3 (by omega) hl3 rfl, hl4, hk4⟩, hKt (hKt hw2 hkp3) (hKb _ _ _ _ (by omega) hl3 rfl rfl)⟩⟩
    | ret => exact left .ret W3 hp.1 hp.2
    | exit id => exact left (.exit id) W3 hp.1 hp.2
    | goto t => exact left (.goto t) W3 hp.1 hp.2
    | panic ch => exact hp.elim
    | outgrown => exact hp.elim
end
end Go.Proofs.YtpmanmoljlhogaaGreatDoor
/- Contract of slices.Equal of numbers. -/
namespace Go.Proofs.YtpmanmoljlhogaaGreatDoor
open Go.RowKit Go.Maps
theorem take_both5 {α : Type} {a b : List α} {j : Nat} {x : α} (ha : a[j]? = some x) (hb : b[j]? = some x) (h : a.take j = b.take j) : a.take (j + 1) = b.take (j + 1) := by
  rw [take_succ_of ha, take_succ_of hb, h]
theorem eq_len5 {α : Type} {a b : List α} {n : Nat} (ha : a.length = n) (hb : b.length = n) (h : a.take n = b.take n) : a = b := by
  rw [List.take_of_length_le (by omega), List.take_of_length_le (by omega)] at h
  exact h
set_option maxRecDepth 100000 in
set_option maxHeartbeats 1000000 in
theorem slEqual_any (va vb : Value) (za zb : List Int) (w : World) (hn : za.length ≤ 1000000000000000) (hm : zb.length ≤ 1000000000000000) (hA : HasI w va za) (hB : HasI w vb zb) :
    Calls Tryz.prog 88 #[va, vb] w fun e w' => e = .returned (.bool (za == zb)) ∧ Below w.heap.size w w' := by
  obtain ⟨ao, cap, rfl, hcA⟩ := hA
  obtain ⟨ao', cap', rfl, hcB⟩ := hB
  by_cases hlen : za.length = zb.length
  · obtain ⟨n, hN⟩ : ∃ n, n = za.length := ⟨_, rfl⟩
    have HH : Hid _ := And.intro hcA (And.intro hcB (And.intro hN (hN.trans hlen)))
    rw [← hlen, ← hN]
    rw [← hN] at hn
    clear hcA hcB hN hlen hm
    have q : ((n : Int) != (n : Int)) = false := by simp
    go_enter Tryz.func88, Tryz.ntmps88
    go_wp2
    go_loopg [13] n (fun g i wr => ∃ j m : Nat, g = n - j ∧ j ≤ n ∧ i = .int .i64 j ∧ za.take j = zb.take j ∧ wr = w.drewN m)
    case atStart => exact ⟨0, 0, rfl, Nat.zero_le _, rfl, rfl, rfl⟩
    case round =>
      obtain ⟨j, m, rfl, hj, rfl, heq, rfl⟩ := hrel
      have HQ : Hid _ := heq
      clear heq
      by_cases hlt : j < n
      · obtain ⟨x, hx⟩ : ∃ z, za[j]? = some z := ⟨za[j]'(by have := HH.out.2.2.1; omega), List.getElem?_eq_getElem _⟩
        obtain ⟨y, hy⟩ : ∃ z, zb[j]? = some z := ⟨zb[j]'(by have := HH.out.2.2.2; omega), List.getElem?_eq_getElem _⟩
        obtain ⟨a, rfl, c0⟩ := HH.out.1 j x hx
        obtain ⟨b, rfl, d0⟩ := HH.out.2.1 j y hy
        have q0 : (0 : Int) ≤ (j : Int) := by omega
        have q1 : (j : Int) < (n : Int) := by omega
        by_cases hxy : x = y
        · subst hxy
          have HT : Hid _ := take_both5 hx hy HQ.out
          clear hx hy
          go_wp2_with fail
          go_quiet (fail)
          go_wp2
          go_roundg (n - (j + 1))
          case measure => omega
          case rel => exact ⟨j + 1, _, rfl, by omega, by go_num, HT.out, by first | rfl | exact World.drewN_drewN _ _ _⟩
        · have e1 : (x == y) = false := by simpa using hxy
          have HF : Hid ((za == zb) = false) := (by
            rw [beq_eq_false_iff_ne]
            rintro rfl
            rw [hx] at hy
            exact hxy (Option.some.inj hy) : (za == zb) = false)
          clear hx hy hxy
          go_wp2_with fail
          go_quiet (fail)
          go_wp2
          go_ret
          exact ⟨by rw [HF.out]; rfl, by first | exact below_drewN (below_drewN (Below.refl _ _) _) _ | exact below_drewN (Below.refl _ _) _⟩
      · obtain rfl : j = n := by omega
        have q1 : ¬ (j : Int) < (j : Int) := by omega
        have HF : Hid ((za == zb) = true) := (by
          rw [beq_iff_eq]
          exact eq_len5 HH.out.2.2.1.symm HH.out.2.2.2.symm HQ.out : (za == zb) = true)
        go_wp2
        go_ret
        exact ⟨by rw [HF.out]; rfl, below_drewN (Below.refl _ _) _⟩
  · have q : ((za.length : Int) != (zb.length : Int)) = true := by rw [bne_iff_ne]; omega
    have HF : Hid ((za == zb) = false) := (by rw [beq_eq_false_iff_ne]; rintro rfl; exact hlen rfl : (za == zb) = false)
    clear hcA hcB hlen
    go_enter Tryz.func88, Tryz.ntmps88
    go_wp2
    go_ret
    exact ⟨by rw [HF.out]; rfl, Below.refl _ _⟩
end Go.Proofs.YtpmanmoljlhogaaGreatDoor
/- The function that roundsOf answers tells the rounds, one behind the other. -/
namespace Go.Proofs.YtpmanmoljlhogaaGreatDoor
open Go.RowKit Go.Maps Go.Shelf
attribute [local go_sem] Oper.semAt_some
/-- What a round of a loop over the rounds leaves as it was: all below n0, and lists of numbers from n1 on. -/
structure KpR (n0 n1 : Nat) (W W' : World) : Prop where
  bl : Below n0 W W'
  ints : ∀ (b : Nat) (cs : Array Value), n1 ≤ b → W.heap[b]? = some (.cells cs 3 (0, 0)) → W'.heap[b]? = some (.cells cs 3 (0, 0))
theorem KpR.trans {n0 n1 : Nat} {A B C : World} (h : KpR n0 n1 A B) (k : KpR n0 n1 B C) : KpR n0 n1 A C := ⟨h.bl.trans k.bl, fun b cs hb hc => k.ints b cs hb (h.ints b cs hb hc)⟩
/-- What is handed over: the round, and the block of its classes. -/
abbrev Rd : Type := Nat × Nat
def rdV (m : Nat) (x : Rd) : Array Value := #[.int .i64 x.1, .slice (some ⟨x.2, 0, none⟩) m m]
structure GoodR (n1 m : Nat) (out : Nat → List Ro.St) (pre : List Rd) (x : Rd) (W : World) : Prop where
  num : x.1 = pre.length
  small : x.1 < max m 1
  up : ∀ y ∈ pre, y.2 < x.2
  gu : n1 ≤ x.2
  blk : ∃ cs : Array Value, W.heap[x.2]? = some (.cells cs 3 (0, 0)) ∧ cs.toList = natC (Ro.rnd m out x.1)
/-- What the function reads stands as long as all below n0 does. -/
def Reads (n0 b1 b2 gs m : Nat) (out : Nat → List Ro.St) (w : World) : Prop := ∀ W, Below n0 w W → W.cell? ⟨b1, 0, none⟩ = some (.int .i64 m) ∧ W.cell? ⟨b2, 0, none⟩ = some (.slice (some ⟨gs, 0, none⟩) m m) ∧ Stp W gs m out ∧ Pow W
theorem Reads.of {w w' : World} {b1 b2 gs m : Nat} {es : List Sy.Ed} (h : OfAt w w' b1 b2 gs m es) (hP : Pow w') : Reads w'.heap.size b1 b2 gs m (outOf m es) w' := fun _ hb =>
  ⟨cell_up h.c1 hb, cell_up h.c2 hb, h.st.below hb, hP.below hb⟩
theorem Reads.on {n0 b1 b2 gs m : Nat} {out : Nat → List Ro.St} {w w' : World} (h : Reads n0 b1 b2 gs m out w) (hb : Below n0 w w') : Reads n0 b1 b2 gs m out w' := fun W hW => h W (hb.trans hW)
theorem grown_of_below {w w' : World} (h : Below w.heap.size w w') : w.grownBy w' none := ⟨h.os, h.tape, h.output, h.size, fun k hk _ => h.block k hk⟩
theorem hasI_blk {W : World} {g m : Nat} {c : List Nat} {cs : Array Value} (hm : c.length = m) (hb : W.heap[g]? = some (.cells cs 3 (0, 0))) (hc : cs.toList = natC c) : HasI W (.slice (some ⟨g, 0, none⟩) m m) (natI c) :=
  ⟨_, m, by rw [show (natI c).length = m by simp [natI, hm]], fun i z hz => ⟨_, rfl, by
    rw [addz]
    refine cell0_of hb ?_
    rw [← Array.getElem?_toList, hc, ← iC_nat]
    unfold iC
    rw [List.getElem?_map, hz]; rfl⟩⟩
theorem natI_inj {a b : List Nat} (h : natI a = natI b) : a = b := by
  unfold natI at h
  exact List.map_inj_right (fun x y e => by omega) |>.1 h
/-- Between two rounds. -/
structure ItAt (w wr : World) (n0 m : Nat) (out : Nat → List Ro.St) (J : List Rd → World → Prop) (pre : List Rd) (k g : Nat) : Prop where
  len : pre.length = k
  j : J pre wr
  bl : Below n0 w wr
  up : ∀ y ∈ pre, y.2 < g
  gu : w.heap.size ≤ g
  blk : ∃ cs : Array Value, wr.heap[g]? = some (.cells cs 3 (0, 0)) ∧ cs.toList = natC (Ro.rnd m out k)
  ch : ∀ j, j < k → Ro.rnd m out (j + 1) ≠ Ro.rnd m out j
set_option maxRecDepth 100000 in
set_option maxHeartbeats 4000000 in
theorem rounds_tell (n : Nat) (n0 b1 b2 gs m : Nat) (out : Nat → List Ro.St) (w : World) (hn0 : n0 ≤ w.heap.size) (hm : m ≤ 1000) (hF : Fit m out) (hR : Reads n0 b1 b2 gs m out w) :
    Tells Fence.wide n Tryz.prog 97 #[.pointer (some ⟨b1, 0, none⟩), .pointer (some ⟨b2, 0, none⟩)] (rdV m) (KpR n0 w.heap.size) (GoodR w.heap.size m out) (fun xs => ∃ R, Ro.Last m out R ∧ xs.length = R + 1) (fun pre => ∃ R, Ro.Last m out R ∧ pre.length ≤ R + 1) w := by
  intro l J Jx W hW hJ hJx hY h0
  have hrd := hR W (hW.mono hn0)
  have c1 := hrd.1
  have hmk := makeI m (by omega) W
  have HH : Hid _ := And.intro hW (And.intro hJ (And.intro hJx (And.intro hY (And.intro h0 (And.intro hF (And.intro hR hrd))))))
  clear hW hJ hJx hY h0 hF hR hrd
  refine callsIn_of_wp Tryz.func97 rfl trivial ?_ rfl
  simp only [Tryz.ntmps97, List.size_toArray, List.length_cons, List.length_nil, Nat.reduceAdd, Nat.reduceSub, Array.replicate_succ, Array.replicate_zero, List.push_toArray, List.append_toArray, List.nil_append, List.cons_append]
  gi_wp2
  clear hmk c1
  gi_loopw [4, 5] (fun cv iv wr => ∃ (k g : Nat) (pre : List Rd), cv = .slice (some ⟨g, 0, none⟩) m m ∧ iv = .int .i64 k ∧ ItAt w wr n0 m out J pre k g) (fun _ iv _ => 1001 - (intOf iv).toNat)
  case atStart =>
    refine ⟨0, W.heap.size, [], rfl, rfl, rfl, ?_, ?_, fun y hy => by simp at hy, HH.out.1.size, ?_, fun j hj => by omega⟩
    · exact HH.out.2.1 _ _ _ none HH.out.2.2.2.2.1 (World.grownBy_alloc W _ none) (fun r e => by cases e)
    · exact (HH.out.1.mono hn0).trans (((Below.refl _ W).alloc (Nat.le_refl _) _).mono (Nat.le_trans hn0 HH.out.1.size))
    · obtain ⟨_, ⟨cs, hc, hx⟩, _⟩ := arr_new 3 (.int .i64 0) rfl m W
      exact ⟨cs, hc, by rw [hx]; simp [natC, Ro.rnd]⟩
  case round =>
    obtain ⟨k, g, pre, rfl, rfl, hI⟩ := hrel
    have hk := Ro.changes_lt hI.ch
    obtain ⟨fn, tmps, assign, body, hy, hRd⟩ := HH.out.2.2.2.1 pre (k, g) wr hI.j ⟨hI.len.symm, hk, hI.up, hI.gu, hI.blk⟩
    dsimp only [rdV] at hy
    have HI : Hid (ItAt w wr n0 m out J pre k g) := hI
    have hk1 : k ≤ 1000 := by omega
    clear hI
    gi_wp2
    refine ⟨fun h => (by cases h), hRd.mono ?_⟩
    rintro e W3 (⟨rfl, hJ3, hk3⟩ | ⟨rfl, hJx3⟩)
    · have hb3 := HI.out.bl.trans hk3.bl
      obtain ⟨cs, hcs, hcl⟩ := HI.out.blk
      have hcs3 := hk3.ints g cs HI.out.gu hcs
      obtain ⟨r1, r2, r3, r4⟩ := HH.out.2.2.2.2.2.2.1 W3 hb3
      have hcI := hasI_blk (Ro.rnd_len m out k) hcs3 hcl
      have hP := parted_any gs m out (Ro.rnd m out k) _ W3 hm (Ro.rnd_len m out k) (fun u hu => Ro.rnd_lt hu) HH.out.2.2.2.2.2.1 r3 hcI r4
      have H3 : Hid _ := And.intro hJ3 (And.intro hb3 (And.intro hcI (And.intro hP hcs3)))
      have c2 := r2
      clear hJ3 hk3 hb3 hcs hcs3 r1 r2 r3 r4 hcI hP hRd hy
      gi_wp2
      refine ⟨trivial, fun h => (by cases h), (callsIn_wide.2 H3.out.2.2.2.1).mono ?_⟩
      rintro e W4 ⟨g2, rfl, hA4⟩
      have hb34 := hA4.bl
      have hcI4 : HasI W4 (.slice (some ⟨g2, 0, none⟩) m m) (natI (Ro.rnd m out (k + 1))) := by
        obtain ⟨cs4, hc4, hx4⟩ := hA4.ids
        exact hasI_blk (Ro.rnd_len m out (k + 1)) hc4 hx4
      have hl4 : ∀ j, (natI (Ro.rnd m out j)).length = m := fun j => by simp [natI, Ro.rnd_len]
      have hE := slEqual_any _ _ _ _ W4 (by rw [hl4]; omega) (by rw [hl4]; omega) hcI4 (H3.out.2.2.1.below hb34)
      have H4 : Hid _ := And.intro hA4 hE
      clear hA4 hE hb34 hcI4 hl4
      by_cases he : Ro.rnd m out (k + 1) = Ro.rnd m out k
      · have e1 : (natI (Ro.rnd m out (k + 1)) == natI (Ro.rnd m out k)) = true := by rw [he]; simp
        rw [e1] at H4
        have HE : Hid _ := he
        clear he e1
        gi_wp2
        refine ⟨trivial, fun h => (by cases h), (callsIn_wide.2 H4.out.2).mono ?_⟩
        rintro e W5 ⟨rfl, hb5⟩
        have H5 : Hid (Below W3.heap.size W3 W5) := bel6 hb5 H4.out.1.bl
        clear hb5
        gi_wp2
        refine bodyPost_ret (results_none rfl _ _ _) rfl ?_
        exact ⟨⟨_, rfl⟩, .inl ⟨pre ++ [(k, g)], ⟨k, ⟨HE.out, HI.out.ch⟩, by simp [HI.out.len]⟩, HH.out.2.1 _ _ _ none H3.out.1 (grown_of_below H5.out) (fun r e => by cases e)⟩⟩
      · have e1 : (natI (Ro.rnd m out (k + 1)) == natI (Ro.rnd m out k)) = false := by simpa using fun e => he (natI_inj e)
        rw [e1] at H4
        have HE : Hid _ := he
        clear he e1
        gi_wp2
        refine ⟨trivial, fun h => (by cases h), (callsIn_wide.2 H4.out.2).mono ?_⟩
        rintro e W5 ⟨rfl, hb5⟩
        have H5 : Hid (Below W3.heap.size W3 W5 ∧ Below W4.heap.size W4 W5) := ⟨bel6 hb5 H4.out.1.bl, hb5⟩
        clear hb5
        gi_wp2
        go_roundw
        case rel =>
          refine ⟨k + 1, g2, pre ++ [(k, g)], rfl, by go_num, by simp [HI.out.len], HH.out.2.1 _ _ _ none H3.out.1 (grown_of_below H5.out.1) (fun r e => by cases e), H3.out.2.1.trans (H5.out.1.mono (Nat.le_trans hn0 H3.out.2.1.size)), fun y hy => ?_, ?_, ?_, fun j hj => ?_⟩
          · have hg3 := t_lt H3.out.2.2.2.2
            have hg4 := H4.out.1.gu
            rcases List.mem_append.1 hy with hy | hy
            · have := HI.out.up y hy; omega
            · rw [List.mem_singleton.1 hy]; show g < g2; omega
          · exact Nat.le_trans H3.out.2.1.size H4.out.1.gu
          · obtain ⟨cs4, hc4, hx4⟩ := H4.out.1.ids
            exact ⟨cs4, res_up6 H5.out.2 hc4, hx4⟩
          · rcases Nat.lt_or_ge j k with h1 | h1
            · exact HI.out.ch j h1
            · obtain rfl : j = k := by omega
              exact HE.out
        case measure => simp [intOf]; omega
    · have HJ : Hid _ := hJx3
      clear hJx3 hRd hy
      gi_wp2
      go_end0
      obtain ⟨R, hR⟩ := Ro.exists_last m out
      exact ⟨⟨_, rfl⟩, .inr ⟨_, ⟨R, hR, by have := hR.ge HI.out.ch; simp [HI.out.len]; omega⟩, HJ.out⟩⟩
end Go.Proofs.YtpmanmoljlhogaaGreatDoor
/- Contract of the program's note: a round is the rank of those that it is the first one to part. -/
namespace Go.Proofs.YtpmanmoljlhogaaGreatDoor
open Go.RowKit Go.Maps
attribute [local go_sem ↓] Go.wp_at_zero Go.wp_at_succ
/-- A table of numbers in memory: the rows lie in blocks of their own. -/
structure RkAt (W : World) (T m : Nat) (rb : Nat → Nat) (f : Nat → Nat → Int) : Prop where
  tab : ∀ p, p < m → W.cell? ⟨T, p, none⟩ = some (.slice (some ⟨rb p, 0, none⟩) m m)
  row : ∀ p, p < m → ∃ cs : Array Value, W.heap[rb p]? = some (.cells cs 3 (0, 0)) ∧ cs.toList = (List.range m).map fun q => Value.int .i64 (f p q)
  ne : ∀ p q, p < m → q < m → rb p = rb q → p = q
  tn : ∀ p, p < m → rb p ≠ T
theorem RkAt.drew {W : World} {T m : Nat} {rb : Nat → Nat} {f : Nat → Nat → Int} (h : RkAt W T m rb f) (n : Nat) : RkAt (W.drewN n) T m rb f := by
  have hb : Below W.heap.size W (W.drewN n) := below_drewN (Below.refl _ _) n
  exact ⟨fun p hp => cell_up (h.tab p hp) hb, fun p hp => by obtain ⟨cs, h1, h2⟩ := h.row p hp; exact ⟨cs, res_up6 hb h1, h2⟩, h.ne, h.tn⟩
theorem RkAt.cell {W : World} {T m : Nat} {rb : Nat → Nat} {f : Nat → Nat → Int} (h : RkAt W T m rb f) {p q : Nat} (hp : p < m) (hq : q < m) : W.cell? ⟨rb p, q, none⟩ = some (.int .i64 (f p q)) := by
  obtain ⟨cs, h1, h2⟩ := h.row p hp
  refine cell0_of h1 ?_
  rw [← Array.getElem?_toList, h2, List.getElem?_map, List.getElem?_range hq]; rfl
theorem RkAt.free {W : World} {T m : Nat} {rb : Nat → Nat} {f : Nat → Nat → Int} (h : RkAt W T m rb f) {p : Nat} (hp : p < m) (q : Nat) : W.frozen? ⟨rb p, q, none⟩ = false := by
  obtain ⟨cs, h1, _⟩ := h.row p hp
  exact blk_free h1 q
theorem RkAt.congr {W : World} {T m : Nat} {rb : Nat → Nat} {f g : Nat → Nat → Int} (h : RkAt W T m rb f) (e : ∀ p q, p < m → q < m → f p q = g p q) : RkAt W T m rb g :=
  ⟨h.tab, fun p hp => by
    obtain ⟨cs, h1, h2⟩ := h.row p hp
    exact ⟨cs, h1, h2.trans (List.map_congr_left fun q hq => by rw [e p q hp (List.mem_range.1 hq)])⟩, h.ne, h.tn⟩
theorem RkAt.set {W : World} {T m : Nat} {rb : Nat → Nat} {f : Nat → Nat → Int} (h : RkAt W T m rb f) {p q : Nat} (hp : p < m) (v : Int) : RkAt (W.setCell ⟨rb p, q, none⟩ (.int .i64 v)) T m rb (fun a b => if a = p ∧ b = q then v else f a b) := by
  refine ⟨fun a ha => ?_, fun a ha => ?_, h.ne, h.tn⟩
  · rw [cell_block (setCell_other _ (fun e => h.tn p hp e.symm))]
    exact h.tab a ha
  · by_cases e : a = p
    · subst e
      obtain ⟨cs, h1, h2⟩ := h.row a ha
      refine ⟨cs.setIfInBounds q (.int .i64 v), heap_setCell_same W (rb a) q cs 3 _ h1, ?_⟩
      rw [Array.toList_setIfInBounds, h2]
      apply List.ext_getElem?
      intro i
      rw [List.getElem?_set]
      by_cases hi : i < m
      · rw [List.getElem?_map, List.getElem?_map, List.getElem?_range hi]
        by_cases hqi : q = i
        · subst hqi; simp [hi]
        · have : ¬ i = q := fun e => hqi e.symm
          simp [hqi, this]
      · rw [List.getElem?_eq_none (by simp; omega), List.getElem?_eq_none (by simp; omega)]
        by_cases hqi : q = i
        · subst hqi; simp [hi]
        · simp [hqi]
    · obtain ⟨cs, h1, h2⟩ := h.row a ha
      refine ⟨cs, (setCell_other _ (fun e2 => e (h.ne a p ha hp e2))).trans h1, h2.trans (List.map_congr_left fun q' _ => ?_)⟩
      rw [if_neg (fun e2 => e e2.1)]
/-- The rank of two states behind a round. -/
def nt (f : Nat → Nat → Int) (c : List Nat) (r : Nat) (p q : Nat) : Int := if f p q = -1 ∧ c[p]? ≠ c[q]? then (r : Int) else f p q
/-- Which blocks may change. -/
def RbF (m : Nat) (rb : Nat → Nat) (b : Nat) : Prop := ∃ p, p < m ∧ b = rb p
structure NtAt (w wr : World) (T m : Nat) (rb : Nat → Nat) (f : Nat → Nat → Int) : Prop where
  tb : RkAt wr T m rb f
  kp : Kept (RbF m rb) w wr
theorem NtAt.drew {w wr : World} {T m : Nat} {rb : Nat → Nat} {f : Nat → Nat → Int} (h : NtAt w wr T m rb f) (n : Nat) : NtAt w (wr.drewN n) T m rb f := ⟨h.tb.drew n, h.kp.trans (Kept.of_below (below_drewN (Below.refl _ _) n))⟩
theorem NtAt.set {w wr : World} {T m : Nat} {rb : Nat → Nat} {f : Nat → Nat → Int} (h : NtAt w wr T m rb f) {p q : Nat} (hp : p < m) (v : Int) : NtAt w (wr.setCell ⟨rb p, q, none⟩ (.int .i64 v)) T m rb (fun a b => if a = p ∧ b = q then v else f a b) :=
  ⟨h.tb.set hp v, h.kp.trans ((Kept.setCell wr (rb p) q _).mono fun _ _ e => ⟨p, hp, e⟩)⟩
/-- The table when the rows ahead of p, and in row p the places ahead of q, are done. -/
def midN (f : Nat → Nat → Int) (c : List Nat) (r p q : Nat) (a b : Nat) : Int := if a < p ∨ (a = p ∧ b < q) then nt f c r a b else f a b
theorem mid_same {f : Nat → Nat → Int} {c : List Nat} {r p q : Nat} (h : nt f c r p q = f p q) (a b : Nat) : midN f c r p q a b = midN f c r p (q + 1) a b := by
  unfold midN
  by_cases h1 : a < p ∨ (a = p ∧ b < q)
  · rw [if_pos h1, if_pos (by omega)]
  · rw [if_neg h1]
    by_cases h2 : a < p ∨ (a = p ∧ b < q + 1)
    · rw [if_pos h2]
      obtain ⟨rfl, rfl⟩ : a = p ∧ b = q := by omega
      exact h.symm
    · rw [if_neg h2]
theorem mid_put {f : Nat → Nat → Int} {c : List Nat} {r p q : Nat} (h : nt f c r p q = (r : Int)) (a b : Nat) : (if a = p ∧ b = q then (r : Int) else midN f c r p q a b) = midN f c r p (q + 1) a b := by
  unfold midN
  by_cases h0 : a = p ∧ b = q
  · rw [if_pos h0, if_pos (by omega), h0.1, h0.2, h]
  · rw [if_neg h0]
    by_cases h1 : a < p ∨ (a = p ∧ b < q)
    · rw [if_pos h1, if_pos (by omega)]
    · rw [if_neg h1, if_neg (by omega)]
set_option maxRecDepth 100000 in
set_option maxHeartbeats 8000000 in
theorem note_any (T m cb r : Nat) (rb : Nat → Nat) (f : Nat → Nat → Int) (c : List Nat) (cs : Array Value) (w : World) (hm : m ≤ 1000) (hc : c.length = m) (hT : RkAt w T m rb f) (hcb : w.heap[cb]? = some (.cells cs 3 (0, 0))) (hcs : cs.toList = natC c) (hne : ∀ p, p < m → rb p ≠ cb) :
    Calls Tryz.prog 85 #[.slice (some ⟨T, 0, none⟩) m m, .int .i64 r, .slice (some ⟨cb, 0, none⟩) m m] w fun e w' => (∃ v, e = .returned v) ∧ NtAt w w' T m rb (nt f c r) := by
  have hcl : ∀ (W : World) (i x : Nat), Kept (RbF m rb) w W → c[i]? = some x → W.cell? ⟨cb, i, none⟩ = some (.int .i64 x) := fun W i x hk hx =>
    cell0_of ((hk.block cb (t_lt hcb) fun ⟨p, hp, e⟩ => hne p hp e.symm).trans hcb) (by rw [← Array.getElem?_toList, hcs]; simp [natC, hx])
  have HH : Hid _ := And.intro hT (And.intro hcl hc)
  clear hT hcb hcs hne hcl hc
  go_enter Tryz.func85, Tryz.ntmps85
  go_wp2_with fail
  go_loopg [12] m (fun g iv wr => ∃ p : Nat, g = m - p ∧ p ≤ m ∧ iv = .int .i64 p ∧ NtAt w wr T m rb (midN f c r p 0))
  case atStart => exact ⟨0, rfl, Nat.zero_le _, rfl, HH.out.1.congr (fun a b _ _ => by unfold midN; rw [if_neg (by omega)]), Kept.refl _ _⟩
  case round =>
    obtain ⟨p, rfl, hp, rfl, hN⟩ := hrel
    obtain ⟨w1, rfl⟩ : ∃ w1, w1 = wr := ⟨_, rfl⟩
    by_cases hlt : p < m
    · have c1 := hN.tb.tab p hlt
      have q0 : (0 : Int) ≤ (p : Int) := by omega
      have q1 : (p : Int) < (m : Int) := by omega
      have HN : Hid _ := hN
      clear hN
      go_wp2_with fail
      clear c1
      go_loopg [19] m (fun g iv wr => ∃ q : Nat, g = m - q ∧ q ≤ m ∧ iv = .int .i64 q ∧ NtAt w wr T m rb (midN f c r p q))
      case atStart => exact ⟨0, rfl, Nat.zero_le _, rfl, HN.out⟩
      case round =>
        obtain ⟨q, rfl, hq, rfl, hM⟩ := hrel
        by_cases hql : q < m
        · have hfv : midN f c r p q p q = f p q := by unfold midN; rw [if_neg (by omega)]
          have c2 := hM.tb.cell hlt hql
          rw [hfv] at c2
          have cf := hM.tb.free hlt q
          obtain ⟨x, hx⟩ : ∃ x, c[p]? = some x := ⟨c[p]'(by have := HH.out.2.2; omega), List.getElem?_eq_getElem _⟩
          obtain ⟨y, hy⟩ : ∃ x, c[q]? = some x := ⟨c[q]'(by have := HH.out.2.2; omega), List.getElem?_eq_getElem _⟩
          have d1 := HH.out.2.1 wr p x hM.kp hx
          have d2 := HH.out.2.1 wr q y hM.kp hy
          have p0 : (0 : Int) ≤ (q : Int) := by omega
          have p1 : (q : Int) < (m : Int) := by omega
          obtain ⟨v, hv⟩ : ∃ v, v = f p q := ⟨_, rfl⟩
          rw [← hv] at c2
          have HM : Hid _ := And.intro hM (And.intro hx (And.intro hy hv))
          clear hM hx hy hv hfv
          by_cases hv1 : v = -1
          · have g1 : (v == -1) = true := by simp [hv1]
            by_cases hxy : x = y
            · have g2 : ((x : Int) != (y : Int)) = false := by simp [hxy]
              have HS : Hid (nt f c r p q = f p q) := by
                have h9 : nt f c r p q = f p q := by unfold nt; rw [if_neg (fun e => e.2 (by rw [HM.out.2.1, HM.out.2.2.1, hxy]))]
                exact h9
              clear hv1 hxy
              go_wp2_with fail
              go_quiet (fail)
              rename Nat => nq
              go_wp2_with fail
              go_roundg (m - (q + 1))
              case measure => omega
              case rel => exact ⟨q + 1, rfl, by omega, by go_num, by
                have h1 := HM.out.1.drew nq
                exact ⟨h1.tb.congr fun a b _ _ => mid_same HS.out a b, h1.kp⟩⟩
            · have g2 : ((x : Int) != (y : Int)) = true := by simp; omega
              have HS : Hid (nt f c r p q = (r : Int)) := by
                have h9 : nt f c r p q = (r : Int) := by unfold nt; rw [if_pos ⟨by rw [← HM.out.2.2.2]; exact hv1, by rw [HM.out.2.1, HM.out.2.2.1]; exact fun e => hxy (Option.some.inj e)⟩]
                exact h9
              clear hv1 hxy
              go_wp2_with fail
              go_quiet (fail)
              rename Nat => nq
              have cz : (wr.drewN nq).cell? ⟨rb p, q, none⟩ = some (.int .i64 v) := c2
              go_wp2_with fail
              go_roundg (m - (q + 1))
              case measure => omega
              case rel => exact ⟨q + 1, rfl, by omega, by go_num, by
                have h1 := (HM.out.1.drew nq).set (q := q) hlt (r : Int)
                exact ⟨h1.tb.congr fun a b _ _ => mid_put HS.out a b, h1.kp⟩⟩
          · have g1 : (v == -1) = false := by simp [hv1]
            have HS : Hid (nt f c r p q = f p q) := by
              have h9 : nt f c r p q = f p q := by unfold nt; rw [if_neg (fun e => hv1 (HM.out.2.2.2.trans e.1))]
              exact h9
            clear hv1
            go_wp2_with fail
            go_quiet (fail)
            rename Nat => nq
            go_wp2_with fail
            go_roundg (m - (q + 1))
            case measure => omega
            case rel => exact ⟨q + 1, rfl, by omega, by go_num, by
              have h1 := HM.out.1.drew nq
              exact ⟨h1.tb.congr fun a b _ _ => mid_same HS.out a b, h1.kp⟩⟩
        · obtain rfl : q = m := by omega
          have r1 : ¬ (q : Int) < (q : Int) := by omega
          have HM : Hid _ := hM
          clear hM
          go_wp2_with fail
          go_roundg (q - (p + 1))
          case measure => omega
          case rel => exact ⟨p + 1, rfl, by omega, by go_num, HM.out.tb.congr (fun a b _ hb => by
            unfold midN
            by_cases h1 : a < p ∨ (a = p ∧ b < q)
            · rw [if_pos h1, if_pos (by omega)]
            · rw [if_neg h1, if_neg (by omega)]), HM.out.kp⟩
    · obtain rfl : p = m := by omega
      have r1 : ¬ (p : Int) < (p : Int) := by omega
      have HN : Hid _ := hN
      clear hN
      go_wp2_with fail
      go_end0
      exact ⟨⟨_, rfl⟩, HN.out.tb.congr (fun a b ha _ => by unfold midN; rw [if_pos (by omega)]), HN.out.kp⟩
end Go.Proofs.YtpmanmoljlhogaaGreatDoor
