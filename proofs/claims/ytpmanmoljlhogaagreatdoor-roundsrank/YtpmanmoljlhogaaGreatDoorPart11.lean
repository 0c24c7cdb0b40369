/- Texts of this claim, joined: RoOf, RoDHand, RoDs0, RoDs, SyEq, RoDSame. -/
import Derived.Test.YtpmanmoljlhogaaGreatDoorPart3
import Derived.Test.YtpmanmoljlhogaaGreatDoorPart10
import Derived.Test.YtpmanmoljlhogaaGreatDoorPart1
import Derived.Deep.RegionHeld3
import Derived.Test.YtpmanmoljlhogaaGreatDoorPart8
import Derived.Deep.AppendLies
import Derived.Maps.AppendAt
import Derived.RangeFuncBox
import Derived.BigQuiet
import Derived.Deep.LoopGhost
import Derived.Deep.QuietTactic
import Derived.WalkSmall
/- Contract of the program's roundsOf: the rows of steps, and the function that tells the rounds. -/
namespace Go.Proofs.YtpmanmoljlhogaaGreatDoor
open Go.RowKit Go.Maps
attribute [local go_sem ↓] Go.wp_at_zero Go.wp_at_succ
theorem bel6 {w W w8 : World} (hb : Below W.heap.size W w8) (h : Below w.heap.size w W) : Below w.heap.size w w8 := h.trans (hb.mono h.size)
theorem res_up6 {W w8 : World} {b : Nat} {o : Obj} (hb : Below W.heap.size W w8) (h : W.heap[b]? = some o) : w8.heap[b]? = some o := (hb.block b (t_lt h)).trans h
def rndB : ByteArray := ⟨#[114, 111, 117, 110, 100, 115]⟩
theorem rfault_any (T : TypeId) (u : Value) (w : World) (a : Addr) (ls : List ByteArray) (h : Chain w 0 0 a ls (.iface T u)) : Calls Tryz.prog 35 #[.iface T u] w fun r w' => ∃ b, r = .returned (.iface 76 (.pointer (some ⟨b, 0, none⟩))) ∧ Chain w' 0 0 a (rndB :: ls) (.iface 76 (.pointer (some ⟨b, 0, none⟩))) ∧ Below w.heap.size w w' := by
  have HC : Hid (Chain w 0 0 a ls (.iface T u)) := h
  clear h
  go_enter Tryz.func35, Tryz.ntmps35
  go_wp2
  go_ret
  have hb : Below w.heap.size w (w.alloc (.cells #[.string rndB, .int .i64 0, .int .i64 0, .iface T u] 79)) := (Below.refl _ _).alloc (Nat.le_refl _) _
  exact ⟨_, rfl, ⟨_, _, rfl, heap_alloc_new w _, HC.out.below hb⟩, hb⟩
theorem setCell_other {w : World} {b g o : Nat} (x : Value) (h : b ≠ g) : (w.setCell ⟨g, o, none⟩ x).heap[b]? = w.heap[b]? := by
  simp only [World.setCell]
  rw [Array.getElem?_modify, if_neg (fun e => h e.symm)]
theorem cell_block {w w' : World} {b o : Nat} (h : w'.heap[b]? = w.heap[b]?) : w'.cell? ⟨b, o, none⟩ = w.cell? ⟨b, o, none⟩ := World.cell?_of_block (a := ⟨b, o, none⟩) h
/-- Rows being filled. -/
structure StAt (w wr : World) (gs n i : Nat) (us : List Value) (out : Nat → List BSteps.El) : Prop where
  arr : Arr 114 w wr gs us
  len : us.length = n
  row : ∀ j, j < i → ∃ u, us[j]? = some u ∧ BSteps.Own wr w.heap.size u (out j)
theorem StAt.step {w wr w4 : World} {gs n i : Nat} {us : List Value} {out : Nat → List BSteps.El} (h : StAt w wr gs n i us out) (hi : i < n) (hb : Below wr.heap.size wr w4) {u : Value} (hO : BSteps.Own w4 wr.heap.size u (out i)) : StAt w (w4.setCell ⟨gs, i, none⟩ u) gs n (i + 1) (us.set i u) out := by
  have hA4 := h.arr.below hb
  obtain ⟨cs9, hc9, _⟩ := hA4.ids
  have keep : ∀ {x : Value} {zs : List BSteps.El} {B : Nat}, BSteps.Own w4 B x zs → BSteps.Own (w4.setCell ⟨gs, i, none⟩ u) B x zs := fun hx => own_up hx (Kept.setCell w4 gs i u) fun b hb2 e => own_bk hx hc9 (by decide) (by rw [← e]; exact hb2)
  refine ⟨hA4.set i u, by rw [List.length_set]; exact h.len, fun j hj => ?_⟩
  rcases Nat.lt_or_ge j i with hji | hji
  · obtain ⟨x, hx, hOx⟩ := h.row j hji
    refine ⟨x, by rw [List.getElem?_set_ne (by omega)]; exact hx, keep (trow_at hOx fun b hb2 => hb.block b (hOx.lt b hb2).2)⟩
  · obtain rfl : j = i := by omega
    exact ⟨u, by rw [List.getElem?_set_self (by have := h.len; omega)], keep (row_base hO h.arr.bl.size)⟩
theorem StAt.done {w wr : World} {gs n : Nat} {us : List Value} {out : Nat → List BSteps.El} (h : StAt w wr gs n n us out) : Stp wr gs n out :=
  ⟨fun i hi => by
    obtain ⟨u, hu, hO⟩ := h.row i hi
    obtain ⟨a, c, rfl⟩ := row_shape hO
    exact ⟨a, c, h.arr.cell hu, hO.has⟩⟩
theorem Tryz.infoRS : (Tryz.prog.info? 114).map (fun i => (i.zero, i.size, i.bytes)) = some (some (.slice none 0 0), 1, 24) := by kernel_rfl
theorem makeRS (n : Nat) (hn : n ≤ 1000000) (w : World) : (Instr.makeSlice 32 (.int .i64 (n : Int)) (.int .i64 (n : Int))).run Tryz.prog w = .ok (.slice (some ⟨w.heap.size, 0, none⟩) n n) (w.alloc (.cells (madeV (.slice none 0 0) n) 114)) := make_of _ _ _ 24 Tryz.underlying32 Tryz.infoRS n hn (by decide) w
/-- The steps of a system's states. -/
def outOf (m : Nat) (es : List Sy.Ed) (i : Nat) : List BSteps.El := Sy.rowOf m (Sy.nf es) i
/-- What roundsOf answers: the function with what it has taken along. -/
structure OfAt (w w' : World) (b1 b2 gs m : Nat) (es : List Sy.Ed) : Prop where
  bl : Below w.heap.size w w'
  l1 : b1 < w'.heap.size
  l2 : b2 < w'.heap.size
  c1 : w'.cell? ⟨b1, 0, none⟩ = some (.int .i64 m)
  c2 : w'.cell? ⟨b2, 0, none⟩ = some (.slice (some ⟨gs, 0, none⟩) m m)
  st : Stp w' gs m (outOf m es)
def roundsV (b1 b2 : Nat) : Value := .func (.func 97) #[] #[.pointer (some ⟨b1, 0, none⟩), .pointer (some ⟨b2, 0, none⟩)]
set_option maxRecDepth 100000 in
set_option maxHeartbeats 8000000 in
set_option linter.unusedSimpArgs false in
theorem roundsOf_ok (hS : SortOk 1000000) (m : Nat) (k s : Int) (v : Value) (es : List Sy.Ed) (a : Addr) (w : World) (hA : Sent w 14 a) (hv : BEdges.Has w v es) (hm : es.length ≤ 100000) (hq : Sy.right m k s es = true) :
    Calls Tryz.prog 34 #[sysV m k s v] w fun r w' => ∃ b1 b2 gs, r = .returned (.tuple #[roundsV b1 b2, .nilIface]) ∧ OfAt w w' b1 b2 gs m es := by
  have hv0 := hv
  obtain ⟨ao, cap, rfl, _⟩ := hv0
  obtain ⟨L, hL⟩ : ∃ L, L = es.length := ⟨_, rfl⟩
  obtain ⟨w1, hw1⟩ : ∃ w1, w1 = w.alloc (.cells #[.int .i64 m, .int .i64 k, .int .i64 s, .slice ao L cap] 24) := ⟨_, rfl⟩
  have hb1 : Below w.heap.size w w1 := by rw [hw1]; exact (Below.refl _ _).alloc (Nat.le_refl _) _
  have hg1 : w1.heap[w.heap.size]? = some (.cells #[.int .i64 m, .int .i64 k, .int .i64 s, .slice ao L cap] 24 (0, 0)) := by rw [hw1]; exact heap_alloc_new w _
  have hN := new_ok hS m k s _ es a w1 (hA.below hb1) (hv.below hb1) (by omega) hm hq
  rw [← hL] at hN ⊢
  unfold sysV at hN ⊢
  have hm1 : m ≤ 1000 := by have := (right_parts hq).1; omega
  have H1 : Hid _ := And.intro hw1 (And.intro hb1 (And.intro hg1 hN))
  obtain ⟨x0, x1, x2, x3⟩ := four_cells hg1
  clear hA hv hm hq hw1 hb1 hg1 hN hL
  go_enter Tryz.func34, Tryz.ntmps34
  go_upto_region 1 with fail
  rw [← H1.out.1]
  go_wp2_with fail
  refine Calls.mono H1.out.2.2.2 ?_
  rintro r w2 ⟨g, bs, bb, cs, cb, m', hm', rfl, hG2, hb2⟩
  obtain rfl : m = m' := by omega
  clear hm' x0 x1 x2 x3
  have hg2 := res_up6 hb2 H1.out.2.2.1
  obtain ⟨x0, x1, x2, x3⟩ := four_cells hg2
  have hmk := makeRS m (by omega) w2
  obtain ⟨w3, hw3⟩ : ∃ w3, w3 = (w2.alloc (.cells (madeV (.slice none 0 0) m) 114)).alloc (.cells #[.slice (some ⟨w2.heap.size, 0, none⟩) m m] 32) := ⟨_, rfl⟩
  have hb3 : Below w2.heap.size w2 w3 := by rw [hw3]; exact ((Below.refl _ _).alloc (Nat.le_refl _) _).alloc (by simp) _
  have hbx : w3.heap[w2.heap.size + 1]? = some (.cells #[.slice (some ⟨w2.heap.size, 0, none⟩) m m] 32 (0, 0)) := by
    rw [hw3]
    have h := heap_alloc_new (w2.alloc (.cells (madeV (.slice none 0 0) m) 114)) (.cells #[.slice (some ⟨w2.heap.size, 0, none⟩) m m] 32)
    rw [World.size_alloc] at h
    exact h
  have hA3 : Arr 114 w2 w3 w2.heap.size (List.replicate m (.slice none 0 0)) := by
    rw [hw3]
    exact (arr_new 114 (.slice none 0 0) rfl m w2).below ((Below.refl _ _).alloc (Nat.le_refl _) _)
  have H3 : Hid _ := And.intro hw3 (And.intro hb3 (And.intro hbx (And.intro hA3 (And.intro hG2 (And.intro hg2 (bel6 hb2 H1.out.2.1))))))
  have e1 : (w2.alloc (.cells (madeV (.slice none 0 0) m) 114)).heap.size = w2.heap.size + 1 := by simp
  clear hw3 hb3 hbx hA3 hG2 hg2 hb2
  go_upto_region 5 with fail
  rw [← H3.out.1]
  have y0 : w3.cell? ⟨w2.heap.size + 1, 0, none⟩ = some (.slice (some ⟨w2.heap.size, 0, none⟩) m m) := cell0_of H3.out.2.2.1 rfl
  clear hmk x0 x1 x2 x3 e1
  go_wp2_with fail
  clear y0
  go_loopg [21] m (fun q iv wr => ∃ (i : Nat) (us : List Value), q = m - i ∧ i ≤ m ∧ iv = .int .i64 i ∧ StAt w2 wr w2.heap.size m i us (outOf m es) ∧ wr.heap[w2.heap.size + 1]? = some (.cells #[.slice (some ⟨w2.heap.size, 0, none⟩) m m] 32 (0, 0)))
  case atStart => exact ⟨0, _, rfl, Nat.zero_le _, rfl, ⟨H3.out.2.2.2.1, by simp, fun j hj => by omega⟩, H3.out.2.2.1⟩
  case round =>
    obtain ⟨i, us, rfl, hi, rfl, hT, hbx⟩ := hrel
    obtain ⟨w4, rfl⟩ : ∃ w4, w4 = wr := ⟨_, rfl⟩
    by_cases hlt : i < m
    · have p0 : (0 : Int) ≤ (i : Int) := by omega
      have p1 : (i : Int) < (m : Int) := by omega
      have y0 : w4.cell? ⟨w2.heap.size + 1, 0, none⟩ = some (.slice (some ⟨w2.heap.size, 0, none⟩) m m) := cell0_of hbx rfl
      have hO := out_any (i : Int) w4.drew (H3.out.2.2.2.2.1.below (bel6 (Below.refl _ _).drew hT.arr.bl))
      obtain ⟨ux, hux⟩ : ∃ ux, us[i]? = some ux := ⟨us[i]'(by have := hT.len; omega), List.getElem?_eq_getElem _⟩
      have HT : Hid _ := And.intro hT (And.intro hbx (And.intro hO hux))
      clear hT hbx hO hux
      go_upto_region 8 with fail
      refine wp_region_held_drew (S := (fun w' => w'.cell? ⟨w2.heap.size + 1, 0, none⟩ = some (.slice (some ⟨w2.heap.size, 0, none⟩) m m) ∧ Hid (w'.heap[w2.heap.size + 1]? = some (.cells #[.slice (some ⟨w2.heap.size, 0, none⟩) m m] 32 (0, 0))))) (by kernel_rfl) ?_ (fun hHeld => ?_)
      · exact ⟨y0, HT.out.2.1⟩
      refine wpAnyH_take (i := 0) (oi := _) (v := ?_) rfl (by kernel_rfl) (by kernel_rfl) (by kernel_rfl) (fun _ _ _ h => h) (Or.inl ⟨by rfl, ?_⟩) (by assumption) ?_
      rotate_left
      · (intro w hSw; (try dsimp only at hSw); go_simp; (try with_reducible rfl))
      (try simp only [List.getElem_toArray, List.getElem_cons_succ, List.getElem_cons_zero, Act.put, List.setIfInBounds_toArray, List.set_cons_zero, List.set_cons_succ])
      refine wpAnyH_take (i := 1) (oi := _) (v := ?_) rfl (by kernel_rfl) (by kernel_rfl) (by kernel_rfl) (fun _ _ _ h => h) (Or.inl ⟨by rfl, ?_⟩) (by assumption) ?_
      rotate_left
      · (intro w hSw; (try dsimp only at hSw); go_simp; (try with_reducible rfl))
      (try simp only [List.getElem_toArray, List.getElem_cons_succ, List.getElem_cons_zero, Act.put, List.setIfInBounds_toArray, List.set_cons_zero, List.set_cons_succ])
      refine wpAnyH_take (i := 2) (oi := _) (v := ?_) rfl (by kernel_rfl) (by kernel_rfl) (by kernel_rfl) (fun _ _ _ h => h) (Or.inl ⟨by rfl, ?_⟩) (by assumption) ?_
      rotate_left
      · (intro w hSw; (try dsimp only at hSw); go_simp; (try with_reducible rfl))
      (try simp only [List.getElem_toArray, List.getElem_cons_succ, List.getElem_cons_zero, Act.put, List.setIfInBounds_toArray, List.set_cons_zero, List.set_cons_succ])
      refine wpAnyH_take (i := 3) (oi := _) (v := ?_) rfl (by kernel_rfl) (by kernel_rfl) (by kernel_rfl) (fun _ _ _ h => h) (Or.inl ⟨by rfl, ?_⟩) (by assumption) ?_
      rotate_left
      · (intro w hSw; (try dsimp only at hSw); go_simp; (try with_reducible rfl))
      (try simp only [List.getElem_toArray, List.getElem_cons_succ, List.getElem_cons_zero, Act.put, List.setIfInBounds_toArray, List.set_cons_zero, List.set_cons_succ])
      refine wpAnyH_ready (rs := [4]) (by kernel_rfl) (by simp) ?_
      refine AllReadyH.cons (o := _) rfl (fun K hK => ?_) ?_
      · (go_simp; go_at_call 96; refine Calls.mono HT.out.2.2.1 ?_; rintro r w5 ⟨u, rfl, hO5, hb5⟩; obtain ⟨au, cu, hu⟩ := row_shape hO5; have hb45 := bel6 hb5 (Below.refl w4.heap.size w4).drew; have H5 : Hid _ := And.intro hO5 (And.intro hb45 (HT.out.1.arr.below hb45)); generalize hLg : List.length _ = Lu at hu; subst hu; clear hO5 hb5 hLg; have cx := H5.out.2.2.cell HT.out.2.2.2; have cf := H5.out.2.2.free i)
        (try go_wp2_with fail)
        refine hK.out _ _ ?_ (fun hHeld => ?_)
        · exact ⟨cell_up y0 hb45, res_up6 hb45 HT.out.2.1⟩
        clear hK K
        (try simp only [List.getElem_toArray, List.getElem_cons_succ, List.getElem_cons_zero, Act.put, List.setIfInBounds_toArray, List.set_cons_zero, List.set_cons_succ])
        clear hb45
        refine wpAnyH_take (i := 5) (oi := _) (v := ?_) rfl (by kernel_rfl) (by kernel_rfl) (by kernel_rfl) (fun _ _ _ h => h) (Or.inl ⟨by rfl, ?_⟩) (by assumption) ?_
        rotate_left
        · (intro w hSw; (try dsimp only at hSw); go_simp; (try with_reducible rfl))
        (try simp only [List.getElem_toArray, List.getElem_cons_succ, List.getElem_cons_zero, Act.put, List.setIfInBounds_toArray, List.set_cons_zero, List.set_cons_succ])
        refine wpAnyH_ready (rs := [6]) (by kernel_rfl) (by simp) ?_
        refine AllReadyH.cons (o := _) rfl (fun K hK => ?_) ?_
        · (go_simp)
          (try go_wp2_with fail)
          refine hK.out _ _ ?_ (fun hHeld => ?_)
          · exact ⟨(cell_block (setCell_other _ (show w2.heap.size + 1 ≠ w2.heap.size by omega))).trans hHeld.1, (setCell_other _ (show w2.heap.size + 1 ≠ w2.heap.size by omega)).trans hHeld.2.out⟩
          clear hK K
          (try simp only [List.getElem_toArray, List.getElem_cons_succ, List.getElem_cons_zero, Act.put, List.setIfInBounds_toArray, List.set_cons_zero, List.set_cons_succ])
          refine wpAnyH_done (by kernel_rfl) ?_ _
          (try go_simp)
          have H6 : Hid _ := hHeld.2.out
          go_wp2_with fail
          go_roundg (m - (i + 1))
          case measure => omega
          case rel => exact ⟨i + 1, _, rfl, by omega, by go_num, HT.out.1.step hlt H5.out.2.1 H5.out.1, H6.out⟩
        exact AllReadyH.nil
      exact AllReadyH.nil
    · obtain rfl : i = m := by omega
      have p1 : ¬ (i : Int) < (i : Int) := by omega
      have HT : Hid _ := And.intro hT hbx
      clear hT hbx
      go_wp2_with fail
      go_ret2
      have hg := res_up6 HT.out.1.arr.bl H3.out.2.2.2.2.2.1
      exact ⟨_, _, rfl, _, ⟨bel6 HT.out.1.arr.bl H3.out.2.2.2.2.2.2, t_lt hg, t_lt HT.out.2, cell0_of hg rfl, cell0_of HT.out.2 rfl, HT.out.1.done⟩⟩
set_option maxRecDepth 100000 in
set_option maxHeartbeats 4000000 in
theorem roundsOf_bad (hS : SortOk 1000000) (n k s : Int) (v : Value) (es : List Sy.Ed) (a : Addr) (w : World) (hA : Sent w 14 a) (hv : BEdges.Has w v es) (hm : es.length ≤ 100000) (hq : Sy.right n k s es = false) :
    Calls Tryz.prog 34 #[sysV n k s v] w fun r w' => ∃ T u, r = .returned (.tuple #[.nilFunc, .iface T u]) ∧ Chain w' 0 0 a [sysB] (.iface T u) ∧ Below w.heap.size w w' := by
  have hv0 := hv
  obtain ⟨ao, cap, rfl, _⟩ := hv0
  obtain ⟨L, hL⟩ : ∃ L, L = es.length := ⟨_, rfl⟩
  obtain ⟨w1, hw1⟩ : ∃ w1, w1 = w.alloc (.cells #[.int .i64 n, .int .i64 k, .int .i64 s, .slice ao L cap] 24) := ⟨_, rfl⟩
  have hb1 : Below w.heap.size w w1 := by rw [hw1]; exact (Below.refl _ _).alloc (Nat.le_refl _) _
  have hg1 : w1.heap[w.heap.size]? = some (.cells #[.int .i64 n, .int .i64 k, .int .i64 s, .slice ao L cap] 24 (0, 0)) := by rw [hw1]; exact heap_alloc_new w _
  have hN := new_bad hS n k s _ es a w1 (hA.below hb1) (hv.below hb1) (by omega) hm hq
  rw [← hL] at hN ⊢
  unfold sysV at hN ⊢
  have H1 : Hid _ := And.intro hw1 (And.intro hb1 hN)
  obtain ⟨x0, x1, x2, x3⟩ := four_cells hg1
  clear hA hv hm hq hw1 hb1 hg1 hN hL
  go_enter Tryz.func34, Tryz.ntmps34
  go_upto_region 1 with fail
  rw [← H1.out.1]
  go_wp2_with fail
  refine Calls.mono H1.out.2.2 ?_
  rintro r w2 ⟨x, rfl, hC, hb2⟩
  obtain ⟨T, u, rfl⟩ := hC.iface
  have H2 : Hid _ := And.intro hC (bel6 hb2 H1.out.2.1)
  clear hC hb2
  go_wp2_with fail
  go_ret2
  exact ⟨_, _, rfl, H2.out.1, H2.out.2⟩
end Go.Proofs.YtpmanmoljlhogaaGreatDoor
/- Contracts of what the document tells of a system that is none, and of the law's Light. -/
namespace Go.Proofs.YtpmanmoljlhogaaGreatDoor
open Go.RowKit Go.Maps
attribute [local go_sem ↓] Go.wp_at_zero Go.wp_at_succ
def rndB1 : ByteArray := ⟨#[114, 111, 117, 110, 100, 115, 32]⟩
def rndB2 : ByteArray := ⟨#[114, 111, 117, 110, 100, 115, 32, 115, 121, 115, 116, 101, 109, 32]⟩
theorem rnd_join1 : joinS ⟨#[]⟩ [rndB] = rndB1 := by decide
theorem rnd_join2 : joinS ⟨#[]⟩ [rndB, sysB] = rndB2 := by decide
/-- The document's error at a call of this layer. -/
def hndV (ok : Bool) : Value := if ok then .agg #[.int .i64 0, .int .i64 0, .int .i64 0, .string ⟨#[]⟩] else .agg #[.int .i64 14, .int .i64 0, .int .i64 0, .string rndB2]
set_option maxHeartbeats 1000000 in
theorem badRnd (k : Int) (w : World) : Calls Tryz.prog 18 #[.string ⟨#[114, 111, 117, 110, 100, 115]⟩, .int .i64 k] w fun e w' => e = .returned (.agg #[.int .i64 k, .int .i64 0, .int .i64 0, .string rndB1]) ∧ Below w.heap.size w w' := by
  have zs : (⟨#[114, 111, 117, 110, 100, 115]⟩ ++ ⟨#[32]⟩ : ByteArray) = rndB1 := by decide
  go_enter Tryz.func18, Tryz.ntmps18
  go_wp2
  exact bodyPost_ret (v := .agg #[.int .i64 k, .int .i64 0, .int .i64 0, .string rndB1]) (by simp [results, Tryz.results18, go_sem]) rfl ⟨rfl, (Below.refl _ _).alloc (Nat.le_refl _) _⟩
set_option maxRecDepth 100000 in
set_option maxHeartbeats 2000000 in
theorem on_rnd (ok : Bool) (w : World) : Calls Tryz.prog 29 #[.string ⟨#[114, 111, 117, 110, 100, 115]⟩, chkV ok] w fun e w' => e = .returned (hndV ok) ∧ Below w.heap.size w w' := by
  cases ok with
  | true =>
    show Calls Tryz.prog 29 #[.string ⟨#[114, 111, 117, 110, 100, 115]⟩, .agg #[.int .i64 0, .int .i64 0, .int .i64 0, .string ⟨#[]⟩]] w fun e w' => e = .returned (.agg #[.int .i64 0, .int .i64 0, .int .i64 0, .string ⟨#[]⟩]) ∧ Below w.heap.size w w'
    go_enter Tryz.func29, Tryz.ntmps29
    go_wp2
    refine bodyPost_ret (v := .agg #[.int .i64 0, .int .i64 0, .int .i64 0, .string ⟨#[]⟩]) (by simp [results, Tryz.results29, go_sem]) rfl ⟨rfl, ?_⟩
    first
      | exact ((Below.refl _ _).alloc (Nat.le_refl _) _).alloc (by simp) _
      | exact four_below (((Below.refl _ _).alloc (Nat.le_refl _) _).alloc (by simp) _) (by simp) _ _ _ _
  | false =>
    have zs : (⟨#[114, 111, 117, 110, 100, 115]⟩ ++ ⟨#[32]⟩ : ByteArray) = rndB1 := by decide
    have zt : rndB1 ++ sysB1 = rndB2 := by decide
    show Calls Tryz.prog 29 #[.string ⟨#[114, 111, 117, 110, 100, 115]⟩, .agg #[.int .i64 14, .int .i64 0, .int .i64 0, .string sysB1]] w fun e w' => e = .returned (.agg #[.int .i64 14, .int .i64 0, .int .i64 0, .string rndB2]) ∧ Below w.heap.size w w'
    go_enter Tryz.func29, Tryz.ntmps29
    go_wp2
    refine bodyPost_ret (v := .agg #[.int .i64 14, .int .i64 0, .int .i64 0, .string rndB2]) (by simp [results, Tryz.results29, go_sem]) rfl ⟨rfl, ?_⟩
    first
      | exact ((Below.refl _ _).alloc (Nat.le_refl _) _).alloc (by simp) _
      | exact (((Below.refl _ _).alloc (Nat.le_refl _) _).alloc (by simp) _).setCell (by simp) _
      | exact four_below (((((Below.refl _ _).alloc (Nat.le_refl _) _).alloc (by simp) _)).setCell (by simp) _) (by simp) _ _ _ _
set_option maxRecDepth 100000 in
set_option maxHeartbeats 2000000 in
theorem handed_rnd (n k s : Int) (v : Value) (es : List Sy.Ed) (w : World) (hv : BEdges.Has w v es) :
    Calls Tryz.prog 10 #[.string ⟨#[114, 111, 117, 110, 100, 115]⟩, sysV n k s v] w fun e w' => e = .returned (hndV (Sy.right n k s es)) ∧ Below w.heap.size w w' := by
  obtain ⟨w1, hw1⟩ : ∃ w1, w1 = (w.alloc (.cells #[.int .i64 n, .int .i64 k, .int .i64 s, v] 24)).alloc (.cells #[.int .i64 0, .int .i64 0, .int .i64 0, .string ⟨#[]⟩] 42) := ⟨_, rfl⟩
  have hb1 : Below w.heap.size w w1 := by rw [hw1]; exact ((Below.refl _ _).alloc (Nat.le_refl _) _).alloc (by simp) _
  have hR := refCheck_any n k s v es w1 (hv.below hb1)
  have hg : w1.heap[w.heap.size + 1]? = some (.cells #[.int .i64 0, .int .i64 0, .int .i64 0, .string ⟨#[]⟩] 42 (0, 0)) := by rw [hw1]; exact two_alloc w _ _
  obtain ⟨ok, hok⟩ : ∃ ok, ok = Sy.right n k s es := ⟨_, rfl⟩
  rw [← hok] at hR ⊢
  have H1 : Hid _ := And.intro hR (And.intro hb1 (And.intro hg hw1))
  obtain ⟨ao, cap, rfl, _⟩ := hv
  clear hR hb1 hg hw1 hok
  unfold sysV at H1 ⊢
  go_enter Tryz.func10, Tryz.ntmps10
  go_wp2_with fail
  rw [← H1.out.2.2.2]
  refine Calls.mono H1.out.1 ?_
  rintro e w2 ⟨rfl, hb2⟩
  have H2 : Hid (Below w1.heap.size w1 w2) := hb2
  clear hb2
  go_wp2_with fail
  refine Calls.mono (on_rnd ok w2) ?_
  rintro e w3 ⟨rfl, hb3⟩
  have hb13 := bel6 hb3 H2.out
  have hg2 := (hb13.block _ (t_lt H1.out.2.2.1)).trans H1.out.2.2.1
  obtain ⟨y0, y1, y2, y3⟩ := four_cells hg2
  have z0 := blk_free hg2 0
  have z1 := blk_free hg2 1
  have z2 := blk_free hg2 2
  have z3 := blk_free hg2 3
  have H3 : Hid _ := And.intro (bel6 hb13 H1.out.2.1) hg2
  clear hb3 hb13 hg2
  cases ok with
  | true =>
    rw [show hndV true = .agg #[.int .i64 0, .int .i64 0, .int .i64 0, .string ⟨#[]⟩] from rfl]
    go_wp2_with fail
    have hgf := four_set (a0 := .int .i64 0) (a1 := .int .i64 0) (a2 := .int .i64 0) (a3 := .string ⟨#[]⟩) H3.out.2
    have hbf := four_below H3.out.1 (b := w.heap.size + 1) (by omega) (.int .i64 0) (.int .i64 0) (.int .i64 0) (.string ⟨#[]⟩)
    generalize ((((w3.setCell ⟨w.heap.size + 1, 0, none⟩ (.int .i64 0)).setCell ⟨w.heap.size + 1, 1, none⟩ (.int .i64 0)).setCell ⟨w.heap.size + 1, 2, none⟩ (.int .i64 0)).setCell ⟨w.heap.size + 1, 3, none⟩ (.string ⟨#[]⟩)) = wf at hgf hbf ⊢
    obtain ⟨c0, c1, c2, c3⟩ := four_cells hgf
    exact bodyPost_ret (v := .agg #[.int .i64 0, .int .i64 0, .int .i64 0, .string ⟨#[]⟩]) (by simp [results, Tryz.results10, go_sem, c0, c1, c2, c3]) rfl ⟨rfl, hbf⟩
  | false =>
    rw [show hndV false = .agg #[.int .i64 14, .int .i64 0, .int .i64 0, .string rndB2] from rfl]
    go_wp2_with fail
    have hgf := four_set (a0 := .int .i64 14) (a1 := .int .i64 0) (a2 := .int .i64 0) (a3 := .string rndB2) H3.out.2
    have hbf := four_below H3.out.1 (b := w.heap.size + 1) (by omega) (.int .i64 14) (.int .i64 0) (.int .i64 0) (.string rndB2)
    generalize ((((w3.setCell ⟨w.heap.size + 1, 0, none⟩ (.int .i64 14)).setCell ⟨w.heap.size + 1, 1, none⟩ (.int .i64 0)).setCell ⟨w.heap.size + 1, 2, none⟩ (.int .i64 0)).setCell ⟨w.heap.size + 1, 3, none⟩ (.string rndB2)) = wf at hgf hbf ⊢
    obtain ⟨c0, c1, c2, c3⟩ := four_cells hgf
    exact bodyPost_ret (v := .agg #[.int .i64 14, .int .i64 0, .int .i64 0, .string rndB2]) (by simp [results, Tryz.results10, go_sem, c0, c1, c2, c3]) rfl ⟨rfl, hbf⟩
/-- Is a system light? -/
def lightB (n : Int) (m : Nat) (ok : Bool) : Bool := decide (n ≤ 200) && decide (m ≤ 1500) || !ok && decide (m ≤ 11000)
set_option maxRecDepth 100000 in
set_option maxHeartbeats 2000000 in
theorem light_any (n k s : Int) (v : Value) (es : List Sy.Ed) (w : World) (hv : BEdges.Has w v es) :
    Calls Tryz.prog 8 #[sysV n k s v] w fun e w' => e = .returned (.bool (lightB n es.length (Sy.right n k s es))) ∧ Below w.heap.size w w' := by
  obtain ⟨w1, hw1⟩ : ∃ w1, w1 = w.alloc (.cells #[.int .i64 n, .int .i64 k, .int .i64 s, v] 24) := ⟨_, rfl⟩
  have hb1 : Below w.heap.size w w1 := by rw [hw1]; exact (Below.refl _ _).alloc (Nat.le_refl _) _
  have hg1 : w1.heap[w.heap.size]? = some (.cells #[.int .i64 n, .int .i64 k, .int .i64 s, v] 24 (0, 0)) := by rw [hw1]; exact heap_alloc_new w _
  have hR := right_any n k s v es w1 (hv.below hb1)
  obtain ⟨ok, hok⟩ : ∃ ok, ok = Sy.right n k s es := ⟨_, rfl⟩
  obtain ⟨m, hm⟩ : ∃ m, m = es.length := ⟨_, rfl⟩
  obtain ⟨ao, cap, rfl, _⟩ := hv
  rw [← hok] at hR ⊢
  rw [← hm] at hR hw1 hg1 ⊢
  have H1 : Hid _ := And.intro hR (And.intro hb1 (And.intro hw1 hg1))
  obtain ⟨x0, x1, x2, x3⟩ := four_cells hg1
  clear hR hb1 hw1 hok hm hg1
  unfold sysV at H1 ⊢
  by_cases h1 : n ≤ 200
  · by_cases h2 : m ≤ 1500
    · have e1 : decide (n ≤ 200) = true := decide_eq_true h1
      have e2 : decide (m ≤ 1500) = true := decide_eq_true h2
      have e3 : decide ((m : Int) ≤ 1500) = true := by simp; omega
      have e4 : lightB n m ok = true := by unfold lightB; rw [e1, e2]; rfl
      rw [e4]
      clear h1 h2 e4
      go_enter Tryz.func8, Tryz.ntmps8
      go_upto_region 1 with fail
      rw [← H1.out.2.2.1]
      go_wp2_with fail
      go_ret
      exact ⟨rfl, H1.out.2.1⟩
    · have e1 : decide (n ≤ 200) = true := decide_eq_true h1
      have e2 : decide (m ≤ 1500) = false := decide_eq_false h2
      have e3 : decide ((m : Int) ≤ 1500) = false := by simp; omega
      cases ok with
      | true =>
        have e4 : lightB n m true = false := by unfold lightB; rw [e1, e2]; rfl
        rw [e4]
        clear h1 h2 e4
        go_enter Tryz.func8, Tryz.ntmps8
        go_upto_region 1 with fail
        rw [← H1.out.2.2.1]
        go_wp2_with fail
        refine Calls.mono H1.out.1 ?_
        rintro r w2 ⟨rfl, hb2⟩
        have HB : Hid (Below w1.heap.size w1 w2) := hb2
        clear hb2
        go_wp2_with fail
        go_ret
        exact ⟨rfl, bel6 HB.out H1.out.2.1⟩
      | false =>
        have e4 : lightB n m false = decide ((m : Int) ≤ 11000) := by unfold lightB; rw [e1, e2]; simp; omega
        rw [e4]
        clear h1 h2 e4
        go_enter Tryz.func8, Tryz.ntmps8
        go_upto_region 1 with fail
        rw [← H1.out.2.2.1]
        go_wp2_with fail
        refine Calls.mono H1.out.1 ?_
        rintro r w2 ⟨rfl, hb2⟩
        obtain ⟨y0, y1, y2, y3⟩ := four_cells (res_up6 hb2 H1.out.2.2.2)
        have HB : Hid (Below w1.heap.size w1 w2) := hb2
        clear hb2
        go_wp2_with fail
        go_ret
        exact ⟨rfl, bel6 HB.out H1.out.2.1⟩
  · have e1 : decide (n ≤ 200) = false := decide_eq_false h1
    have e2 : decide (m ≤ 1500) = decide (m ≤ 1500) := rfl
    have h2 : True := trivial
    cases ok with
    | true =>
      have e4 : lightB n m true = false := by unfold lightB; rw [e1]; simp
      rw [e4]
      clear h1 h2 e4
      go_enter Tryz.func8, Tryz.ntmps8
      go_upto_region 1 with fail
      rw [← H1.out.2.2.1]
      go_wp2_with fail
      refine Calls.mono H1.out.1 ?_
      rintro r w2 ⟨rfl, hb2⟩
      have HB : Hid (Below w1.heap.size w1 w2) := hb2
      clear hb2
      go_wp2_with fail
      go_ret
      exact ⟨rfl, bel6 HB.out H1.out.2.1⟩
    | false =>
      have e4 : lightB n m false = decide ((m : Int) ≤ 11000) := by unfold lightB; rw [e1]; simp; omega
      rw [e4]
      clear h1 h2 e4
      go_enter Tryz.func8, Tryz.ntmps8
      go_upto_region 1 with fail
      rw [← H1.out.2.2.1]
      go_wp2_with fail
      refine Calls.mono H1.out.1 ?_
      rintro r w2 ⟨rfl, hb2⟩
      obtain ⟨y0, y1, y2, y3⟩ := four_cells (res_up6 hb2 H1.out.2.2.2)
      have HB : Hid (Below w1.heap.size w1 w2) := hb2
      clear hb2
      go_wp2_with fail
      go_ret
      exact ⟨rfl, bel6 HB.out H1.out.2.1⟩
end Go.Proofs.YtpmanmoljlhogaaGreatDoor
/- The document's insertion of a number into rising numbers: plain facts, and what it writes. -/
namespace Go.Proofs.YtpmanmoljlhogaaGreatDoor
open Go.RowKit Go.Maps
/-- A number's place is found: the list is as it will be. -/
def Ro.putAt (O : List Int) (k : Nat) (v : Int) : List Int := O.take k ++ v :: O.drop k
theorem Ro.putAt_len {O : List Int} {k : Nat} (v : Int) (h : k ≤ O.length) : (Ro.putAt O k v).length = O.length + 1 := by
  simp [Ro.putAt]; omega
theorem Ro.putAt_end (O : List Int) (v : Int) : Ro.putAt O O.length v = O ++ [v] := by simp [Ro.putAt]
theorem Ro.putAt_at {O : List Int} {k : Nat} (v : Int) (h : k ≤ O.length) : (Ro.putAt O k v)[k]? = some v := by
  unfold Ro.putAt
  rw [List.getElem?_append_right (by simp; omega), List.length_take, Nat.min_eq_left h, Nat.sub_self]; rfl
theorem Ro.putAt_ahead {O : List Int} {k j : Nat} (v : Int) (h : k ≤ O.length) (hj : j < k) : (Ro.putAt O k v)[j]? = O[j]? := by
  unfold Ro.putAt
  rw [List.getElem?_append_left (by simp; omega), List.getElem?_take_of_lt hj]
theorem Ro.putAt_set {O : List Int} {k : Nat} (v u : Int) (h : k ≤ O.length) : (Ro.putAt O k v).set k u = Ro.putAt O k u := by
  unfold Ro.putAt
  rw [List.set_append_right _ _ (by simp; omega), List.length_take, Nat.min_eq_left h, Nat.sub_self, List.set_cons_zero]
/-- A number moves up by one place. -/
theorem Ro.putAt_up {O : List Int} {j : Nat} (v y : Int) (h : O[j]? = some y) : (Ro.putAt O (j + 1) v).set (j + 1) y = Ro.putAt O j y := by
  have hl := (List.getElem?_eq_some_iff.1 h).1
  rw [Ro.putAt_set _ _ (by omega)]
  unfold Ro.putAt
  rw [take_succ_of h, List.append_assoc]
  congr 1
  obtain ⟨_, rfl⟩ := List.getElem?_eq_some_iff.1 h
  rw [List.drop_eq_getElem_cons hl]; rfl
/-- The numbers behind a place are greater, that ahead of it is less: there the number goes. -/
theorem Ro.putAt_rise {O : List Int} {k : Nat} {v : Int} (hO : Ro.Rise O) (hk : k ≤ O.length) (h1 : ∀ (j : Nat) (y : Int), k ≤ j → O[j]? = some y → v < y) (h2 : ∀ (j : Nat) (y : Int), k = j + 1 → O[j]? = some y → y < v) : Ro.Rise (Ro.putAt O k v) := by
  have hT : ∀ x ∈ O.take k, x < v := fun x hx => by
    cases k with
    | zero => simp at hx
    | succ j =>
      obtain ⟨y, hy⟩ : ∃ y, O[j]? = some y := ⟨O[j]'(by omega), List.getElem?_eq_getElem _⟩
      have h3 := h2 j y rfl hy
      rw [take_succ_of hy] at hx
      rcases List.mem_append.1 hx with hx | hx
      · have h4 : Ro.Rise (O.take (j + 1)) := List.Pairwise.sublist (List.take_sublist _ _) hO
        rw [take_succ_of hy] at h4
        have := (List.pairwise_append.1 h4).2.2 x hx y List.mem_cons_self
        omega
      · rw [List.mem_singleton.1 hx]; exact h3
  have hD : ∀ x ∈ O.drop k, v < x := fun x hx => by
    obtain ⟨i, hi⟩ := List.mem_iff_getElem?.1 hx
    rw [List.getElem?_drop] at hi
    exact h1 (k + i) x (by omega) hi
  unfold Ro.putAt Ro.Rise
  refine List.pairwise_append.2 ⟨List.Pairwise.sublist (List.take_sublist _ _) hO, List.pairwise_cons.2 ⟨hD, List.Pairwise.sublist (List.drop_sublist _ _) hO⟩, fun a ha b hb => ?_⟩
  rcases List.mem_cons.1 hb with rfl | hb
  · exact hT a ha
  · have := hT a ha; have := hD b hb; omega
theorem Ro.putAt_mem {O : List Int} {k : Nat} {v x : Int} : x ∈ Ro.putAt O k v ↔ x ∈ O ∨ x = v := by
  have h : x ∈ O ↔ x ∈ O.take k ∨ x ∈ O.drop k := by rw [← List.mem_append, List.take_append_drop]
  unfold Ro.putAt
  rw [List.mem_append, List.mem_cons, h]
  constructor
  · rintro (h | h | h) <;> simp [h]
  · rintro ((h | h) | h) <;> simp [h]
theorem Ro.sd_put {E : List Int} {k : Nat} {v : Int} (hk : k ≤ (Ro.sd E).length) (h1 : ∀ (j : Nat) (y : Int), k ≤ j → (Ro.sd E)[j]? = some y → v < y) (h2 : ∀ (j : Nat) (y : Int), k = j + 1 → (Ro.sd E)[j]? = some y → y < v) : Ro.putAt (Ro.sd E) k v = Ro.sd (E ++ [v]) :=
  Ro.sd_of (Ro.putAt_rise (Ro.sd_rise E) hk h1 h2) fun x => by rw [Ro.putAt_mem, Ro.mem_sd]; simp
theorem Ro.sd_in {E : List Int} {v : Int} (h : v ∈ Ro.sd E) : Ro.sd (E ++ [v]) = Ro.sd E := Ro.sd_eq.2 fun x => by
  have h1 := Ro.mem_sd.1 h
  simp only [List.mem_append, List.mem_singleton]
  exact ⟨fun h2 => h2.elim id fun e => by rw [e]; exact h1, .inl⟩
theorem OwnI.put {w : World} {B g n cap : Nat} {zs : List Int} (h : OwnI w B (.slice (some ⟨g, 0, none⟩) n cap) zs) (hn : n = zs.length) (j : Nat) (u : Int) : OwnI (w.setCell ⟨g, j, none⟩ (.int .i64 u)) B (.slice (some ⟨g, 0, none⟩) n cap) (zs.set j u) := by
  subst hn
  have h1 := (World.ownsRow.stored h j (.int .i64 u)).1
  unfold OwnI
  rw [List.length_set, show iC (zs.set j u) = (iC zs).set j (.int .i64 u) by simp [iC, List.map_set]]
  exact h1
theorem OwnI.free {w : World} {B g n cap : Nat} {zs : List Int} (h : OwnI w B (.slice (some ⟨g, 0, none⟩) n cap) zs) (hn : n = zs.length) (j : Nat) : w.frozen? ⟨g, j, none⟩ = false := by
  subst hn
  exact World.ownsRow.frozenAt h j
end Go.Proofs.YtpmanmoljlhogaaGreatDoor
/- Contract of the document's signature: the ends of steps as rising numbers, each once. -/
namespace Go.Proofs.YtpmanmoljlhogaaGreatDoor
open Go.RowKit Go.Maps
attribute [local go_sem ↓] Go.wp_at_zero Go.wp_at_succ
set_option maxRecDepth 100000 in
set_option maxHeartbeats 8000000 in
theorem docSig_any (n : Nat) (c : List Nat) (zs : List Ro.St) (vs vc : Value) (w : World) (hn : n ≤ 1000) (hc : c.length = n) (hcl : ∀ u ∈ c, u < n) (hz : ∀ z ∈ zs, (0 ≤ z.1 ∧ z.1 ≤ 300) ∧ 0 ≤ z.2 ∧ z.2 < (n : Int)) (hzl : zs.length ≤ 10000) (hs : BSteps.Has w vs zs) (hv : HasI w vc (natI c)) :
    Calls Tryz.prog 92 #[vs, vc] w fun r w' => ∃ u, r = .returned u ∧ OwnI w' w.heap.size u (Ro.sd (Ro.ends 1001 c zs)) ∧ Below w.heap.size w w' := by
  obtain ⟨i0, hi0, hz0, hz1, hz2⟩ := info_parts Tryz.infoI4
  have hs0 := hs
  obtain ⟨av, cs, rfl, _⟩ := hs0
  obtain ⟨ac, cc, rfl, hcs⟩ := hv
  obtain ⟨N, hN⟩ : ∃ N, N = zs.length := ⟨_, rfl⟩
  have hcn : (natI c).length = n := by simp [natI, hc]
  rw [hcn]
  rw [← hN] at hs hzl ⊢
  have HH : Hid _ := And.intro hs (And.intro hcs (And.intro hc (And.intro hcl (And.intro hz hN))))
  clear hs hcs hc hcl hz hN hcn
  go_enter Tryz.func92, Tryz.ntmps92
  go_wp2_with fail
  go_loopg [5, 6] N (fun q uv iv wr => ∃ i : Nat, q = N - i ∧ i ≤ N ∧ iv = .int .i64 i ∧ OwnI wr w.heap.size uv (Ro.sd (Ro.ends 1001 c (zs.take i))) ∧ Below w.heap.size w wr)
  case atStart => exact ⟨0, rfl, Nat.zero_le _, rfl, World.ownsRow_nil _ _ _ _, Below.refl _ _⟩
  case round =>
    obtain ⟨i, rfl, hi, rfl, hO, hb⟩ := hrel
    obtain ⟨au, cu, hu⟩ := row_shape hO
    obtain ⟨O, hOe⟩ : ∃ O, O = Ro.sd (Ro.ends 1001 c (zs.take i)) := ⟨_, rfl⟩
    obtain ⟨M, hM⟩ : ∃ M, M = O.length := ⟨_, rfl⟩
    rw [← hOe, ← hM] at hu
    obtain rfl := hu
    rw [← hOe] at hO
    by_cases hlt : i < N
    · obtain ⟨⟨l, t0⟩, hzi⟩ : ∃ z, zs[i]? = some z := ⟨zs[i]'(by have := HH.out.2.2.2.2.2; omega), List.getElem?_eq_getElem _⟩
      have hzb := HH.out.2.2.2.2.1 _ (List.mem_of_getElem? hzi)
      simp only at hzb
      obtain ⟨t, rfl⟩ : ∃ t : Nat, t0 = (t : Int) := ⟨t0.toNat, by omega⟩
      obtain ⟨x, hx⟩ : ∃ x, c[t]? = some x := ⟨c[t]'(by have := HH.out.2.2.1; omega), List.getElem?_eq_getElem _⟩
      have hxn := HH.out.2.2.2.1 x (List.mem_of_getElem? hx)
      have hst := ends_take (n := 1001) (c := c) hzi
      have hcx : Ro.cl c (t : Int) = x := by unfold Ro.cl; rw [Int.toNat_natCast, hx]; rfl
      simp only [hcx] at hst
      obtain ⟨a, rfl, d0, d1⟩ := step_at (HH.out.1.below hb) hzi
      simp only at d0 d1
      obtain ⟨a2, rfl, d2⟩ := HH.out.2.1 t (x : Int) (by simp [natI, hx])
      have d3 : wr.cell? (a2.add t) = some (.int .i64 x) := (hb.cell (World.block_lt_of_cell? w _ d2)).trans d2
      have hMl : M ≤ 10000 := by
        have h1 := Ro.sd_len (Ro.ends 1001 c (zs.take i))
        rw [← hOe, ← hM] at h1
        have h2 : (Ro.ends 1001 c (zs.take i)).length ≤ i := by simp [Ro.ends]; omega
        omega
      have p0 : (0 : Int) ≤ (i : Int) := by omega
      have p1 : (i : Int) < (N : Int) := by omega
      have p2 : (0 : Int) ≤ (t : Int) := by omega
      have p3 : (t : Int) < (n : Int) := by omega
      have hm2 : IntKind.i64.wrap (l * 1001) = l * 1001 := by rw [IntKind.wrap_i64]; omega
      have hm3 : IntKind.i64.wrap (l * 1001 + (x : Int)) = l * 1001 + (x : Int) := by rw [IntKind.wrap_i64]; omega
      have HO0 : Hid _ := And.intro hO (And.intro hb (And.intro hst (And.intro hM hOe)))
      clear hO hb hst hM hOe hzi hx hcx d2 hzb hxn
      go_wp2_with fail
      go_quiet (fail)
      rename Nat => nq
      obtain ⟨wq, hwq⟩ : ∃ wq, wq = wr.drewN nq := ⟨_, rfl⟩
      have hbq : Below wr.heap.size wr wq := by rw [hwq]; exact below_drewN (Below.refl _ _) _
      have hOq : wq.ownsRow w.heap.size 3 1 (.slice au M cu) M (iC O) := by
        have h1 : wr.ownsRow w.heap.size 3 1 (.slice au M cu) M (iC O) := by have h1 := HO0.out.1; unfold OwnI at h1; rw [← HO0.out.2.2.2.1] at h1; exact h1
        exact trow_at h1 fun b hb => hbq.block b (h1.lt b hb).2
      have hbw : Below w.heap.size w wq := HO0.out.2.1.trans (hbq.mono HO0.out.2.1.size)
      obtain ⟨v, hv⟩ : ∃ v, v = l * 1001 + (x : Int) := ⟨_, rfl⟩
      have hst2 : Ro.ends 1001 c (zs.take (i + 1)) = Ro.ends 1001 c (zs.take i) ++ [v] := by rw [hv]; exact HO0.out.2.2.1
      have HO : Hid _ := And.intro hOq (And.intro hbw (And.intro trivial (And.intro HO0.out.2.2.2.1 (And.intro HO0.out.2.2.2.2 (congrArg Ro.sd hst2)))))
      rw [← hwq]
      rw [← hv] at hm3 ⊢
      clear hwq hbq hOq hbw hv hst2 HO0 d0 d1 d3 hm2 hm3
      go_wp2_with fail
      go_loopg [8] M (fun q kv wr => ∃ k : Nat, k = q ∧ kv = .int .i64 k ∧ wq = wr ∧ (k ≤ M ∧ ∀ (j : Nat) (y : Int), k ≤ j → O[j]? = some y → v < y))
      case atStart => exact ⟨M, rfl, rfl, rfl, Nat.le_refl _, fun j y h1 h2 => by have := (List.getElem?_eq_some_iff.1 h2).1; have := HO.out.2.2.2.1; omega⟩
      case round =>
        obtain ⟨k, rfl, rfl, rfl, hK⟩ := hrel
        have hkM : k ≤ M := hK.1
        have HK : Hid (k ≤ M ∧ ∀ (j : Nat) (y : Int), k ≤ j → O[j]? = some y → v < y) := hK
        clear hK
        by_cases hk0 : k = 0
        · have f1 : ¬ (0 : Int) < (k : Int) := by omega
          have f2 : decide ((0 : Int) < (k : Int)) = false := decide_eq_false f1
          have f3 : decide (0 < k) = false := by simp [hk0]
          have H0 : Hid (k = 0) := hk0
          clear hk0
          have hml : M + 1 ≤ maxLen := by unfold maxLen; omega
          have hby : (M + 1) * 8 ≤ 140737488355328 := by omega
          have hle : w.heap.size ≤ (wq.alloc (.cells #[.int .i64 0] 3)).heap.size := by have := HO.out.2.1.size; simp; omega
          have e7 : IntKind.i64.wrap ((M : Int) + 1 - 1) = (M : Int) := by rw [IntKind.wrap_i64]; omega
          have e8 : (M : Int) + 1 - 1 = (M : Int) := by omega
          have e9 : IntKind.i64.wrap (M : Int) = (M : Int) := by rw [IntKind.wrap_i64]; omega
          go_wp2_with (at_builtin; refine wpList_append_own_at _ rfl _ _ 57 rfl w.heap.size 3 i0 (.int .i64 0) 1 8 Tryz.underlying57 hi0 hz0 hz1 hz2 rfl (by decide) (.slice au M cu) M (iC O) rfl (HO.out.1.alloc _) ⟨wq.heap.size, 0, none⟩ 1 1 [.int .i64 0] rfl rfl (World.news_of_block (cs := #[.int .i64 0]) (t := 3) (fr := (0, 0)) (heap_alloc_new wq _)) (by simp [Value.oneCell']) hml hby hle ?_; intro v5 w5 hO5 hg5 hnil5 hat5; obtain ⟨g5, cap5, rfl⟩ := ownsRow_succ hO5; have H5 : Hid _ := And.intro hO5 hg5; clear hO5 hg5 hnil5 hat5)
          have hO5 : OwnI w5 w.heap.size (.slice (some ⟨g5, 0, none⟩) (M + 1) cap5) (Ro.putAt O M 0) := by
            have h1 := H5.out.1
            rw [HO.out.2.2.2.1, Ro.putAt_end, ← HO.out.2.2.2.1]
            unfold OwnI
            rw [iC_snoc, List.length_append, ← HO.out.2.2.2.1]
            exact h1
          have hb5 : Below w.heap.size w w5 := HO.out.2.1.trans ((grown_alloc H5.out.2).below HO.out.2.1.size fun b hb => (HO.out.1.lt b hb).1)
          have H6 : Hid _ := And.intro hO5 hb5
          clear hO5 hb5 H5
          go_loopg [9] M (fun q jv wr => ∃ (j : Nat) (X : Int), j = q ∧ k ≤ j ∧ j ≤ M ∧ jv = .int .i64 j ∧ OwnI wr w.heap.size (.slice (some ⟨g5, 0, none⟩) (M + 1) cap5) (Ro.putAt O j X) ∧ Below w.heap.size w wr)
          case atStart => exact ⟨M, 0, rfl, HK.out.1, Nat.le_refl _, rfl, H6.out.1, H6.out.2⟩
          case round =>
            obtain ⟨j, X, rfl, hkj, hjM, rfl, hOj, hbj⟩ := hrel
            have hpl : (Ro.putAt O j X).length = M + 1 := by rw [Ro.putAt_len _ (by have := HO.out.2.2.2.1; omega), ← HO.out.2.2.2.1]
            by_cases hjk : k < j
            · obtain ⟨j', hj'⟩ : ∃ j', j = j' + 1 := ⟨j - 1, by omega⟩
              obtain ⟨y, hy⟩ : ∃ y, O[j']? = some y := ⟨O[j']'(by have := HO.out.2.2.2.1; omega), List.getElem?_eq_getElem _⟩
              have hy2 : (Ro.putAt O j X)[j']? = some y := by rw [Ro.putAt_ahead _ (by have := HO.out.2.2.2.1; omega) (by omega)]; exact hy
              have cy := hOj.cell hy2
              have cj := hOj.cell (Ro.putAt_at X (by have := HO.out.2.2.2.1; omega))
              have cf := hOj.free hpl.symm j
              have hOs := hOj.put hpl.symm j y
              rw [hj', Ro.putAt_up _ _ hy, ← hj'] at hOs
              have t1 : (k : Int) < (j : Int) := by omega
              have t2 : decide ((k : Int) < (j : Int)) = true := decide_eq_true t1
              have t3 : IntKind.i64.wrap ((j : Int) - 1) = (j' : Int) := by rw [IntKind.wrap_i64]; omega
              have t4 : (j : Int) - 1 = (j' : Int) := by omega
              have t5 : IntKind.i64.wrap (j' : Int) = (j' : Int) := by rw [IntKind.wrap_i64]; omega
              have t6 : (0 : Int) ≤ (j' : Int) := by omega
              have t7 : (j' : Int) < ((M + 1 : Nat) : Int) := by omega
              have t8 : (0 : Int) ≤ (j : Int) := by omega
              have t9 : (j : Int) < ((M + 1 : Nat) : Int) := by omega
              have u7 : (j' : Int) < (M : Int) + 1 := by omega
              have u9 : (j : Int) < (M : Int) + 1 := by omega
              have HJ : Hid _ := And.intro hOs (And.intro hbj (And.intro hj' (And.intro hkj hjM)))
              have hgB : w.heap.size ≤ g5 := (hOj.lt g5 rfl).1
              clear hOs hbj hOj hj' hy hy2 hpl
              go_wp2_with fail
              go_roundg j'
              case measure => have := HJ.out.2.2.1; omega
              case rel =>
                exact ⟨j', y, rfl, by have := HJ.out.2.2.1; omega, by have := HJ.out.2.2.1; omega, rfl, HJ.out.1, HJ.out.2.1.setCell hgB _⟩
            · obtain ⟨cj, hcj⟩ : ∃ x, (Ro.putAt O j X)[j]? = some x := ⟨X, Ro.putAt_at X (by have := HO.out.2.2.2.1; omega)⟩
              have hjk2 : j = k := by omega
              have cj2 := hOj.cell hcj
              have cf := hOj.free hpl.symm j
              have hOs := hOj.put hpl.symm j v
              rw [Ro.putAt_set _ _ (by have := HO.out.2.2.2.1; omega), hjk2, HO.out.2.2.2.2.1, Ro.sd_put (by rw [← HO.out.2.2.2.2.1, ← HO.out.2.2.2.1]; exact HK.out.1) (by rw [← HO.out.2.2.2.2.1]; exact HK.out.2) (by rw [← HO.out.2.2.2.2.1]; exact (fun j y h1 _ => by have := H0.out; omega)), ← HO.out.2.2.2.2.2] at hOs
              rw [hjk2] at cj2 cf
              have t1 : ¬ (k : Int) < (k : Int) := by omega
              have t2 : decide ((k : Int) < (k : Int)) = false := decide_eq_false t1
              have t8 : (0 : Int) ≤ (k : Int) := by omega
              have t9 : (k : Int) < ((M + 1 : Nat) : Int) := by have := HK.out.1; omega
              have u9 : (k : Int) < (M : Int) + 1 := by omega
              have HJ : Hid _ := And.intro hOs hbj
              have hgB : w.heap.size ≤ g5 := (hOj.lt g5 rfl).1
              subst hjk2
              clear hOs hbj hOj hcj hpl
              go_wp2_with fail
              go_roundg (N - (i + 1))
              case measure => omega
              case rel => exact ⟨i + 1, rfl, by omega, by go_num, HJ.out.1, HJ.out.2.setCell hgB _⟩
        · obtain ⟨m, hm⟩ : ∃ m, k = m + 1 := ⟨k - 1, by omega⟩
          obtain ⟨y, hy⟩ : ∃ y, O[m]? = some y := ⟨O[m]'(by have := HO.out.2.2.2.1; omega), List.getElem?_eq_getElem _⟩
          have hOI : OwnI wq w.heap.size (.slice au M cu) O := by unfold OwnI; rw [← HO.out.2.2.2.1]; exact HO.out.1
          obtain ⟨ao2, cap2, hv2, hc2⟩ := hOI.has
          injection hv2 with e1 e2 e3
          subst e1
          obtain ⟨b, rfl, cy⟩ := hc2 m y hy
          have f1 : (0 : Int) < (k : Int) := by omega
          have f2 : decide ((0 : Int) < (k : Int)) = true := decide_eq_true f1
          have f3 : decide (0 < k) = true := by simp; omega
          have t3 : IntKind.i64.wrap ((k : Int) - 1) = (m : Int) := by rw [IntKind.wrap_i64]; omega
          have t4 : (k : Int) - 1 = (m : Int) := by omega
          have t5 : IntKind.i64.wrap (m : Int) = (m : Int) := by rw [IntKind.wrap_i64]; omega
          have t6 : (0 : Int) ≤ (m : Int) := by omega
          have t7 : (m : Int) < (M : Int) := by omega
          have HY : Hid _ := And.intro hm hy
          clear hm hy hOI hc2 e2 e3 hk0
          by_cases hgt : v < y
          · have g1 : decide (v < y) = true := decide_eq_true hgt
            have HG : Hid (v < y) := hgt
            clear hgt
            go_wp2_with fail
            go_roundg m
            case measure => have := HY.out.1; omega
            case rel => exact ⟨m, rfl, rfl, rfl, by have := HY.out.1; omega, fun j z h1 h2 => by
              rcases Nat.lt_or_ge m j with h3 | h3
              · exact HK.out.2 j z (by have := HY.out.1; omega) h2
              · obtain rfl : j = m := by omega
                rw [HY.out.2] at h2
                rw [← Option.some.inj h2]; exact HG.out⟩
          · have g1 : decide (v < y) = false := decide_eq_false hgt
            by_cases heq : y = v
            · have g2 : (y == v) = true := by simp [heq]
              have HG : Hid (y = v) := heq
              clear hgt heq
              go_wp2_with fail
              go_roundg (N - (i + 1))
              case measure => omega
              case rel =>
                refine ⟨i + 1, rfl, by omega, by go_num, ?_, HO.out.2.1⟩
                rw [HO.out.2.2.2.2.2, Ro.sd_in (by rw [← HO.out.2.2.2.2.1, ← HG.out]; exact List.mem_of_getElem? HY.out.2), ← HO.out.2.2.2.2.1]
                unfold OwnI
                rw [← HO.out.2.2.2.1]
                exact HO.out.1
            · have g2 : (y == v) = false := by simp [heq]
              have hlv : y < v := by omega
              have HG : Hid (y < v) := hlv
              clear hgt heq hlv
              have hml : M + 1 ≤ maxLen := by unfold maxLen; omega
              have hby : (M + 1) * 8 ≤ 140737488355328 := by omega
              have hle : w.heap.size ≤ (wq.alloc (.cells #[.int .i64 0] 3)).heap.size := by have := HO.out.2.1.size; simp; omega
              have e7 : IntKind.i64.wrap ((M : Int) + 1 - 1) = (M : Int) := by rw [IntKind.wrap_i64]; omega
              have e8 : (M : Int) + 1 - 1 = (M : Int) := by omega
              have e9 : IntKind.i64.wrap (M : Int) = (M : Int) := by rw [IntKind.wrap_i64]; omega
              go_wp2_with (at_builtin; refine wpList_append_own_at _ rfl _ _ 57 rfl w.heap.size 3 i0 (.int .i64 0) 1 8 Tryz.underlying57 hi0 hz0 hz1 hz2 rfl (by decide) (.slice (some b) M cu) M (iC O) rfl (HO.out.1.alloc _) ⟨wq.heap.size, 0, none⟩ 1 1 [.int .i64 0] rfl rfl (World.news_of_block (cs := #[.int .i64 0]) (t := 3) (fr := (0, 0)) (heap_alloc_new wq _)) (by simp [Value.oneCell']) hml hby hle ?_; intro v5 w5 hO5 hg5 hnil5 hat5; obtain ⟨g5, cap5, rfl⟩ := ownsRow_succ hO5; have H5 : Hid _ := And.intro hO5 hg5; clear hO5 hg5 hnil5 hat5)
              have hO5 : OwnI w5 w.heap.size (.slice (some ⟨g5, 0, none⟩) (M + 1) cap5) (Ro.putAt O M 0) := by
                have h1 := H5.out.1
                rw [HO.out.2.2.2.1, Ro.putAt_end, ← HO.out.2.2.2.1]
                unfold OwnI
                rw [iC_snoc, List.length_append, ← HO.out.2.2.2.1]
                exact h1
              have hb5 : Below w.heap.size w w5 := HO.out.2.1.trans ((grown_alloc H5.out.2).below HO.out.2.1.size fun b hb => (HO.out.1.lt b hb).1)
              have H6 : Hid _ := And.intro hO5 hb5
              clear hO5 hb5 H5
              go_loopg [9] M (fun q jv wr => ∃ (j : Nat) (X : Int), j = q ∧ k ≤ j ∧ j ≤ M ∧ jv = .int .i64 j ∧ OwnI wr w.heap.size (.slice (some ⟨g5, 0, none⟩) (M + 1) cap5) (Ro.putAt O j X) ∧ Below w.heap.size w wr)
              case atStart => exact ⟨M, 0, rfl, HK.out.1, Nat.le_refl _, rfl, H6.out.1, H6.out.2⟩
              case round =>
                obtain ⟨j, X, rfl, hkj, hjM, rfl, hOj, hbj⟩ := hrel
                have hpl : (Ro.putAt O j X).length = M + 1 := by rw [Ro.putAt_len _ (by have := HO.out.2.2.2.1; omega), ← HO.out.2.2.2.1]
                by_cases hjk : k < j
                · obtain ⟨j', hj'⟩ : ∃ j', j = j' + 1 := ⟨j - 1, by omega⟩
                  obtain ⟨y, hy⟩ : ∃ y, O[j']? = some y := ⟨O[j']'(by have := HO.out.2.2.2.1; omega), List.getElem?_eq_getElem _⟩
                  have hy2 : (Ro.putAt O j X)[j']? = some y := by rw [Ro.putAt_ahead _ (by have := HO.out.2.2.2.1; omega) (by omega)]; exact hy
                  have cy := hOj.cell hy2
                  have cj := hOj.cell (Ro.putAt_at X (by have := HO.out.2.2.2.1; omega))
                  have cf := hOj.free hpl.symm j
                  have hOs := hOj.put hpl.symm j y
                  rw [hj', Ro.putAt_up _ _ hy, ← hj'] at hOs
                  have t1 : (k : Int) < (j : Int) := by omega
                  have t2 : decide ((k : Int) < (j : Int)) = true := decide_eq_true t1
                  have t3 : IntKind.i64.wrap ((j : Int) - 1) = (j' : Int) := by rw [IntKind.wrap_i64]; omega
                  have t4 : (j : Int) - 1 = (j' : Int) := by omega
                  have t5 : IntKind.i64.wrap (j' : Int) = (j' : Int) := by rw [IntKind.wrap_i64]; omega
                  have t6 : (0 : Int) ≤ (j' : Int) := by omega
                  have t7 : (j' : Int) < ((M + 1 : Nat) : Int) := by omega
                  have t8 : (0 : Int) ≤ (j : Int) := by omega
                  have t9 : (j : Int) < ((M + 1 : Nat) : Int) := by omega
                  have u7 : (j' : Int) < (M : Int) + 1 := by omega
                  have u9 : (j : Int) < (M : Int) + 1 := by omega
                  have HJ : Hid _ := And.intro hOs (And.intro hbj (And.intro hj' (And.intro hkj hjM)))
                  have hgB : w.heap.size ≤ g5 := (hOj.lt g5 rfl).1
                  clear hOs hbj hOj hj' hy hy2 hpl
                  go_wp2_with fail
                  go_roundg j'
                  case measure => have := HJ.out.2.2.1; omega
                  case rel =>
                    exact ⟨j', y, rfl, by have := HJ.out.2.2.1; omega, by have := HJ.out.2.2.1; omega, rfl, HJ.out.1, HJ.out.2.1.setCell hgB _⟩
                · obtain ⟨cj, hcj⟩ : ∃ x, (Ro.putAt O j X)[j]? = some x := ⟨X, Ro.putAt_at X (by have := HO.out.2.2.2.1; omega)⟩
                  have hjk2 : j = k := by omega
                  have cj2 := hOj.cell hcj
                  have cf := hOj.free hpl.symm j
                  have hOs := hOj.put hpl.symm j v
                  rw [Ro.putAt_set _ _ (by have := HO.out.2.2.2.1; omega), hjk2, HO.out.2.2.2.2.1, Ro.sd_put (by rw [← HO.out.2.2.2.2.1, ← HO.out.2.2.2.1]; exact HK.out.1) (by rw [← HO.out.2.2.2.2.1]; exact HK.out.2) (by rw [← HO.out.2.2.2.2.1]; exact (fun j y h1 h2 => by have h3 := HY.out.1; obtain rfl : j = m := (by omega); rw [HY.out.2] at h2; rw [← Option.some.inj h2]; exact HG.out)), ← HO.out.2.2.2.2.2] at hOs
                  rw [hjk2] at cj2 cf
                  have t1 : ¬ (k : Int) < (k : Int) := by omega
                  have t2 : decide ((k : Int) < (k : Int)) = false := decide_eq_false t1
                  have t8 : (0 : Int) ≤ (k : Int) := by omega
                  have t9 : (k : Int) < ((M + 1 : Nat) : Int) := by have := HK.out.1; omega
                  have u9 : (k : Int) < (M : Int) + 1 := by omega
                  have HJ : Hid _ := And.intro hOs hbj
                  have hgB : w.heap.size ≤ g5 := (hOj.lt g5 rfl).1
                  subst hjk2
                  clear hOs hbj hOj hcj hpl
                  go_wp2_with fail
                  go_roundg (N - (i + 1))
                  case measure => omega
                  case rel => exact ⟨i + 1, rfl, by omega, by go_num, HJ.out.1, HJ.out.2.setCell hgB _⟩
    · obtain rfl : i = N := by omega
      have q1 : ¬ (i : Int) < (i : Int) := by omega
      have HO : Hid _ := And.intro hO (And.intro hb hOe)
      clear hO hb hM hOe
      go_wp2_with fail
      go_ret
      have h1 := HO.out.1
      rw [HO.out.2.2, List.take_of_length_le (by have := HH.out.2.2.2.2.2; omega)] at h1
      exact ⟨_, rfl, h1, HO.out.2.1⟩
end Go.Proofs.YtpmanmoljlhogaaGreatDoor
/- Contract of slices.Equal of numbers. -/
namespace Go.Proofs.YtpmanmoljlhogaaGreatDoor
open Go.RowKit Go.Maps
theorem take_both5 {α : Type} {a b : List α} {j : Nat} {x : α} (ha : a[j]? = some x) (hb : b[j]? = some x) (h : a.take j = b.take j) : a.take (j + 1) = b.take (j + 1) := by
  rw [take_succ_of ha, take_succ_of hb, h]
theorem eq_len5 {α : Type} {a b : List α} {n : Nat} (ha : a.length = n) (hb : b.length = n) (h : a.take n = b.take n) : a = b := by
  rw [List.take_of_length_le (by omega), List.take_of_length_le (by omega)] at h
  exact h
set_option maxRecDepth 100000 in
set_option maxHeartbeats 1000000 in
theorem slEqual_any (va vb : Value) (za zb : List Int) (w : World) (hn : za.length ≤ 1000000000000000) (hm : zb.length ≤ 1000000000000000) (hA : HasI w va za) (hB : HasI w vb zb) :
    Calls Tryz.prog 88 #[va, vb] w fun e w' => e = .returned (.bool (za == zb)) ∧ Below w.heap.size w w' := by
  obtain ⟨ao, cap, rfl, hcA⟩ := hA
  obtain ⟨ao', cap', rfl, hcB⟩ := hB
  by_cases hlen : za.length = zb.length
  · obtain ⟨n, hN⟩ : ∃ n, n = za.length := ⟨_, rfl⟩
    have HH : Hid _ := And.intro hcA (And.intro hcB (And.intro hN (hN.trans hlen)))
    rw [← hlen, ← hN]
    rw [← hN] at hn
    clear hcA hcB hN hlen hm
    have q : ((n : Int) != (n : Int)) = false := by simp
    go_enter Tryz.func88, Tryz.ntmps88
    go_wp2
    go_loopg [13] n (fun g i wr => ∃ j m : Nat, g = n - j ∧ j ≤ n ∧ i = .int .i64 j ∧ za.take j = zb.take j ∧ wr = w.drewN m)
    case atStart => exact ⟨0, 0, rfl, Nat.zero_le _, rfl, rfl, rfl⟩
    case round =>
      obtain ⟨j, m, rfl, hj, rfl, heq, rfl⟩ := hrel
      have HQ : Hid _ := heq
      clear heq
      by_cases hlt : j < n
      · obtain ⟨x, hx⟩ : ∃ z, za[j]? = some z := ⟨za[j]'(by have := HH.out.2.2.1; omega), List.getElem?_eq_getElem _⟩
        obtain ⟨y, hy⟩ : ∃ z, zb[j]? = some z := ⟨zb[j]'(by have := HH.out.2.2.2; omega), List.getElem?_eq_getElem _⟩
        obtain ⟨a, rfl, c0⟩ := HH.out.1 j x hx
        obtain ⟨b, rfl, d0⟩ := HH.out.2.1 j y hy
        have q0 : (0 : Int) ≤ (j : Int) := by omega
        have q1 : (j : Int) < (n : Int) := by omega
        by_cases hxy : x = y
        · subst hxy
          have HT : Hid _ := take_both5 hx hy HQ.out
          clear hx hy
          go_wp2_with fail
          go_quiet (fail)
          go_wp2
          go_roundg (n - (j + 1))
          case measure => omega
          case rel => exact ⟨j + 1, _, rfl, by omega, by go_num, HT.out, by first | rfl | exact World.drewN_drewN _ _ _⟩
        · have e1 : (x == y) = false := by simpa using hxy
          have HF : Hid ((za == zb) = false) := (by
            rw [beq_eq_false_iff_ne]
            rintro rfl
            rw [hx] at hy
            exact hxy (Option.some.inj hy) : (za == zb) = false)
          clear hx hy hxy
          go_wp2_with fail
          go_quiet (fail)
          go_wp2
          go_ret
          exact ⟨by rw [HF.out]; rfl, by first | exact below_drewN (below_drewN (Below.refl _ _) _) _ | exact below_drewN (Below.refl _ _) _⟩
      · obtain rfl : j = n := by omega
        have q1 : ¬ (j : Int) < (j : Int) := by omega
        have HF : Hid ((za == zb) = true) := (by
          rw [beq_iff_eq]
          exact eq_len5 HH.out.2.2.1.symm HH.out.2.2.2.symm HQ.out : (za == zb) = true)
        go_wp2
        go_ret
        exact ⟨by rw [HF.out]; rfl, below_drewN (Below.refl _ _) _⟩
  · have q : ((za.length : Int) != (zb.length : Int)) = true := by rw [bne_iff_ne]; omega
    have HF : Hid ((za == zb) = false) := (by rw [beq_eq_false_iff_ne]; rintro rfl; exact hlen rfl : (za == zb) = false)
    clear hcA hcB hlen
    go_enter Tryz.func88, Tryz.ntmps88
    go_wp2
    go_ret
    exact ⟨by rw [HF.out]; rfl, Below.refl _ _⟩
end Go.Proofs.YtpmanmoljlhogaaGreatDoor
/- Contract of the document's SameInts. -/
namespace Go.Proofs.YtpmanmoljlhogaaGreatDoor
open Go.RowKit Go.Maps
set_option maxRecDepth 100000 in
set_option maxHeartbeats 1000000 in
theorem refSame_any (va vb : Value) (za zb : List Int) (w : World) (hn : za.length ≤ 1000000000000000) (hm : zb.length ≤ 1000000000000000) (hA : HasI w va za) (hB : HasI w vb zb) :
    Calls Tryz.prog 93 #[va, vb] w fun e w' => e = .returned (.bool (za == zb)) ∧ ∃ m, w' = w.drewN m := by
  obtain ⟨ao, cap, rfl, hcA⟩ := hA
  obtain ⟨ao', cap', rfl, hcB⟩ := hB
  by_cases hlen : za.length = zb.length
  · obtain ⟨n, hN⟩ : ∃ n, n = za.length := ⟨_, rfl⟩
    have HH : Hid _ := And.intro hcA (And.intro hcB (And.intro hN (hN.trans hlen)))
    rw [← hlen, ← hN]
    rw [← hN] at hn
    clear hcA hcB hN hlen hm
    have q : ((n : Int) != (n : Int)) = false := by simp
    go_enter Tryz.func93, Tryz.ntmps93
    go_wp2
    go_loopg [5] n (fun g i wr => ∃ j m : Nat, g = n - j ∧ j ≤ n ∧ i = .int .i64 j ∧ za.take j = zb.take j ∧ wr = w.drewN m)
    case atStart => exact ⟨0, 0, rfl, Nat.zero_le _, rfl, rfl, rfl⟩
    case round =>
      obtain ⟨j, m, rfl, hj, rfl, heq, rfl⟩ := hrel
      have HQ : Hid _ := heq
      clear heq
      by_cases hlt : j < n
      · obtain ⟨x, hx⟩ : ∃ z, za[j]? = some z := ⟨za[j]'(by have := HH.out.2.2.1; omega), List.getElem?_eq_getElem _⟩
        obtain ⟨y, hy⟩ : ∃ z, zb[j]? = some z := ⟨zb[j]'(by have := HH.out.2.2.2; omega), List.getElem?_eq_getElem _⟩
        obtain ⟨a, rfl, c0⟩ := HH.out.1 j x hx
        obtain ⟨b, rfl, d0⟩ := HH.out.2.1 j y hy
        have q0 : (0 : Int) ≤ (j : Int) := by omega
        have q1 : (j : Int) < (n : Int) := by omega
        by_cases hxy : x = y
        · subst hxy
          have e1 : (x != x) = false := by simp
          have HT : Hid _ := take_both5 hx hy HQ.out
          clear hx hy
          go_wp2_with fail
          go_quiet (fail)
          go_wp2
          go_roundg (n - (j + 1))
          case measure => omega
          case rel => exact ⟨j + 1, _, rfl, by omega, by go_num, HT.out, by first | rfl | exact World.drewN_drewN _ _ _⟩
        · have e1 : (x != y) = true := by simpa using hxy
          have HF : Hid ((za == zb) = false) := (by
            rw [beq_eq_false_iff_ne]
            rintro rfl
            rw [hx] at hy
            exact hxy (Option.some.inj hy) : (za == zb) = false)
          clear hx hy hxy
          go_wp2_with fail
          go_quiet (fail)
          go_wp2
          go_ret
          exact ⟨by rw [HF.out]; rfl, _, by first | rfl | exact World.drewN_drewN _ _ _⟩
      · obtain rfl : j = n := by omega
        have q1 : ¬ (j : Int) < (j : Int) := by omega
        have HF : Hid ((za == zb) = true) := (by
          rw [beq_iff_eq]
          exact eq_len5 HH.out.2.2.1.symm HH.out.2.2.2.symm HQ.out : (za == zb) = true)
        go_wp2
        go_ret
        exact ⟨by rw [HF.out]; rfl, _, rfl⟩
  · have q : ((za.length : Int) != (zb.length : Int)) = true := by rw [bne_iff_ne]; omega
    have HF : Hid ((za == zb) = false) := (by rw [beq_eq_false_iff_ne]; rintro rfl; exact hlen rfl : (za == zb) = false)
    clear hcA hcB hlen
    go_enter Tryz.func93, Tryz.ntmps93
    go_wp2
    go_ret
    exact ⟨by rw [HF.out]; rfl, 0, rfl⟩
end Go.Proofs.YtpmanmoljlhogaaGreatDoor
