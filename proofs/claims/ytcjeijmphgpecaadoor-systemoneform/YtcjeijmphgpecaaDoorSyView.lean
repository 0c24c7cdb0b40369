/- Contracts of cmp's Compare and Or at ints, of the program's views and their comparison. -/
import Derived.Test.YtcjeijmphgpecaaDoorSyChk
namespace Go.Proofs.YtcjeijmphgpecaaDoor
open Go.RowKit Go.Maps
attribute [local go_sem ↓] Go.wp_at_zero Go.wp_at_succ
def cmpI (a b : Int) : Int := if a < b then -1 else if b < a then 1 else 0
theorem isNaN_any (a : Int) (w : World) : Calls Tryd.prog 83 #[.int .i64 a] w fun r w' => r = .returned (.bool false) ∧ w' = w := by
  have e : (a != a) = false := by simp
  go_enter Tryd.func83, Tryd.ntmps83
  go_wp2
  go_ret
  exact ⟨by simp, rfl⟩
set_option maxRecDepth 100000 in
theorem cmpI_any (a b : Int) (w : World) : Calls Tryd.prog 61 #[.int .i64 a, .int .i64 b] w fun r w' => r = .returned (.int .i64 (cmpI a b)) ∧ w' = w := by
  have hN := fun (x : Int) (W : World) => isNaN_any x W
  have HN : Hid _ := hN
  clear hN
  by_cases h1 : a < b
  · go_enter Tryd.func61, Tryd.ntmps61
    go_wp2_with (go_at_call 83; refine (HN.out _ _).mono ?_; rintro r w' ⟨rfl, hw⟩; obtain rfl := hw.symm)
    go_ret
    exact ⟨by simp [cmpI, h1], rfl⟩
  · by_cases h2 : b < a
    · go_enter Tryd.func61, Tryd.ntmps61
      go_wp2_with (go_at_call 83; refine (HN.out _ _).mono ?_; rintro r w' ⟨rfl, hw⟩; obtain rfl := hw.symm)
      go_ret
      exact ⟨by simp [cmpI, h1, h2], rfl⟩
    · go_enter Tryd.func61, Tryd.ntmps61
      go_wp2_with (go_at_call 83; refine (HN.out _ _).mono ?_; rintro r w' ⟨rfl, hw⟩; obtain rfl := hw.symm)
      go_ret
      exact ⟨by simp [cmpI]; split <;> (try split) <;> omega, rfl⟩
def orI (a b c : Int) : Int := if a = 0 then if b = 0 then c else b else a
set_option maxRecDepth 100000 in
set_option maxHeartbeats 1000000 in
theorem orI_any (g : Nat) (a b c : Int) (w : World) (hg : w.heap[g]? = some (.cells #[.int .i64 a, .int .i64 b, .int .i64 c] 3 (0, 0))) : Calls Tryd.prog 60 #[.slice (some ⟨g, 0, none⟩) 3 3] w fun r w' => r = .returned (.int .i64 (orI a b c)) ∧ w' = w := by
  have c0 : w.cell? ⟨g, 0, none⟩ = some (.int .i64 a) := cell0_of hg rfl
  have c1 : w.cell? ⟨g, 1, none⟩ = some (.int .i64 b) := cell0_of hg rfl
  have c2 : w.cell? ⟨g, 2, none⟩ = some (.int .i64 c) := cell0_of hg rfl
  have cs : ∀ (i : Nat) (z : Int), [a, b, c][i]? = some z → w.cell? ⟨g, i, none⟩ = some (.int .i64 z) := fun i z h => by
    match i, h with
    | 0, h => simp at h; rw [← h]; exact c0
    | 1, h => simp at h; rw [← h]; exact c1
    | 2, h => simp at h; rw [← h]; exact c2
    | i + 3, h => simp at h
  have HC : Hid _ := cs
  clear cs hg c0 c1 c2
  go_enter Tryd.func60, Tryd.ntmps60
  go_wp2_with fail
  go_loopg [8] 3 (fun q iv wr => ∃ i : Nat, q = 3 - i ∧ i ≤ 3 ∧ iv = .int .i64 i ∧ wr = w ∧ ∀ x ∈ [a, b, c].take i, x = 0)
  case atStart => exact ⟨0, rfl, by omega, rfl, rfl, fun x hx => by simp at hx⟩
  case round =>
    obtain ⟨i, rfl, hi, rfl, rfl, hz⟩ := hrel
    by_cases hlt : i < 3
    · obtain ⟨z, hz1⟩ : ∃ z, [a, b, c][i]? = some z := ⟨[a, b, c][i]'(by simp; omega), List.getElem?_eq_getElem _⟩
      have cz := HC.out i z hz1
      have q0 : (0 : Int) ≤ (i : Int) := by omega
      have q1 : (i : Int) < 3 := by omega
      have HZ : Hid _ := And.intro hz hz1
      clear hz hz1
      by_cases h0 : z = 0
      · have e0 : (z != 0) = false := by simp [h0]
        have HE : Hid _ := h0
        clear h0
        go_wp2
        go_roundg (3 - (i + 1))
        case measure => omega
        case rel =>
          refine ⟨i + 1, rfl, by omega, by go_num, rfl, fun x hx => ?_⟩
          rw [take_succ_of HZ.out.2] at hx
          rcases List.mem_append.1 hx with hx | hx
          · exact HZ.out.1 x hx
          · rw [List.mem_singleton.1 hx]; exact HE.out
      · have e0 : (z != 0) = true := by simp [h0]
        have HE : Hid _ := h0
        clear h0
        go_wp2
        go_ret
        refine ⟨?_, rfl⟩
        have h1 := HZ.out.2
        have h2 := HZ.out.1
        have h3 := HE.out
        show Ending.returned (Value.int .i64 z) = _
        congr 2
        match i, h1, h2 with
        | 0, h1, h2 => simp at h1; subst h1; unfold orI; rw [if_neg h3]
        | 1, h1, h2 => simp at h1 h2; subst h1; unfold orI; rw [if_pos h2, if_neg h3]
        | 2, h1, h2 => simp at h1 h2; subst h1; unfold orI; rw [if_pos h2.1, if_pos h2.2]
        | i + 3, h1, h2 => simp at h1
    · obtain rfl : i = 3 := by omega
      have HZ : Hid _ := hz
      clear hz
      go_wp2
      go_ret
      refine ⟨?_, rfl⟩
      have h2 := HZ.out
      simp at h2
      simp [orI, h2]
def cmpE (a b : Sy.Ed) : Int := orI (cmpI a.1 b.1) (cmpI a.2.1 b.2.1) (cmpI a.2.2 b.2.2)
theorem cmpE_lt (a b : Sy.Ed) : decide (cmpE a b < 0) = Sy.lt a b := by
  rw [Bool.eq_iff_iff, Sy.lt_iff, decide_eq_true_eq]
  unfold cmpE orI cmpI
  (repeat' split) <;> omega
/-- A view: which row an edge stands in, and as which step. -/
def ViewAt (f : Nat) (vw : Sy.Ed → Sy.Ed) : Prop := (∀ args w, (callFunc f args).run Tryd.prog w = .ok (.enter f args) w) ∧ ∀ (x : Sy.Ed) (w : World), Calls Tryd.prog f #[edV x] w fun r w' => r = .returned (.tuple #[.int .i64 (vw x).1, .agg #[.int .i64 (vw x).2.1, .int .i64 (vw x).2.2]]) ∧ Below w.heap.size w w'
set_option maxRecDepth 100000 in
set_option maxHeartbeats 1000000 in
theorem forward_at : ViewAt 33 fun x => x := ⟨enters_of Tryd.func33 (by kernel_rfl) rfl, fun x w => by
  obtain ⟨x0, x1, x2⟩ := x
  unfold edV
  go_enter Tryd.func33, Tryd.ntmps33
  go_wp2_with fail
  go_region
  all_goals
    go_wp2_with fail
    refine bodyPost_ret (v := .tuple #[.int .i64 x0, .agg #[.int .i64 x1, .int .i64 x2]]) (by simp [results, Tryd.results33, go_sem]) rfl ⟨rfl, ?_⟩
    first | exact (by repeat (first | exact Below.refl _ _ | assumption | refine Below.drew ?_ | refine Below.setCell ?_ (by simp) _ | refine Below.alloc ?_ (by simp) _)) | exact (by repeat (first | exact Below.refl _ _ | assumption | refine Below.setCell ?_ (by simp) _ | refine Below.alloc ?_ (by simp) _ | refine Below.drew ?_))⟩
set_option maxRecDepth 100000 in
set_option maxHeartbeats 1000000 in
theorem backward_at : ViewAt 43 Sy.turn := ⟨enters_of Tryd.func43 (by kernel_rfl) rfl, fun x w => by
  obtain ⟨x0, x1, x2⟩ := x
  unfold edV
  go_enter Tryd.func43, Tryd.ntmps43
  go_wp2_with fail
  go_region
  all_goals
    go_wp2_with fail
    refine bodyPost_ret (v := .tuple #[.int .i64 x2, .agg #[.int .i64 x1, .int .i64 x0]]) (by simp [results, Tryd.results43, go_sem]) rfl ⟨rfl, ?_⟩
    first | exact (by repeat (first | exact Below.refl _ _ | assumption | refine Below.drew ?_ | refine Below.setCell ?_ (by simp) _ | refine Below.alloc ?_ (by simp) _)) | exact (by repeat (first | exact Below.refl _ _ | assumption | refine Below.setCell ?_ (by simp) _ | refine Below.alloc ?_ (by simp) _ | refine Below.drew ?_))⟩
theorem enter_cmp : ∀ args w, (callFunc 50 args).run Tryd.prog w = .ok (.enter 50 args) w := enters_of Tryd.func50 (by kernel_rfl) rfl
set_option maxRecDepth 100000 in
set_option maxHeartbeats 4000000 in
theorem compare_any (f : Nat) (vw : Sy.Ed → Sy.Ed) (hV : ViewAt f vw) (a b : Sy.Ed) (w : World) :
    Calls Tryd.prog 50 #[.func (.func f) #[] #[], edV a, edV b] w fun r w' => r = .returned (.int .i64 (cmpE (vw a) (vw b))) ∧ Below w.heap.size w w' := by
  obtain ⟨he, hv⟩ := hV
  obtain ⟨a0, a1, a2⟩ := a
  obtain ⟨b0, b1, b2⟩ := b
  obtain ⟨w0, hw0⟩ : ∃ w0, w0 = (w.alloc (.cells #[.int .i64 a0, .int .i64 a1, .int .i64 a2] 47)).alloc (.cells #[.int .i64 b0, .int .i64 b1, .int .i64 b2] 47) := ⟨_, rfl⟩
  have hb0 : Below w.heap.size w w0 := by rw [hw0]; exact ((Below.refl _ _).alloc (Nat.le_refl _) _).alloc (by simp) _
  have hgb : w0.heap[w.heap.size + 1]? = some (.cells #[.int .i64 b0, .int .i64 b1, .int .i64 b2] 47 (0, 0)) := by rw [hw0]; exact two_alloc w _ _
  have hA := hv (a0, a1, a2)
  have hB := hv (b0, b1, b2)
  unfold cmpE
  generalize vw (a0, a1, a2) = p at hA ⊢
  generalize vw (b0, b1, b2) = q at hB ⊢
  obtain ⟨p0, p1, p2⟩ := p
  obtain ⟨q0, q1, q2⟩ := q
  unfold edV at hA hB ⊢
  have HA : Hid _ := And.intro hA hB
  have H0 : Hid _ := And.intro hb0 (And.intro hgb hw0)
  clear hA hB hb0 hgb hw0 hv
  simp only at HA ⊢
  go_enter Tryd.func50, Tryd.ntmps50
  go_wp2_with fail
  rw [← H0.out.2.2]
  refine Calls.mono (HA.out.1 _) ?_
  rintro r w1 ⟨rfl, hb1⟩
  have hgb1 := (hb1.block _ (t_lt H0.out.2.1)).trans H0.out.2.1
  obtain ⟨w2, hw2⟩ : ∃ w2, w2 = (w1.alloc (.cells #[.int .i64 p1, .int .i64 p2] 75)) := ⟨_, rfl⟩
  have hb2 : Below w1.heap.size w1 w2 := by rw [hw2]; exact (Below.refl _ _).alloc (Nat.le_refl _) _
  have hg2 : w2.heap[w1.heap.size]? = some (.cells #[.int .i64 p1, .int .i64 p2] 75 (0, 0)) := by rw [hw2]; exact heap_alloc_new w1 _
  have hgb2 := (hb2.block _ (t_lt hgb1)).trans hgb1
  have c0 : (w1.alloc (.cells #[.int .i64 p1, .int .i64 p2] 75)).cell? ⟨w.heap.size + 1, 0, none⟩ = some (.int .i64 b0) := by rw [← hw2]; exact cell0_of hgb2 rfl
  have c1 : (w1.alloc (.cells #[.int .i64 p1, .int .i64 p2] 75)).cell? ⟨w.heap.size + 1, 1, none⟩ = some (.int .i64 b1) := by rw [← hw2]; exact cell0_of hgb2 rfl
  have c2 : (w1.alloc (.cells #[.int .i64 p1, .int .i64 p2] 75)).cell? ⟨w.heap.size + 1, 2, none⟩ = some (.int .i64 b2) := by rw [← hw2]; exact cell0_of hgb2 rfl
  have hbw : Below w.heap.size w w2 := (H0.out.1.trans (hb1.mono H0.out.1.size)).trans (hb2.mono (by have := H0.out.1.size; have := hb1.size; omega))
  have H1 : Hid _ := And.intro hbw (And.intro hg2 hw2)
  clear hb1 hgb1 hb2 hg2 hgb2 hw2 H0 hbw
  go_wp2_with fail
  rw [← H1.out.2.2]
  refine Calls.mono (HA.out.2 _) ?_
  rintro r w3 ⟨rfl, hb3⟩
  have hg3 := (hb3.block _ (t_lt H1.out.2.1)).trans H1.out.2.1
  obtain ⟨w4, hw4⟩ : ∃ w4, w4 = (w3.alloc (.cells #[.int .i64 q1, .int .i64 q2] 75)) := ⟨_, rfl⟩
  have hb4 : Below w3.heap.size w3 w4 := by rw [hw4]; exact (Below.refl _ _).alloc (Nat.le_refl _) _
  have hg4 : w4.heap[w3.heap.size]? = some (.cells #[.int .i64 q1, .int .i64 q2] 75 (0, 0)) := by rw [hw4]; exact heap_alloc_new w3 _
  have hp4 := (hb4.block _ (t_lt hg3)).trans hg3
  have x0 : w4.cell? ⟨w1.heap.size, 0, none⟩ = some (.int .i64 p1) := cell0_of hp4 rfl
  have x1 : w4.cell? ⟨w1.heap.size, 1, none⟩ = some (.int .i64 p2) := cell0_of hp4 rfl
  have x2 : w4.cell? ⟨w3.heap.size, 0, none⟩ = some (.int .i64 q1) := cell0_of hg4 rfl
  have x3 : w4.cell? ⟨w3.heap.size, 1, none⟩ = some (.int .i64 q2) := cell0_of hg4 rfl
  have hbw : Below w.heap.size w w4 := (H1.out.1.trans (hb3.mono H1.out.1.size)).trans (hb4.mono (by have := H1.out.1.size; have := hb3.size; omega))
  have H2 : Hid _ := And.intro hbw hw4
  have hC : ∀ (x y : Int) (W : World), Calls Tryd.prog 61 #[.int .i64 x, .int .i64 y] W fun r w' => r = .returned (.int .i64 (cmpI x y)) ∧ Below W.heap.size W w' := fun x y W => (cmpI_any x y W).mono fun r w' ⟨hr, hw⟩ => ⟨hr, by rw [hw]; exact Below.refl _ _⟩
  have hO : ∀ (x y z : Int) (W : World), Calls Tryd.prog 60 #[.slice (some ⟨W.heap.size, 0, none⟩) 3 3] (W.alloc (.cells #[.int .i64 x, .int .i64 y, .int .i64 z] 3)) fun r w' => r = .returned (.int .i64 (orI x y z)) ∧ Below (W.alloc (.cells #[.int .i64 x, .int .i64 y, .int .i64 z] 3)).heap.size (W.alloc (.cells #[.int .i64 x, .int .i64 y, .int .i64 z] 3)) w' := fun x y z W => (orI_any _ x y z _ (heap_alloc_new W _)).mono fun r w' ⟨hr, hw⟩ => ⟨hr, by rw [hw]; exact Below.refl _ _⟩
  have HC : Hid _ := And.intro hC hO
  clear hb3 hg3 hb4 hg4 hp4 hw4 hbw H1 HA c0 c1 c2 hC hO
  go_upto_region 3 with fail
  rw [← H2.out.2]
  have HB : Hid _ := H2.out.1
  clear H2
  go_region_held3 (fun w' => (w'.cell? ⟨w1.heap.size, 0, none⟩ = some (.int .i64 p1) ∧ w'.cell? ⟨w1.heap.size, 1, none⟩ = some (.int .i64 p2) ∧ w'.cell? ⟨w3.heap.size, 0, none⟩ = some (.int .i64 q1) ∧ w'.cell? ⟨w3.heap.size, 1, none⟩ = some (.int .i64 q2)) ∧ Hid (Below w4.heap.size w4 w')) (first | exact rg_up4 hb5 (by assumption) | exact rg_up4 ((Below.refl _ _).alloc (Nat.le_refl _) _) (by assumption) | exact ⟨⟨x0, x1, x2, x3⟩, ((Below.refl _ _).drew : Below w4.heap.size w4 w4.drew)⟩ | go_keep)
    ((first
      | (go_at_call 61; refine (HC.out.1 _ _ _).mono ?_; rintro r w5 ⟨rfl, hb5⟩)
      | (go_at_call 60; refine (HC.out.2 _ _ _ _).mono ?_; rintro r w5 ⟨rfl, hb5⟩)
      | fail))
  all_goals
    have HF : Hid (Below w4.heap.size w4 w5) := (rg_b (by assumption) : Below w4.heap.size w4 w5)
    clear hb5
    go_wp2_with fail
    go_ret
    exact ⟨rfl, HB.out.trans (HF.out.mono HB.out.size)⟩
end Go.Proofs.YtcjeijmphgpecaaDoor
