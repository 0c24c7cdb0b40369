/- The pair's step: Find, Text, Read. (Written by mkplay.py.) -/
import Derived.Test.YthcboklkejlifaaGreatDoorPlayS1
namespace Go.Proofs.YthcboklkejlifaaGreatDoor
open Go.RowKit Go.Maps
attribute [local go_sem ↓] Go.wp_at_zero Go.wp_at_succ
theorem ErrIs.zero {w : World} {e : Nat → Addr} {ev : Value} (h : ErrIs w e ev 0) : ev = .nilIface := by
  rcases h with h | ⟨h1, _⟩
  · exact h.2
  · simp at h1
theorem ErrIs.fault {w : World} {e : Nat → Addr} {ev : Value} {c : Nat} (h : ErrIs w e ev c) (hc : c ≠ 0) : ∃ bf, ev = faultV bf := by
  rcases h with h | ⟨_, bf, h2, _⟩
  · exact absurd h.1 hc
  · exact ⟨bf, h2⟩
set_option maxRecDepth 100000 in
set_option maxHeartbeats 8000000 in
theorem step_find_yes (w0 wr : World) (g bk : Nat) (who : Bool) (b : Nat) (vn vm v : Value) (ns : List ByteArray) (b' : Nat) (vn' vm' v' : Value) (ns' : List ByteArray) (wz nz : Int) (s : ByteArray) (e : Nat → Addr) (k : Nat) (h : PSE w0 wr g bk who b vn vm v ns b' vn' vm' v' ns') (hE : Nn w0 e)
    (hP : ∀ W, Tab W b vn vm ns → Nn W e → Calls Tryz.prog 115 #[.pointer (some ⟨b, 0, none⟩), .string s] W fun r w' => ∃ ev, r = .returned (.tuple #[.int .i64 k, ev]) ∧ ErrIs w' e ev 0 ∧ Below W.heap.size W w')
    (hR : ∀ W, BTexts.Own W 0 v ns → Calls Tryz.prog 116 #[.agg #[v], .string s] W fun r w' => r = .returned (.int .i64 k) ∧ Below W.heap.size W w') :
    Calls Tryz.prog 79 #[.pointer (some ⟨g, oW who, none⟩), opV 2 wz nz s] wr fun r w' => r = .returned (.bool true) ∧ PSE w0 w' g bk who b vn vm v ns b' vn' vm' v' ns' := by
  unfold opV
  have qk : ¬ (k : Int) < 0 := by omega
  obtain ⟨vi, vw, ls, ws, zss, h⟩ := h
  obtain ⟨ar, kr, rfl⟩ := row_shape h.r
  obtain ⟨W, hW⟩ : ∃ W, W = wr.alloc (.cells #[.int .i64 2, .int .i64 wz, .int .i64 nz, .string s] 107) := ⟨_, rfl⟩
  have hbW : Below wr.heap.size wr W := by rw [hW]; exact (Below.refl _ _).alloc (Nat.le_refl _) _
  have hbx : W.heap[wr.heap.size]? = some (.cells #[.int .i64 2, .int .i64 wz, .int .i64 nz, .string s] 107 (0, 0)) := by rw [hW]; exact (MapKept.heap_alloc wr _).1
  have hPW := h.below hbW
  obtain ⟨c0, c1, _⟩ := cells_this hPW.arr
  obtain ⟨x0, x1, x2, x3⟩ := box4 hbx
  obtain ⟨o, ho⟩ : ∃ o, o = oW who := ⟨_, rfl⟩
  rw [← ho] at c0 c1 ⊢
  unfold pB at c0
  have hA := fun W' (hb : Below W.heap.size W W') => hP W' (hPW.t.below hb) (hE.below (hPW.bl.trans (hb.mono hPW.bl.size)))
  have hB := fun W' (hb : Below W.heap.size W W') => hR W' (hPW.below hb).r
  have HA : Hid _ := And.intro hA (And.intro hB (And.intro hPW hE))
  have HW : Hid _ := hW
  clear hA hB hPW hbx ho hE hbW hW h hP hR
  go_enter Tryz.func79, Tryz.ntmps79
  go_upto_region 8 with fail
  rw [← HW.out]
  go_cut [10, 11] (fun sv se wx => ∃ ev, sv = .int .i64 k ∧ se = ev ∧ ErrIs wx e ev 0 ∧ Below W.heap.size W wx)
  case first =>
    go_region_held3 (fun w' => w'.cell? ⟨g, o, none⟩ = some (.pointer (some ⟨b, 0, none⟩)) ∧ w'.cell? ⟨wr.heap.size, 3, none⟩ = some (.string s)) (go_keep)
      ((first
        | (go_at_call 115; refine (HA.out.1 _ (by repeat (first | exact Below.refl _ _ | assumption | refine Below.drew ?_ | refine Below.setCell ?_ (by simp) _ | refine Below.alloc ?_ (by simp) _))).mono ?_; rintro r8 w8 ⟨ev, rfl, hEr, hb8'⟩; have hb8 := below_of_drew3 hb8'; have c0 := cell_up c0 hb8; have x3 := cell_up x3 hb8; have H8 : Hid _ := And.intro hEr hb8; clear hEr hb8 hb8')
        | fail))
    all_goals (refine Met.intro ?_; apply_assumption; refine Met.intro ?_; apply_assumption; (repeat apply Exists.intro); refine ⟨?rel, rfl⟩; case rel => exact ⟨_, rfl, rfl, by first | exact H8.out | exact ⟨H8.out.1.below (below_drewN (Below.refl _ _) _), below_drewN H8.out.2 _⟩⟩)
  case rest =>
    obtain ⟨ev, rfl, hs6, hEr, hb1⟩ := hcut
    obtain rfl := hs6.symm
    obtain ⟨w1, hw1⟩ : ∃ w1, w1 = wc := ⟨_, rfl⟩
    rw [← hw1] at hEr hb1 ⊢
    clear hw1 wc
    clear c0
    have c1 := cell_up c1 hb1
    have x3 := cell_up x3 hb1
    have hB := fun W' (hb : Below w1.heap.size w1 W') => HA.out.2.1 W' (hb1.trans (hb.mono hb1.size))
    have H4 : Hid _ := And.intro hB (And.intro hEr hb1)
    obtain rfl := hEr.zero
    clear hB hEr hb1
    go_upto_region 9 with fail
    go_cut [12] (fun s12 wx => s12 = .int .i64 k ∧ Below w1.heap.size w1 wx)
    case first =>
      go_region_held3 (fun w' => w'.cell? ⟨g, o + 1, none⟩ = some (.slice ar ns.length kr) ∧ w'.cell? ⟨wr.heap.size, 3, none⟩ = some (.string s)) (go_keep)
        ((first
          | (go_at_call 116; refine (H4.out.1 _ (by repeat (first | exact Below.refl _ _ | assumption | refine Below.drew ?_ | refine Below.setCell ?_ (by simp) _ | refine Below.alloc ?_ (by simp) _))).mono ?_; rintro r8 w8 ⟨rfl, hb8'⟩; have hb8 := below_of_drew3 hb8'; have c1 := cell_up c1 hb8; have x3 := cell_up x3 hb8; have H8 : Hid _ := hb8; clear hb8 hb8')
          | fail))
      all_goals (refine Met.intro ?_; apply_assumption; refine Met.intro ?_; apply_assumption; (repeat apply Exists.intro); refine ⟨?rel, rfl⟩; case rel => exact ⟨rfl, by first | exact H8.out | exact below_drewN H8.out _⟩)
    case rest =>
      obtain ⟨rfl, hb2⟩ := hcut
      have hbA : Below W.heap.size W wc := H4.out.2.2.trans (hb2.mono H4.out.2.2.size)
      have hPS := HA.out.2.2.1.below hbA
      have H5 : Hid _ := hPS
      clear hPS hbA hb2 H4
      go_wp2_with fail
      go_ret
      exact ⟨rfl, _, _, _, _, _, H5.out⟩
set_option maxRecDepth 100000 in
set_option maxHeartbeats 8000000 in
theorem step_find_no (w0 wr : World) (g bk : Nat) (who : Bool) (b : Nat) (vn vm v : Value) (ns : List ByteArray) (b' : Nat) (vn' vm' v' : Value) (ns' : List ByteArray) (wz nz : Int) (s : ByteArray) (e : Nat → Addr) (h : PSE w0 wr g bk who b vn vm v ns b' vn' vm' v' ns') (hE : Nn w0 e)
    (hP : ∀ W, Tab W b vn vm ns → Nn W e → Calls Tryz.prog 115 #[.pointer (some ⟨b, 0, none⟩), .string s] W fun r w' => ∃ ev, r = .returned (.tuple #[.int .i64 0, ev]) ∧ ErrIs w' e ev 8 ∧ Below W.heap.size W w')
    (hR : ∀ W, BTexts.Own W 0 v ns → Calls Tryz.prog 116 #[.agg #[v], .string s] W fun r w' => r = .returned (.int .i64 (-1)) ∧ Below W.heap.size W w') :
    Calls Tryz.prog 79 #[.pointer (some ⟨g, oW who, none⟩), opV 2 wz nz s] wr fun r w' => r = .returned (.bool true) ∧ PSE w0 w' g bk who b vn vm v ns b' vn' vm' v' ns' := by
  unfold opV
  
  obtain ⟨vi, vw, ls, ws, zss, h⟩ := h
  obtain ⟨ar, kr, rfl⟩ := row_shape h.r
  obtain ⟨W, hW⟩ : ∃ W, W = wr.alloc (.cells #[.int .i64 2, .int .i64 wz, .int .i64 nz, .string s] 107) := ⟨_, rfl⟩
  have hbW : Below wr.heap.size wr W := by rw [hW]; exact (Below.refl _ _).alloc (Nat.le_refl _) _
  have hbx : W.heap[wr.heap.size]? = some (.cells #[.int .i64 2, .int .i64 wz, .int .i64 nz, .string s] 107 (0, 0)) := by rw [hW]; exact (MapKept.heap_alloc wr _).1
  have hPW := h.below hbW
  obtain ⟨c0, c1, _⟩ := cells_this hPW.arr
  obtain ⟨x0, x1, x2, x3⟩ := box4 hbx
  obtain ⟨o, ho⟩ : ∃ o, o = oW who := ⟨_, rfl⟩
  rw [← ho] at c0 c1 ⊢
  unfold pB at c0
  have hA := fun W' (hb : Below W.heap.size W W') => hP W' (hPW.t.below hb) (hE.below (hPW.bl.trans (hb.mono hPW.bl.size)))
  have hB := fun W' (hb : Below W.heap.size W W') => hR W' (hPW.below hb).r
  have HA : Hid _ := And.intro hA (And.intro hB (And.intro hPW hE))
  have HW : Hid _ := hW
  clear hA hB hPW hbx ho hE hbW hW h hP hR
  go_enter Tryz.func79, Tryz.ntmps79
  go_upto_region 8 with fail
  rw [← HW.out]
  go_cut [10, 11] (fun sv se wx => ∃ ev, sv = .int .i64 0 ∧ se = ev ∧ ErrIs wx e ev 8 ∧ Below W.heap.size W wx)
  case first =>
    go_region_held3 (fun w' => w'.cell? ⟨g, o, none⟩ = some (.pointer (some ⟨b, 0, none⟩)) ∧ w'.cell? ⟨wr.heap.size, 3, none⟩ = some (.string s)) (go_keep)
      ((first
        | (go_at_call 115; refine (HA.out.1 _ (by repeat (first | exact Below.refl _ _ | assumption | refine Below.drew ?_ | refine Below.setCell ?_ (by simp) _ | refine Below.alloc ?_ (by simp) _))).mono ?_; rintro r8 w8 ⟨ev, rfl, hEr, hb8'⟩; have hb8 := below_of_drew3 hb8'; have c0 := cell_up c0 hb8; have x3 := cell_up x3 hb8; have H8 : Hid _ := And.intro hEr hb8; clear hEr hb8 hb8')
        | fail))
    all_goals (refine Met.intro ?_; apply_assumption; refine Met.intro ?_; apply_assumption; (repeat apply Exists.intro); refine ⟨?rel, rfl⟩; case rel => exact ⟨_, rfl, rfl, by first | exact H8.out | exact ⟨H8.out.1.below (below_drewN (Below.refl _ _) _), below_drewN H8.out.2 _⟩⟩)
  case rest =>
    obtain ⟨ev, rfl, hs6, hEr, hb1⟩ := hcut
    obtain rfl := hs6.symm
    obtain ⟨w1, hw1⟩ : ∃ w1, w1 = wc := ⟨_, rfl⟩
    rw [← hw1] at hEr hb1 ⊢
    clear hw1 wc
    clear c0
    have c1 := cell_up c1 hb1
    have x3 := cell_up x3 hb1
    have hB := fun W' (hb : Below w1.heap.size w1 W') => HA.out.2.1 W' (hb1.trans (hb.mono hb1.size))
    have H4 : Hid _ := And.intro hB (And.intro hEr hb1)
    obtain ⟨bf, rfl⟩ := hEr.fault (by decide)
    clear hB hEr hb1
    go_upto_region 9 with fail
    go_cut [12] (fun s12 wx => s12 = .int .i64 (-1) ∧ Below w1.heap.size w1 wx)
    case first =>
      go_region_held3 (fun w' => w'.cell? ⟨g, o + 1, none⟩ = some (.slice ar ns.length kr) ∧ w'.cell? ⟨wr.heap.size, 3, none⟩ = some (.string s)) (go_keep)
        ((first
          | (go_at_call 116; refine (H4.out.1 _ (by repeat (first | exact Below.refl _ _ | assumption | refine Below.drew ?_ | refine Below.setCell ?_ (by simp) _ | refine Below.alloc ?_ (by simp) _))).mono ?_; rintro r8 w8 ⟨rfl, hb8'⟩; have hb8 := below_of_drew3 hb8'; have c1 := cell_up c1 hb8; have x3 := cell_up x3 hb8; have H8 : Hid _ := hb8; clear hb8 hb8')
          | fail))
      all_goals (refine Met.intro ?_; apply_assumption; refine Met.intro ?_; apply_assumption; (repeat apply Exists.intro); refine ⟨?rel, rfl⟩; case rel => exact ⟨rfl, by first | exact H8.out | exact below_drewN H8.out _⟩)
    case rest =>
      obtain ⟨rfl, hb2⟩ := hcut
      have hbA : Below W.heap.size W wc := H4.out.2.2.trans (hb2.mono H4.out.2.2.size)
      have hPS := HA.out.2.2.1.below hbA
      have hTo := told_is (faultV bf) 8 e _ (HA.out.2.2.2.below hPS.bl) (H4.out.2.1.below hb2)
      unfold faultV at hTo ⊢
      have H5 : Hid _ := And.intro hPS hTo
      clear hPS hTo hbA hb2 H4
      go_wp2_with fail
      refine Calls.mono H5.out.2 ?_
      rintro r w9 ⟨rfl, hb9⟩
      have H9 : Hid _ := H5.out.1.below hb9
      clear hb9
      go_wp2_with fail
      go_ret
      exact ⟨rfl, _, _, _, _, _, H9.out⟩
set_option maxRecDepth 100000 in
set_option maxHeartbeats 8000000 in
theorem step_text_yes (w0 wr : World) (g bk : Nat) (who : Bool) (b : Nat) (vn vm v : Value) (ns : List ByteArray) (b' : Nat) (vn' vm' v' : Value) (ns' : List ByteArray) (wz nz : Int) (s : ByteArray) (e : Nat → Addr) (x : ByteArray) (h : PSE w0 wr g bk who b vn vm v ns b' vn' vm' v' ns') (hE : Nn w0 e)
    (hP : ∀ W, Tab W b vn vm ns → Nn W e → Calls Tryz.prog 109 #[.pointer (some ⟨b, 0, none⟩), .int .i64 nz] W fun r w' => ∃ ev, r = .returned (.tuple #[.string x, ev]) ∧ ErrIs w' e ev 0 ∧ Below W.heap.size W w')
    (hR : ∀ W, BTexts.Own W 0 v ns → Calls Tryz.prog 118 #[.agg #[v], .int .i64 nz] W fun r w' => r = .returned (.tuple #[.string x, .bool true]) ∧ Below W.heap.size W w') :
    Calls Tryz.prog 79 #[.pointer (some ⟨g, oW who, none⟩), opV 4 wz nz s] wr fun r w' => r = .returned (.bool true) ∧ PSE w0 w' g bk who b vn vm v ns b' vn' vm' v' ns' := by
  unfold opV
  
  obtain ⟨vi, vw, ls, ws, zss, h⟩ := h
  obtain ⟨ar, kr, rfl⟩ := row_shape h.r
  obtain ⟨W, hW⟩ : ∃ W, W = wr.alloc (.cells #[.int .i64 4, .int .i64 wz, .int .i64 nz, .string s] 107) := ⟨_, rfl⟩
  have hbW : Below wr.heap.size wr W := by rw [hW]; exact (Below.refl _ _).alloc (Nat.le_refl _) _
  have hbx : W.heap[wr.heap.size]? = some (.cells #[.int .i64 4, .int .i64 wz, .int .i64 nz, .string s] 107 (0, 0)) := by rw [hW]; exact (MapKept.heap_alloc wr _).1
  have hPW := h.below hbW
  obtain ⟨c0, c1, _⟩ := cells_this hPW.arr
  obtain ⟨x0, x1, x2, x3⟩ := box4 hbx
  obtain ⟨o, ho⟩ : ∃ o, o = oW who := ⟨_, rfl⟩
  rw [← ho] at c0 c1 ⊢
  unfold pB at c0
  have hA := fun W' (hb : Below W.heap.size W W') => hP W' (hPW.t.below hb) (hE.below (hPW.bl.trans (hb.mono hPW.bl.size)))
  have hB := fun W' (hb : Below W.heap.size W W') => hR W' (hPW.below hb).r
  have HA : Hid _ := And.intro hA (And.intro hB (And.intro hPW hE))
  have HW : Hid _ := hW
  clear hA hB hPW hbx ho hE hbW hW h hP hR
  go_enter Tryz.func79, Tryz.ntmps79
  go_upto_region 19 with fail
  rw [← HW.out]
  go_cut [15, 16] (fun sv se wx => ∃ ev, sv = .string x ∧ se = ev ∧ ErrIs wx e ev 0 ∧ Below W.heap.size W wx)
  case first =>
    go_region_held3 (fun w' => w'.cell? ⟨g, o, none⟩ = some (.pointer (some ⟨b, 0, none⟩)) ∧ w'.cell? ⟨wr.heap.size, 2, none⟩ = some (.int .i64 nz)) (go_keep)
      ((first
        | (go_at_call 109; refine (HA.out.1 _ (by repeat (first | exact Below.refl _ _ | assumption | refine Below.drew ?_ | refine Below.setCell ?_ (by simp) _ | refine Below.alloc ?_ (by simp) _))).mono ?_; rintro r8 w8 ⟨ev, rfl, hEr, hb8'⟩; have hb8 := below_of_drew3 hb8'; have c0 := cell_up c0 hb8; have x2 := cell_up x2 hb8; have H8 : Hid _ := And.intro hEr hb8; clear hEr hb8 hb8')
        | fail))
    all_goals (refine Met.intro ?_; apply_assumption; refine Met.intro ?_; apply_assumption; (repeat apply Exists.intro); refine ⟨?rel, rfl⟩; case rel => exact ⟨_, rfl, rfl, by first | exact H8.out | exact ⟨H8.out.1.below (below_drewN (Below.refl _ _) _), below_drewN H8.out.2 _⟩⟩)
  case rest =>
    obtain ⟨ev, rfl, hs6, hEr, hb1⟩ := hcut
    obtain rfl := hs6.symm
    obtain ⟨w1, hw1⟩ : ∃ w1, w1 = wc := ⟨_, rfl⟩
    rw [← hw1] at hEr hb1 ⊢
    clear hw1 wc
    clear c0
    have c1 := cell_up c1 hb1
    have x2 := cell_up x2 hb1
    have hB := fun W' (hb : Below w1.heap.size w1 W') => HA.out.2.1 W' (hb1.trans (hb.mono hb1.size))
    have H4 : Hid _ := And.intro hB (And.intro hEr hb1)
    obtain rfl := hEr.zero
    clear hB hEr hb1
    go_upto_region 20 with fail
    go_cut [17, 18] (fun s17 s18 wx => s17 = .string x ∧ s18 = .bool true ∧ Below w1.heap.size w1 wx)
    case first =>
      go_region_held3 (fun w' => w'.cell? ⟨g, o + 1, none⟩ = some (.slice ar ns.length kr) ∧ w'.cell? ⟨wr.heap.size, 2, none⟩ = some (.int .i64 nz)) (go_keep)
        ((first
          | (go_at_call 118; refine (H4.out.1 _ (by repeat (first | exact Below.refl _ _ | assumption | refine Below.drew ?_ | refine Below.setCell ?_ (by simp) _ | refine Below.alloc ?_ (by simp) _))).mono ?_; rintro r8 w8 ⟨rfl, hb8'⟩; have hb8 := below_of_drew3 hb8'; have c1 := cell_up c1 hb8; have x2 := cell_up x2 hb8; have H8 : Hid _ := hb8; clear hb8 hb8')
          | fail))
      all_goals (refine Met.intro ?_; apply_assumption; refine Met.intro ?_; apply_assumption; (repeat apply Exists.intro); refine ⟨?rel, rfl⟩; case rel => exact ⟨rfl, rfl, by first | exact H8.out | exact below_drewN H8.out _⟩)
    case rest =>
      obtain ⟨rfl, rfl, hb2⟩ := hcut
      have hbA : Below W.heap.size W wc := H4.out.2.2.trans (hb2.mono H4.out.2.2.size)
      have hPS := HA.out.2.2.1.below hbA
      have H5 : Hid _ := hPS
      clear hPS hbA hb2 H4
      go_wp2_with fail
      go_ret
      exact ⟨rfl, _, _, _, _, _, H5.out⟩
set_option maxRecDepth 100000 in
set_option maxHeartbeats 8000000 in
theorem step_text_no (w0 wr : World) (g bk : Nat) (who : Bool) (b : Nat) (vn vm v : Value) (ns : List ByteArray) (b' : Nat) (vn' vm' v' : Value) (ns' : List ByteArray) (wz nz : Int) (s : ByteArray) (e : Nat → Addr) (h : PSE w0 wr g bk who b vn vm v ns b' vn' vm' v' ns') (hE : Nn w0 e)
    (hP : ∀ W, Tab W b vn vm ns → Nn W e → Calls Tryz.prog 109 #[.pointer (some ⟨b, 0, none⟩), .int .i64 nz] W fun r w' => ∃ ev, r = .returned (.tuple #[.string ⟨#[]⟩, ev]) ∧ ErrIs w' e ev 3 ∧ Below W.heap.size W w')
    (hR : ∀ W, BTexts.Own W 0 v ns → Calls Tryz.prog 118 #[.agg #[v], .int .i64 nz] W fun r w' => r = .returned (.tuple #[.string ⟨#[]⟩, .bool false]) ∧ Below W.heap.size W w') :
    Calls Tryz.prog 79 #[.pointer (some ⟨g, oW who, none⟩), opV 4 wz nz s] wr fun r w' => r = .returned (.bool true) ∧ PSE w0 w' g bk who b vn vm v ns b' vn' vm' v' ns' := by
  unfold opV
  
  obtain ⟨vi, vw, ls, ws, zss, h⟩ := h
  obtain ⟨ar, kr, rfl⟩ := row_shape h.r
  obtain ⟨W, hW⟩ : ∃ W, W = wr.alloc (.cells #[.int .i64 4, .int .i64 wz, .int .i64 nz, .string s] 107) := ⟨_, rfl⟩
  have hbW : Below wr.heap.size wr W := by rw [hW]; exact (Below.refl _ _).alloc (Nat.le_refl _) _
  have hbx : W.heap[wr.heap.size]? = some (.cells #[.int .i64 4, .int .i64 wz, .int .i64 nz, .string s] 107 (0, 0)) := by rw [hW]; exact (MapKept.heap_alloc wr _).1
  have hPW := h.below hbW
  obtain ⟨c0, c1, _⟩ := cells_this hPW.arr
  obtain ⟨x0, x1, x2, x3⟩ := box4 hbx
  obtain ⟨o, ho⟩ : ∃ o, o = oW who := ⟨_, rfl⟩
  rw [← ho] at c0 c1 ⊢
  unfold pB at c0
  have hA := fun W' (hb : Below W.heap.size W W') => hP W' (hPW.t.below hb) (hE.below (hPW.bl.trans (hb.mono hPW.bl.size)))
  have hB := fun W' (hb : Below W.heap.size W W') => hR W' (hPW.below hb).r
  have HA : Hid _ := And.intro hA (And.intro hB (And.intro hPW hE))
  have HW : Hid _ := hW
  clear hA hB hPW hbx ho hE hbW hW h hP hR
  go_enter Tryz.func79, Tryz.ntmps79
  go_upto_region 19 with fail
  rw [← HW.out]
  go_cut [15, 16] (fun sv se wx => ∃ ev, sv = .string ⟨#[]⟩ ∧ se = ev ∧ ErrIs wx e ev 3 ∧ Below W.heap.size W wx)
  case first =>
    go_region_held3 (fun w' => w'.cell? ⟨g, o, none⟩ = some (.pointer (some ⟨b, 0, none⟩)) ∧ w'.cell? ⟨wr.heap.size, 2, none⟩ = some (.int .i64 nz)) (go_keep)
      ((first
        | (go_at_call 109; refine (HA.out.1 _ (by repeat (first | exact Below.refl _ _ | assumption | refine Below.drew ?_ | refine Below.setCell ?_ (by simp) _ | refine Below.alloc ?_ (by simp) _))).mono ?_; rintro r8 w8 ⟨ev, rfl, hEr, hb8'⟩; have hb8 := below_of_drew3 hb8'; have c0 := cell_up c0 hb8; have x2 := cell_up x2 hb8; have H8 : Hid _ := And.intro hEr hb8; clear hEr hb8 hb8')
        | fail))
    all_goals (refine Met.intro ?_; apply_assumption; refine Met.intro ?_; apply_assumption; (repeat apply Exists.intro); refine ⟨?rel, rfl⟩; case rel => exact ⟨_, rfl, rfl, by first | exact H8.out | exact ⟨H8.out.1.below (below_drewN (Below.refl _ _) _), below_drewN H8.out.2 _⟩⟩)
  case rest =>
    obtain ⟨ev, rfl, hs6, hEr, hb1⟩ := hcut
    obtain rfl := hs6.symm
    obtain ⟨w1, hw1⟩ : ∃ w1, w1 = wc := ⟨_, rfl⟩
    rw [← hw1] at hEr hb1 ⊢
    clear hw1 wc
    clear c0
    have c1 := cell_up c1 hb1
    have x2 := cell_up x2 hb1
    have hB := fun W' (hb : Below w1.heap.size w1 W') => HA.out.2.1 W' (hb1.trans (hb.mono hb1.size))
    have H4 : Hid _ := And.intro hB (And.intro hEr hb1)
    obtain ⟨bf, rfl⟩ := hEr.fault (by decide)
    clear hB hEr hb1
    go_upto_region 20 with fail
    go_cut [17, 18] (fun s17 s18 wx => s17 = .string ⟨#[]⟩ ∧ s18 = .bool false ∧ Below w1.heap.size w1 wx)
    case first =>
      go_region_held3 (fun w' => w'.cell? ⟨g, o + 1, none⟩ = some (.slice ar ns.length kr) ∧ w'.cell? ⟨wr.heap.size, 2, none⟩ = some (.int .i64 nz)) (go_keep)
        ((first
          | (go_at_call 118; refine (H4.out.1 _ (by repeat (first | exact Below.refl _ _ | assumption | refine Below.drew ?_ | refine Below.setCell ?_ (by simp) _ | refine Below.alloc ?_ (by simp) _))).mono ?_; rintro r8 w8 ⟨rfl, hb8'⟩; have hb8 := below_of_drew3 hb8'; have c1 := cell_up c1 hb8; have x2 := cell_up x2 hb8; have H8 : Hid _ := hb8; clear hb8 hb8')
          | fail))
      all_goals (refine Met.intro ?_; apply_assumption; refine Met.intro ?_; apply_assumption; (repeat apply Exists.intro); refine ⟨?rel, rfl⟩; case rel => exact ⟨rfl, rfl, by first | exact H8.out | exact below_drewN H8.out _⟩)
    case rest =>
      obtain ⟨rfl, rfl, hb2⟩ := hcut
      have hbA : Below W.heap.size W wc := H4.out.2.2.trans (hb2.mono H4.out.2.2.size)
      have hPS := HA.out.2.2.1.below hbA
      have hTo := told_is (faultV bf) 3 e _ (HA.out.2.2.2.below hPS.bl) (H4.out.2.1.below hb2)
      unfold faultV at hTo ⊢
      have H5 : Hid _ := And.intro hPS hTo
      clear hPS hTo hbA hb2 H4
      go_wp2_with fail
      refine Calls.mono H5.out.2 ?_
      rintro r w9 ⟨rfl, hb9⟩
      have H9 : Hid _ := H5.out.1.below hb9
      clear hb9
      go_wp2_with fail
      go_ret
      exact ⟨rfl, _, _, _, _, _, H9.out⟩
set_option maxRecDepth 100000 in
set_option maxHeartbeats 8000000 in
theorem step_read_yes (w0 wr : World) (g bk : Nat) (who : Bool) (b : Nat) (vn vm v : Value) (ns : List ByteArray) (b' : Nat) (vn' vm' v' : Value) (ns' : List ByteArray) (wz nz : Int) (s : ByteArray) (e : Nat → Addr) (l : Int) (h : PSE w0 wr g bk who b vn vm v ns b' vn' vm' v' ns') (hE : Nn w0 e)
    (hP : ∀ W, Tab W b vn vm ns → Nn W e → Calls Tryz.prog 119 #[.pointer (some ⟨b, 0, none⟩), .string s] W fun r w' => ∃ ev, r = .returned (.tuple #[.int .i64 l, ev]) ∧ ErrIs w' e ev 0 ∧ Below W.heap.size W w')
    (hR : ∀ W, BTexts.Own W 0 v ns → Calls Tryz.prog 120 #[.agg #[v], .string s] W fun r w' => r = .returned (.tuple #[.int .i64 l, .bool true]) ∧ Below W.heap.size W w') :
    Calls Tryz.prog 79 #[.pointer (some ⟨g, oW who, none⟩), opV 5 wz nz s] wr fun r w' => r = .returned (.bool true) ∧ PSE w0 w' g bk who b vn vm v ns b' vn' vm' v' ns' := by
  unfold opV
  
  obtain ⟨vi, vw, ls, ws, zss, h⟩ := h
  obtain ⟨ar, kr, rfl⟩ := row_shape h.r
  obtain ⟨W, hW⟩ : ∃ W, W = wr.alloc (.cells #[.int .i64 5, .int .i64 wz, .int .i64 nz, .string s] 107) := ⟨_, rfl⟩
  have hbW : Below wr.heap.size wr W := by rw [hW]; exact (Below.refl _ _).alloc (Nat.le_refl _) _
  have hbx : W.heap[wr.heap.size]? = some (.cells #[.int .i64 5, .int .i64 wz, .int .i64 nz, .string s] 107 (0, 0)) := by rw [hW]; exact (MapKept.heap_alloc wr _).1
  have hPW := h.below hbW
  obtain ⟨c0, c1, _⟩ := cells_this hPW.arr
  obtain ⟨x0, x1, x2, x3⟩ := box4 hbx
  obtain ⟨o, ho⟩ : ∃ o, o = oW who := ⟨_, rfl⟩
  rw [← ho] at c0 c1 ⊢
  unfold pB at c0
  have hA := fun W' (hb : Below W.heap.size W W') => hP W' (hPW.t.below hb) (hE.below (hPW.bl.trans (hb.mono hPW.bl.size)))
  have hB := fun W' (hb : Below W.heap.size W W') => hR W' (hPW.below hb).r
  have HA : Hid _ := And.intro hA (And.intro hB (And.intro hPW hE))
  have HW : Hid _ := hW
  clear hA hB hPW hbx ho hE hbW hW h hP hR
  go_enter Tryz.func79, Tryz.ntmps79
  go_upto_region 25 with fail
  rw [← HW.out]
  go_cut [19, 20] (fun sv se wx => ∃ ev, sv = .int .i64 l ∧ se = ev ∧ ErrIs wx e ev 0 ∧ Below W.heap.size W wx)
  case first =>
    go_region_held3 (fun w' => w'.cell? ⟨g, o, none⟩ = some (.pointer (some ⟨b, 0, none⟩)) ∧ w'.cell? ⟨wr.heap.size, 3, none⟩ = some (.string s)) (go_keep)
      ((first
        | (go_at_call 119; refine (HA.out.1 _ (by repeat (first | exact Below.refl _ _ | assumption | refine Below.drew ?_ | refine Below.setCell ?_ (by simp) _ | refine Below.alloc ?_ (by simp) _))).mono ?_; rintro r8 w8 ⟨ev, rfl, hEr, hb8'⟩; have hb8 := below_of_drew3 hb8'; have c0 := cell_up c0 hb8; have x3 := cell_up x3 hb8; have H8 : Hid _ := And.intro hEr hb8; clear hEr hb8 hb8')
        | fail))
    all_goals (refine Met.intro ?_; apply_assumption; refine Met.intro ?_; apply_assumption; (repeat apply Exists.intro); refine ⟨?rel, rfl⟩; case rel => exact ⟨_, rfl, rfl, by first | exact H8.out | exact ⟨H8.out.1.below (below_drewN (Below.refl _ _) _), below_drewN H8.out.2 _⟩⟩)
  case rest =>
    obtain ⟨ev, rfl, hs6, hEr, hb1⟩ := hcut
    obtain rfl := hs6.symm
    obtain ⟨w1, hw1⟩ : ∃ w1, w1 = wc := ⟨_, rfl⟩
    rw [← hw1] at hEr hb1 ⊢
    clear hw1 wc
    clear c0
    have c1 := cell_up c1 hb1
    have x3 := cell_up x3 hb1
    have hB := fun W' (hb : Below w1.heap.size w1 W') => HA.out.2.1 W' (hb1.trans (hb.mono hb1.size))
    have H4 : Hid _ := And.intro hB (And.intro hEr hb1)
    obtain rfl := hEr.zero
    clear hB hEr hb1
    go_upto_region 26 with fail
    go_cut [21, 22] (fun s21 s22 wx => s21 = .int .i64 l ∧ s22 = .bool true ∧ Below w1.heap.size w1 wx)
    case first =>
      go_region_held3 (fun w' => w'.cell? ⟨g, o + 1, none⟩ = some (.slice ar ns.length kr) ∧ w'.cell? ⟨wr.heap.size, 3, none⟩ = some (.string s)) (go_keep)
        ((first
          | (go_at_call 120; refine (H4.out.1 _ (by repeat (first | exact Below.refl _ _ | assumption | refine Below.drew ?_ | refine Below.setCell ?_ (by simp) _ | refine Below.alloc ?_ (by simp) _))).mono ?_; rintro r8 w8 ⟨rfl, hb8'⟩; have hb8 := below_of_drew3 hb8'; have c1 := cell_up c1 hb8; have x3 := cell_up x3 hb8; have H8 : Hid _ := hb8; clear hb8 hb8')
          | fail))
      all_goals (refine Met.intro ?_; apply_assumption; refine Met.intro ?_; apply_assumption; (repeat apply Exists.intro); refine ⟨?rel, rfl⟩; case rel => exact ⟨rfl, rfl, by first | exact H8.out | exact below_drewN H8.out _⟩)
    case rest =>
      obtain ⟨rfl, rfl, hb2⟩ := hcut
      have hbA : Below W.heap.size W wc := H4.out.2.2.trans (hb2.mono H4.out.2.2.size)
      have hPS := HA.out.2.2.1.below hbA
      have H5 : Hid _ := hPS
      clear hPS hbA hb2 H4
      go_wp2_with fail
      go_ret
      exact ⟨rfl, _, _, _, _, _, H5.out⟩
set_option maxRecDepth 100000 in
set_option maxHeartbeats 8000000 in
theorem step_read_no (w0 wr : World) (g bk : Nat) (who : Bool) (b : Nat) (vn vm v : Value) (ns : List ByteArray) (b' : Nat) (vn' vm' v' : Value) (ns' : List ByteArray) (wz nz : Int) (s : ByteArray) (e : Nat → Addr) (h : PSE w0 wr g bk who b vn vm v ns b' vn' vm' v' ns') (hE : Nn w0 e)
    (hP : ∀ W, Tab W b vn vm ns → Nn W e → Calls Tryz.prog 119 #[.pointer (some ⟨b, 0, none⟩), .string s] W fun r w' => ∃ ev, r = .returned (.tuple #[.int .i64 0, ev]) ∧ ErrIs w' e ev 8 ∧ Below W.heap.size W w')
    (hR : ∀ W, BTexts.Own W 0 v ns → Calls Tryz.prog 120 #[.agg #[v], .string s] W fun r w' => r = .returned (.tuple #[.int .i64 0, .bool false]) ∧ Below W.heap.size W w') :
    Calls Tryz.prog 79 #[.pointer (some ⟨g, oW who, none⟩), opV 5 wz nz s] wr fun r w' => r = .returned (.bool true) ∧ PSE w0 w' g bk who b vn vm v ns b' vn' vm' v' ns' := by
  unfold opV
  
  obtain ⟨vi, vw, ls, ws, zss, h⟩ := h
  obtain ⟨ar, kr, rfl⟩ := row_shape h.r
  obtain ⟨W, hW⟩ : ∃ W, W = wr.alloc (.cells #[.int .i64 5, .int .i64 wz, .int .i64 nz, .string s] 107) := ⟨_, rfl⟩
  have hbW : Below wr.heap.size wr W := by rw [hW]; exact (Below.refl _ _).alloc (Nat.le_refl _) _
  have hbx : W.heap[wr.heap.size]? = some (.cells #[.int .i64 5, .int .i64 wz, .int .i64 nz, .string s] 107 (0, 0)) := by rw [hW]; exact (MapKept.heap_alloc wr _).1
  have hPW := h.below hbW
  obtain ⟨c0, c1, _⟩ := cells_this hPW.arr
  obtain ⟨x0, x1, x2, x3⟩ := box4 hbx
  obtain ⟨o, ho⟩ : ∃ o, o = oW who := ⟨_, rfl⟩
  rw [← ho] at c0 c1 ⊢
  unfold pB at c0
  have hA := fun W' (hb : Below W.heap.size W W') => hP W' (hPW.t.below hb) (hE.below (hPW.bl.trans (hb.mono hPW.bl.size)))
  have hB := fun W' (hb : Below W.heap.size W W') => hR W' (hPW.below hb).r
  have HA : Hid _ := And.intro hA (And.intro hB (And.intro hPW hE))
  have HW : Hid _ := hW
  clear hA hB hPW hbx ho hE hbW hW h hP hR
  go_enter Tryz.func79, Tryz.ntmps79
  go_upto_region 25 with fail
  rw [← HW.out]
  go_cut [19, 20] (fun sv se wx => ∃ ev, sv = .int .i64 0 ∧ se = ev ∧ ErrIs wx e ev 8 ∧ Below W.heap.size W wx)
  case first =>
    go_region_held3 (fun w' => w'.cell? ⟨g, o, none⟩ = some (.pointer (some ⟨b, 0, none⟩)) ∧ w'.cell? ⟨wr.heap.size, 3, none⟩ = some (.string s)) (go_keep)
      ((first
        | (go_at_call 119; refine (HA.out.1 _ (by repeat (first | exact Below.refl _ _ | assumption | refine Below.drew ?_ | refine Below.setCell ?_ (by simp) _ | refine Below.alloc ?_ (by simp) _))).mono ?_; rintro r8 w8 ⟨ev, rfl, hEr, hb8'⟩; have hb8 := below_of_drew3 hb8'; have c0 := cell_up c0 hb8; have x3 := cell_up x3 hb8; have H8 : Hid _ := And.intro hEr hb8; clear hEr hb8 hb8')
        | fail))
    all_goals (refine Met.intro ?_; apply_assumption; refine Met.intro ?_; apply_assumption; (repeat apply Exists.intro); refine ⟨?rel, rfl⟩; case rel => exact ⟨_, rfl, rfl, by first | exact H8.out | exact ⟨H8.out.1.below (below_drewN (Below.refl _ _) _), below_drewN H8.out.2 _⟩⟩)
  case rest =>
    obtain ⟨ev, rfl, hs6, hEr, hb1⟩ := hcut
    obtain rfl := hs6.symm
    obtain ⟨w1, hw1⟩ : ∃ w1, w1 = wc := ⟨_, rfl⟩
    rw [← hw1] at hEr hb1 ⊢
    clear hw1 wc
    clear c0
    have c1 := cell_up c1 hb1
    have x3 := cell_up x3 hb1
    have hB := fun W' (hb : Below w1.heap.size w1 W') => HA.out.2.1 W' (hb1.trans (hb.mono hb1.size))
    have H4 : Hid _ := And.intro hB (And.intro hEr hb1)
    obtain ⟨bf, rfl⟩ := hEr.fault (by decide)
    clear hB hEr hb1
    go_upto_region 26 with fail
    go_cut [21, 22] (fun s21 s22 wx => s21 = .int .i64 0 ∧ s22 = .bool false ∧ Below w1.heap.size w1 wx)
    case first =>
      go_region_held3 (fun w' => w'.cell? ⟨g, o + 1, none⟩ = some (.slice ar ns.length kr) ∧ w'.cell? ⟨wr.heap.size, 3, none⟩ = some (.string s)) (go_keep)
        ((first
          | (go_at_call 120; refine (H4.out.1 _ (by repeat (first | exact Below.refl _ _ | assumption | refine Below.drew ?_ | refine Below.setCell ?_ (by simp) _ | refine Below.alloc ?_ (by simp) _))).mono ?_; rintro r8 w8 ⟨rfl, hb8'⟩; have hb8 := below_of_drew3 hb8'; have c1 := cell_up c1 hb8; have x3 := cell_up x3 hb8; have H8 : Hid _ := hb8; clear hb8 hb8')
          | fail))
      all_goals (refine Met.intro ?_; apply_assumption; refine Met.intro ?_; apply_assumption; (repeat apply Exists.intro); refine ⟨?rel, rfl⟩; case rel => exact ⟨rfl, rfl, by first | exact H8.out | exact below_drewN H8.out _⟩)
    case rest =>
      obtain ⟨rfl, rfl, hb2⟩ := hcut
      have hbA : Below W.heap.size W wc := H4.out.2.2.trans (hb2.mono H4.out.2.2.size)
      have hPS := HA.out.2.2.1.below hbA
      have hTo := told_is (faultV bf) 8 e _ (HA.out.2.2.2.below hPS.bl) (H4.out.2.1.below hb2)
      unfold faultV at hTo ⊢
      have H5 : Hid _ := And.intro hPS hTo
      clear hPS hTo hbA hb2 H4
      go_wp2_with fail
      refine Calls.mono H5.out.2 ?_
      rintro r w9 ⟨rfl, hb9⟩
      have H9 : Hid _ := H5.out.1.below hb9
      clear hb9
      go_wp2_with fail
      go_ret
      exact ⟨rfl, _, _, _, _, _, H9.out⟩
end Go.Proofs.YthcboklkejlifaaGreatDoor
