/- Texts of this claim, joined: RfS6, RfT1, RfT2. -/
import Derived.Test.YtpcndfffljmajaaGreatDoorPart11
import Derived.Test.YtpcndfffljmajaaGreatDoorPart12
import Derived.Deep.QuietTactic
import Derived.BigQuiet
/- Chapter 8's law: a pair's step (kind 6). (Written by mkstep8.py.) -/
namespace Go.Proofs.YtpcndfffljmajaaGreatDoor
open Go.RowKit Go.Maps
attribute [local go_sem ↓] Go.wp_at_zero Go.wp_at_succ
set_option maxRecDepth 100000 in
set_option maxHeartbeats 8000000 in
theorem step6_neg (wB w0 : World) (g pb bB bM : Nat) (vB vM : Value) (s : Pst) (g' pb' bB' bM' : Nat) (vB' vM' : Value) (s' : Pst) (e : Nat → Addr) (kz z : Int) (k1 : ¬ kz = 1) (k2 : ¬ kz = 2) (k3 : ¬ kz = 3) (k4 : ¬ kz = 4) (k5 : ¬ kz = 5) (hz : z < 0) (h : PS (fun _ => False) wB w0 g pb bB bM vB vM s g' pb' bB' bM' vB' vM' s') (hE : Er 19 wB e) (hR : EnvR wB (e 1) (e 3)) :
    Calls Tryz.prog 13 #[.pointer (some ⟨g, 0, none⟩), .agg #[.int .i64 kz, .int .i64 z]] w0 fun r w' => r = .returned (.bool true) ∧ PE wB w' g g' := by
  obtain ⟨aB, kB, hvB, haB⟩ := h.a.dd.sB
  obtain ⟨aM, kM, hvM, haM⟩ := h.a.dd.sM
  subst hvB
  subst hvM
  have hn := h.a.ok.n1
  have hnb := h.a.ok.few
  have d1 : decide ((0 : Int) ≤ z) = false := decide_eq_false (by omega)
  have d0 : ¬ (0 : Int) ≤ z := by omega
  have e1 : (kz == 1) = false := by simpa using k1
  have e2 : (kz == 2) = false := by simpa using k2
  have e3 : (kz == 3) = false := by simpa using k3
  have e4 : (kz == 4) = false := by simpa using k4
  have e5 : (kz == 5) = false := by simpa using k5
  obtain ⟨W, hW⟩ : ∃ W, W = w0.alloc (.cells #[.int .i64 kz, .int .i64 z] 68) := ⟨_, rfl⟩
  have hbW : Below w0.heap.size w0 W := by rw [hW]; exact (Below.refl _ _).alloc (Nat.le_refl _) _
  have hbx : W.heap[w0.heap.size]? = some (.cells #[.int .i64 kz, .int .i64 z] 68 (0, 0)) := by rw [hW]; exact (MapKept.heap_alloc w0 _).1
  have hPW := h.below hbW
  obtain ⟨c0, c1, c2, c3, c4⟩ := hPW.a.cells
  have x0 := cell0_of (k := 0) hbx rfl
  have x1 := cell0_of (k := 1) hbx rfl
  have hEW := hE.below hPW.a.bl
  have hRW := hR.below hPW.a.bl
  have HP : Hid (PS (fun _ => False) wB W g pb bB bM (.slice aB s.n kB) (.slice aM s.n kM) s g' pb' bB' bM' vB' vM' s' ∧ W.heap[w0.heap.size]? = some (.cells #[.int .i64 kz, .int .i64 z] 68 (0, 0)) ∧ Er 19 W e ∧ EnvR W (e 1) (e 3)) := ⟨hPW, hbx, hEW, hRW⟩
  have HS : Hid ((0 < s.n → aB = some ⟨bB, 0, none⟩) ∧ (0 < s.n → aM = some ⟨bM, 0, none⟩)) := ⟨haB, haM⟩
  have HW : Hid _ := hW
  clear hPW hbx hEW hRW hbW hW h hE hR haB haM
  go_enter Tryz.func13, Tryz.ntmps13
  go_upto_region 1 with fail
  rw [← HW.out]
  clear HW
  go_quiet (fail)
  rename Nat => q1
  go_wp2_with fail
  go_quiet (fail)
  rename Nat => q2
  obtain ⟨w1, hw1⟩ : ∃ w1, w1 = (W.drewN q1).drewN q2 := ⟨_, rfl⟩
  rw [← hw1]
  have hb1 : Below W.heap.size W w1 := by rw [hw1]; exact below_drewN (below_drewN (Below.refl _ _) _) _
  have H1 : Hid (PS (fun _ => False) wB w1 g pb bB bM (.slice aB s.n kB) (.slice aM s.n kM) s g' pb' bB' bM' vB' vM' s' ∧ w1.heap[w0.heap.size]? = some (.cells #[.int .i64 kz, .int .i64 z] 68 (0, 0)) ∧ Er 19 w1 e ∧ EnvR w1 (e 1) (e 3)) := ⟨HP.out.1.below hb1, res_up hb1 HP.out.2.1, HP.out.2.2.1.below hb1, HP.out.2.2.2.below hb1⟩
  clear hw1 hb1 HP c0 c1 c2 c3 c4 x0 x1
  obtain ⟨c0, c1, c2, c3, c4⟩ := H1.out.1.a.cells
  have x0 := cell0_of (k := 0) H1.out.2.1 rfl
  have x1 := cell0_of (k := 1) H1.out.2.1 rfl
  have gx : ¬ w0.heap.size = pb := by
    obtain ⟨c, hP, _⟩ := H1.out.1.a.pt
    obtain ⟨cs, hc, _⟩ := hP.ids
    exact typed_ne H1.out.2.1 hc (by decide)
  have gp : ¬ g = pb := H1.out.1.a.ne.1
  have hL := looks_any wB w1 g pb bB bM _ _ s g' pb' bB' bM' vB' vM' s' H1.out.1
  have HL : Hid _ := hL
  clear hL
  go_wp2_with fail
  refine Calls.mono HL.out ?_
  rintro r w9 ⟨rfl, hP9⟩
  have H9 : Hid _ := hP9
  clear hP9
  go_wp2_with fail
  go_ret
  exact ⟨rfl, H9.out.pe⟩
set_option maxRecDepth 100000 in
set_option maxHeartbeats 8000000 in
theorem step6_pos (wB w0 : World) (g pb bB bM : Nat) (vB vM : Value) (s : Pst) (g' pb' bB' bM' : Nat) (vB' vM' : Value) (s' : Pst) (e : Nat → Addr) (kz z : Int) (k1 : ¬ kz = 1) (k2 : ¬ kz = 2) (k3 : ¬ kz = 3) (k4 : ¬ kz = 4) (k5 : ¬ kz = 5) (hz : 0 ≤ z) (h : PS (fun _ => False) wB w0 g pb bB bM vB vM s g' pb' bB' bM' vB' vM' s') (hE : Er 19 wB e) (hR : EnvR wB (e 1) (e 3)) :
    Calls Tryz.prog 13 #[.pointer (some ⟨g, 0, none⟩), .agg #[.int .i64 kz, .int .i64 z]] w0 fun r w' => r = .returned (.bool true) ∧ PE wB w' g g' := by
  obtain ⟨aB, kB, hvB, haB⟩ := h.a.dd.sB
  obtain ⟨aM, kM, hvM, haM⟩ := h.a.dd.sM
  subst hvB
  subst hvM
  have hn := h.a.ok.n1
  have hnb := h.a.ok.few
  have d1 : (0 : Int) ≤ z := hz
  have e1 : (kz == 1) = false := by simpa using k1
  have e2 : (kz == 2) = false := by simpa using k2
  have e3 : (kz == 3) = false := by simpa using k3
  have e4 : (kz == 4) = false := by simpa using k4
  have e5 : (kz == 5) = false := by simpa using k5
  obtain ⟨W, hW⟩ : ∃ W, W = w0.alloc (.cells #[.int .i64 kz, .int .i64 z] 68) := ⟨_, rfl⟩
  have hbW : Below w0.heap.size w0 W := by rw [hW]; exact (Below.refl _ _).alloc (Nat.le_refl _) _
  have hbx : W.heap[w0.heap.size]? = some (.cells #[.int .i64 kz, .int .i64 z] 68 (0, 0)) := by rw [hW]; exact (MapKept.heap_alloc w0 _).1
  have hPW := h.below hbW
  obtain ⟨c0, c1, c2, c3, c4⟩ := hPW.a.cells
  have x0 := cell0_of (k := 0) hbx rfl
  have x1 := cell0_of (k := 1) hbx rfl
  have hEW := hE.below hPW.a.bl
  have hRW := hR.below hPW.a.bl
  have HP : Hid (PS (fun _ => False) wB W g pb bB bM (.slice aB s.n kB) (.slice aM s.n kM) s g' pb' bB' bM' vB' vM' s' ∧ W.heap[w0.heap.size]? = some (.cells #[.int .i64 kz, .int .i64 z] 68 (0, 0)) ∧ Er 19 W e ∧ EnvR W (e 1) (e 3)) := ⟨hPW, hbx, hEW, hRW⟩
  have HS : Hid ((0 < s.n → aB = some ⟨bB, 0, none⟩) ∧ (0 < s.n → aM = some ⟨bM, 0, none⟩)) := ⟨haB, haM⟩
  have HW : Hid _ := hW
  clear hPW hbx hEW hRW hbW hW h hE hR haB haM
  go_enter Tryz.func13, Tryz.ntmps13
  go_upto_region 1 with fail
  rw [← HW.out]
  clear HW
  go_quiet (fail)
  rename Nat => q1
  go_wp2_with fail
  go_quiet (fail)
  rename Nat => q2
  obtain ⟨w1, hw1⟩ : ∃ w1, w1 = (W.drewN q1).drewN q2 := ⟨_, rfl⟩
  rw [← hw1]
  have hb1 : Below W.heap.size W w1 := by rw [hw1]; exact below_drewN (below_drewN (Below.refl _ _) _) _
  have H1 : Hid (PS (fun _ => False) wB w1 g pb bB bM (.slice aB s.n kB) (.slice aM s.n kM) s g' pb' bB' bM' vB' vM' s' ∧ w1.heap[w0.heap.size]? = some (.cells #[.int .i64 kz, .int .i64 z] 68 (0, 0)) ∧ Er 19 w1 e ∧ EnvR w1 (e 1) (e 3)) := ⟨HP.out.1.below hb1, res_up hb1 HP.out.2.1, HP.out.2.2.1.below hb1, HP.out.2.2.2.below hb1⟩
  clear hw1 hb1 HP c0 c1 c2 c3 c4 x0 x1
  obtain ⟨c0, c1, c2, c3, c4⟩ := H1.out.1.a.cells
  have x0 := cell0_of (k := 0) H1.out.2.1 rfl
  have x1 := cell0_of (k := 1) H1.out.2.1 rfl
  have gx : ¬ w0.heap.size = pb := by
    obtain ⟨c, hP, _⟩ := H1.out.1.a.pt
    obtain ⟨cs, hc, _⟩ := hP.ids
    exact typed_ne H1.out.2.1 hc (by decide)
  have gp : ¬ g = pb := H1.out.1.a.ne.1
  have hL := looks_any wB w1 g pb bB bM _ _ s g' pb' bB' bM' vB' vM' s' H1.out.1
  have HL : Hid _ := hL
  clear hL
  go_wp2_with fail
  refine Calls.mono HL.out ?_
  rintro r w9 ⟨rfl, hP9⟩
  have H9 : Hid _ := hP9
  clear hP9
  go_wp2_with fail
  go_ret
  exact ⟨rfl, H9.out.pe⟩
end Go.Proofs.YtpcndfffljmajaaGreatDoor
/- Chapter 8's law: a pair's step (kind 1, refused). (Written by mkstep8.py.) -/
namespace Go.Proofs.YtpcndfffljmajaaGreatDoor
open Go.RowKit Go.Maps
attribute [local go_sem ↓] Go.wp_at_zero Go.wp_at_succ
set_option maxRecDepth 100000 in
set_option maxHeartbeats 8000000 in
theorem step1_neg (wB w0 : World) (g pb bB bM : Nat) (vB vM : Value) (s : Pst) (g' pb' bB' bM' : Nat) (vB' vM' : Value) (s' : Pst) (e : Nat → Addr) (z : Int) (hz : z < 0) (h : PS (fun _ => False) wB w0 g pb bB bM vB vM s g' pb' bB' bM' vB' vM' s') (hE : Er 19 wB e) (hR : EnvR wB (e 1) (e 3)) :
    Calls Tryz.prog 13 #[.pointer (some ⟨g, 0, none⟩), .agg #[.int .i64 1, .int .i64 z]] w0 fun r w' => r = .returned (.bool true) ∧ PE wB w' g g' := by
  obtain ⟨aB, kB, hvB, haB⟩ := h.a.dd.sB
  obtain ⟨aM, kM, hvM, haM⟩ := h.a.dd.sM
  subst hvB
  subst hvM
  have hn := h.a.ok.n1
  have hnb := h.a.ok.few
  have d1 : decide ((0 : Int) ≤ z) = false := decide_eq_false (by omega)
  have d0 : ¬ (0 : Int) ≤ z := by omega
  obtain ⟨W, hW⟩ : ∃ W, W = w0.alloc (.cells #[.int .i64 1, .int .i64 z] 68) := ⟨_, rfl⟩
  have hbW : Below w0.heap.size w0 W := by rw [hW]; exact (Below.refl _ _).alloc (Nat.le_refl _) _
  have hbx : W.heap[w0.heap.size]? = some (.cells #[.int .i64 1, .int .i64 z] 68 (0, 0)) := by rw [hW]; exact (MapKept.heap_alloc w0 _).1
  have hPW := h.below hbW
  obtain ⟨c0, c1, c2, c3, c4⟩ := hPW.a.cells
  have x0 := cell0_of (k := 0) hbx rfl
  have x1 := cell0_of (k := 1) hbx rfl
  have hEW := hE.below hPW.a.bl
  have hRW := hR.below hPW.a.bl
  have HP : Hid (PS (fun _ => False) wB W g pb bB bM (.slice aB s.n kB) (.slice aM s.n kM) s g' pb' bB' bM' vB' vM' s' ∧ W.heap[w0.heap.size]? = some (.cells #[.int .i64 1, .int .i64 z] 68 (0, 0)) ∧ Er 19 W e ∧ EnvR W (e 1) (e 3)) := ⟨hPW, hbx, hEW, hRW⟩
  have HS : Hid ((0 < s.n → aB = some ⟨bB, 0, none⟩) ∧ (0 < s.n → aM = some ⟨bM, 0, none⟩)) := ⟨haB, haM⟩
  have HW : Hid _ := hW
  clear hPW hbx hEW hRW hbW hW h hE hR haB haM
  go_enter Tryz.func13, Tryz.ntmps13
  go_upto_region 1 with fail
  rw [← HW.out]
  clear HW
  go_quiet (fail)
  rename Nat => q1
  go_wp2_with fail
  go_quiet (fail)
  rename Nat => q2
  obtain ⟨w1, hw1⟩ : ∃ w1, w1 = (W.drewN q1).drewN q2 := ⟨_, rfl⟩
  rw [← hw1]
  have hb1 : Below W.heap.size W w1 := by rw [hw1]; exact below_drewN (below_drewN (Below.refl _ _) _) _
  have H1 : Hid (PS (fun _ => False) wB w1 g pb bB bM (.slice aB s.n kB) (.slice aM s.n kM) s g' pb' bB' bM' vB' vM' s' ∧ w1.heap[w0.heap.size]? = some (.cells #[.int .i64 1, .int .i64 z] 68 (0, 0)) ∧ Er 19 w1 e ∧ EnvR w1 (e 1) (e 3)) := ⟨HP.out.1.below hb1, res_up hb1 HP.out.2.1, HP.out.2.2.1.below hb1, HP.out.2.2.2.below hb1⟩
  clear hw1 hb1 HP c0 c1 c2 c3 c4 x0 x1
  obtain ⟨c0, c1, c2, c3, c4⟩ := H1.out.1.a.cells
  have x0 := cell0_of (k := 0) H1.out.2.1 rfl
  have x1 := cell0_of (k := 1) H1.out.2.1 rfl
  have gx : ¬ w0.heap.size = pb := by
    obtain ⟨c, hP, _⟩ := H1.out.1.a.pt
    obtain ⟨cs, hc, _⟩ := hP.ids
    exact typed_ne H1.out.2.1 hc (by decide)
  have gp : ¬ g = pb := H1.out.1.a.ne.1
  have hM : ∀ W' (_ : Below w1.heap.size w1 W'), Calls Tryz.prog 16 #[.pointer (some ⟨pb, 0, none⟩), .int .i64 z] W' fun r w' => ∃ x, r = .returned (.tuple #[.bool false, x]) ∧ Chain w' 0 0 (e 3) [refB] x ∧ Below W'.heap.size W' w' := fun W' hb => by
    obtain ⟨c, hP, hL⟩ := (H1.out.1.a.below hb).pt
    exact mark_bad pb c s z (e 1) (e 3) wB W' hP hL (H1.out.2.2.2.below hb) (.inl hz)
  have HM : Hid _ := hM
  clear hM
  go_wp2_with fail
  go_cut [7, 8] (fun s7 s8 wx => ∃ x8, s7 = .bool false ∧ s8 = x8 ∧ Chain wx 0 0 (e 3) [refB] x8 ∧ Below w1.heap.size w1 wx)
  case first =>
    go_region_held3 (fun w' => w'.cell? ⟨g, 0, none⟩ = some (.pointer (some ⟨pb, 0, none⟩)) ∧ w'.cell? ⟨w0.heap.size, 1, none⟩ = some (.int .i64 z)) (go_keep)
      ((first
        | (go_at_call 16; refine (HM.out _ (by repeat (first | exact Below.refl _ _ | assumption | refine Below.drew ?_ | refine Below.setCell ?_ (by simp) _ | refine Below.alloc ?_ (by simp) _))).mono ?_; rintro r8 w8 ⟨x8, rfl, hC8, hb8'⟩; have hb8 := below_of_drew3 hb8'; have c0 := cell_up c0 hb8; have x1 := cell_up x1 hb8; have H8 : Hid (Chain w8 0 0 (e 3) [refB] x8 ∧ Below w1.heap.size w1 w8) := ⟨hC8, hb8⟩; clear hC8 hb8 hb8')
        | fail))
    all_goals (refine Met.intro ?_; apply_assumption; refine Met.intro ?_; apply_assumption; (repeat apply Exists.intro); refine ⟨?rel, rfl⟩; case rel => exact ⟨_, rfl, rfl, by first | exact H8.out.1 | exact H8.out.1.drew _, by first | exact H8.out.2 | exact below_drewN H8.out.2 _⟩)
  case rest =>
    obtain ⟨x8, rfl, hx8, hC, hb⟩ := hcut
    obtain rfl := hx8.symm
    clear hx8
    have hI := index_bad x8 e wc (H1.out.2.2.1.below hb) hC
    have HI : Hid _ := And.intro hI (H1.out.1.below hb)
    clear hI hC hb HM c0 c1 c2 c3 c4 x0 x1
    go_wp2_with fail
    refine Calls.mono HI.out.1 ?_
    rintro r w9 ⟨rfl, hb9⟩
    have H9 : Hid _ := HI.out.2.below hb9
    clear hb9
    go_wp2_with fail
    go_ret
    exact ⟨rfl, H9.out.pe⟩
set_option maxRecDepth 100000 in
set_option maxHeartbeats 8000000 in
theorem step1_isnt (wB w0 : World) (g pb bB bM : Nat) (vB vM : Value) (s : Pst) (g' pb' bB' bM' : Nat) (vB' vM' : Value) (s' : Pst) (e : Nat → Addr) (z : Nat) (hz2 : s.n ≤ z) (h : PS (fun _ => False) wB w0 g pb bB bM vB vM s g' pb' bB' bM' vB' vM' s') (hE : Er 19 wB e) (hR : EnvR wB (e 1) (e 3)) :
    Calls Tryz.prog 13 #[.pointer (some ⟨g, 0, none⟩), .agg #[.int .i64 1, .int .i64 (z : Int)]] w0 fun r w' => r = .returned (.bool true) ∧ PE wB w' g g' := by
  obtain ⟨aB, kB, hvB, haB⟩ := h.a.dd.sB
  obtain ⟨aM, kM, hvM, haM⟩ := h.a.dd.sM
  subst hvB
  subst hvM
  have hn := h.a.ok.n1
  have hnb := h.a.ok.few
  have d1 : (0 : Int) ≤ (z : Int) := by omega
  have d2 : decide ((z : Int) < (s.n : Int)) = false := decide_eq_false (by omega)
  have d5 : ¬ (z : Int) < (s.n : Int) := by omega
  have d6 : ¬ z < s.n := by omega
  obtain ⟨W, hW⟩ : ∃ W, W = w0.alloc (.cells #[.int .i64 1, .int .i64 (z : Int)] 68) := ⟨_, rfl⟩
  have hbW : Below w0.heap.size w0 W := by rw [hW]; exact (Below.refl _ _).alloc (Nat.le_refl _) _
  have hbx : W.heap[w0.heap.size]? = some (.cells #[.int .i64 1, .int .i64 (z : Int)] 68 (0, 0)) := by rw [hW]; exact (MapKept.heap_alloc w0 _).1
  have hPW := h.below hbW
  obtain ⟨c0, c1, c2, c3, c4⟩ := hPW.a.cells
  have x0 := cell0_of (k := 0) hbx rfl
  have x1 := cell0_of (k := 1) hbx rfl
  have hEW := hE.below hPW.a.bl
  have hRW := hR.below hPW.a.bl
  have HP : Hid (PS (fun _ => False) wB W g pb bB bM (.slice aB s.n kB) (.slice aM s.n kM) s g' pb' bB' bM' vB' vM' s' ∧ W.heap[w0.heap.size]? = some (.cells #[.int .i64 1, .int .i64 (z : Int)] 68 (0, 0)) ∧ Er 19 W e ∧ EnvR W (e 1) (e 3)) := ⟨hPW, hbx, hEW, hRW⟩
  have HS : Hid ((0 < s.n → aB = some ⟨bB, 0, none⟩) ∧ (0 < s.n → aM = some ⟨bM, 0, none⟩)) := ⟨haB, haM⟩
  have HW : Hid _ := hW
  clear hPW hbx hEW hRW hbW hW h hE hR haB haM
  go_enter Tryz.func13, Tryz.ntmps13
  go_upto_region 1 with fail
  rw [← HW.out]
  clear HW
  go_quiet (fail)
  rename Nat => q1
  go_wp2_with fail
  go_quiet (fail)
  rename Nat => q2
  obtain ⟨w1, hw1⟩ : ∃ w1, w1 = (W.drewN q1).drewN q2 := ⟨_, rfl⟩
  rw [← hw1]
  have hb1 : Below W.heap.size W w1 := by rw [hw1]; exact below_drewN (below_drewN (Below.refl _ _) _) _
  have H1 : Hid (PS (fun _ => False) wB w1 g pb bB bM (.slice aB s.n kB) (.slice aM s.n kM) s g' pb' bB' bM' vB' vM' s' ∧ w1.heap[w0.heap.size]? = some (.cells #[.int .i64 1, .int .i64 (z : Int)] 68 (0, 0)) ∧ Er 19 w1 e ∧ EnvR w1 (e 1) (e 3)) := ⟨HP.out.1.below hb1, res_up hb1 HP.out.2.1, HP.out.2.2.1.below hb1, HP.out.2.2.2.below hb1⟩
  clear hw1 hb1 HP c0 c1 c2 c3 c4 x0 x1
  obtain ⟨c0, c1, c2, c3, c4⟩ := H1.out.1.a.cells
  have x0 := cell0_of (k := 0) H1.out.2.1 rfl
  have x1 := cell0_of (k := 1) H1.out.2.1 rfl
  have gx : ¬ w0.heap.size = pb := by
    obtain ⟨c, hP, _⟩ := H1.out.1.a.pt
    obtain ⟨cs, hc, _⟩ := hP.ids
    exact typed_ne H1.out.2.1 hc (by decide)
  have gp : ¬ g = pb := H1.out.1.a.ne.1
  have hM : ∀ W' (_ : Below w1.heap.size w1 W'), Calls Tryz.prog 16 #[.pointer (some ⟨pb, 0, none⟩), .int .i64 (z : Int)] W' fun r w' => ∃ x, r = .returned (.tuple #[.bool false, x]) ∧ Chain w' 0 0 (e 3) [refB] x ∧ Below W'.heap.size W' w' := fun W' hb => by
    obtain ⟨c, hP, hL⟩ := (H1.out.1.a.below hb).pt
    exact mark_bad pb c s (z : Int) (e 1) (e 3) wB W' hP hL (H1.out.2.2.2.below hb) (.inr (by omega))
  have HM : Hid _ := hM
  clear hM
  go_wp2_with fail
  go_cut [7, 8] (fun s7 s8 wx => ∃ x8, s7 = .bool false ∧ s8 = x8 ∧ Chain wx 0 0 (e 3) [refB] x8 ∧ Below w1.heap.size w1 wx)
  case first =>
    go_region_held3 (fun w' => w'.cell? ⟨g, 0, none⟩ = some (.pointer (some ⟨pb, 0, none⟩)) ∧ w'.cell? ⟨w0.heap.size, 1, none⟩ = some (.int .i64 (z : Int))) (go_keep)
      ((first
        | (go_at_call 16; refine (HM.out _ (by repeat (first | exact Below.refl _ _ | assumption | refine Below.drew ?_ | refine Below.setCell ?_ (by simp) _ | refine Below.alloc ?_ (by simp) _))).mono ?_; rintro r8 w8 ⟨x8, rfl, hC8, hb8'⟩; have hb8 := below_of_drew3 hb8'; have c0 := cell_up c0 hb8; have x1 := cell_up x1 hb8; have H8 : Hid (Chain w8 0 0 (e 3) [refB] x8 ∧ Below w1.heap.size w1 w8) := ⟨hC8, hb8⟩; clear hC8 hb8 hb8')
        | fail))
    all_goals (refine Met.intro ?_; apply_assumption; refine Met.intro ?_; apply_assumption; (repeat apply Exists.intro); refine ⟨?rel, rfl⟩; case rel => exact ⟨_, rfl, rfl, by first | exact H8.out.1 | exact H8.out.1.drew _, by first | exact H8.out.2 | exact below_drewN H8.out.2 _⟩)
  case rest =>
    obtain ⟨x8, rfl, hx8, hC, hb⟩ := hcut
    obtain rfl := hx8.symm
    clear hx8
    have hI := index_bad x8 e wc (H1.out.2.2.1.below hb) hC
    have HI : Hid _ := And.intro hI (H1.out.1.below hb)
    clear hI hC hb HM c0 c1 c2 c3 c4 x0 x1
    go_wp2_with fail
    refine Calls.mono HI.out.1 ?_
    rintro r w9 ⟨rfl, hb9⟩
    have H9 : Hid _ := HI.out.2.below hb9
    clear hb9
    go_wp2_with fail
    go_ret
    exact ⟨rfl, H9.out.pe⟩
end Go.Proofs.YtpcndfffljmajaaGreatDoor
/- Chapter 8's law: a pair's step (kind 2, refused). (Written by mkstep8.py.) -/
namespace Go.Proofs.YtpcndfffljmajaaGreatDoor
open Go.RowKit Go.Maps
attribute [local go_sem ↓] Go.wp_at_zero Go.wp_at_succ
set_option maxRecDepth 100000 in
set_option maxHeartbeats 8000000 in
theorem step2_neg (wB w0 : World) (g pb bB bM : Nat) (vB vM : Value) (s : Pst) (g' pb' bB' bM' : Nat) (vB' vM' : Value) (s' : Pst) (e : Nat → Addr) (z : Int) (hz : z < 0) (h : PS (fun _ => False) wB w0 g pb bB bM vB vM s g' pb' bB' bM' vB' vM' s') (hE : Er 19 wB e) (hR : EnvR wB (e 1) (e 3)) :
    Calls Tryz.prog 13 #[.pointer (some ⟨g, 0, none⟩), .agg #[.int .i64 2, .int .i64 z]] w0 fun r w' => r = .returned (.bool true) ∧ PE wB w' g g' := by
  obtain ⟨aB, kB, hvB, haB⟩ := h.a.dd.sB
  obtain ⟨aM, kM, hvM, haM⟩ := h.a.dd.sM
  subst hvB
  subst hvM
  have hn := h.a.ok.n1
  have hnb := h.a.ok.few
  have d1 : decide ((0 : Int) ≤ z) = false := decide_eq_false (by omega)
  have d0 : ¬ (0 : Int) ≤ z := by omega
  obtain ⟨W, hW⟩ : ∃ W, W = w0.alloc (.cells #[.int .i64 2, .int .i64 z] 68) := ⟨_, rfl⟩
  have hbW : Below w0.heap.size w0 W := by rw [hW]; exact (Below.refl _ _).alloc (Nat.le_refl _) _
  have hbx : W.heap[w0.heap.size]? = some (.cells #[.int .i64 2, .int .i64 z] 68 (0, 0)) := by rw [hW]; exact (MapKept.heap_alloc w0 _).1
  have hPW := h.below hbW
  obtain ⟨c0, c1, c2, c3, c4⟩ := hPW.a.cells
  have x0 := cell0_of (k := 0) hbx rfl
  have x1 := cell0_of (k := 1) hbx rfl
  have hEW := hE.below hPW.a.bl
  have hRW := hR.below hPW.a.bl
  have HP : Hid (PS (fun _ => False) wB W g pb bB bM (.slice aB s.n kB) (.slice aM s.n kM) s g' pb' bB' bM' vB' vM' s' ∧ W.heap[w0.heap.size]? = some (.cells #[.int .i64 2, .int .i64 z] 68 (0, 0)) ∧ Er 19 W e ∧ EnvR W (e 1) (e 3)) := ⟨hPW, hbx, hEW, hRW⟩
  have HS : Hid ((0 < s.n → aB = some ⟨bB, 0, none⟩) ∧ (0 < s.n → aM = some ⟨bM, 0, none⟩)) := ⟨haB, haM⟩
  have HW : Hid _ := hW
  clear hPW hbx hEW hRW hbW hW h hE hR haB haM
  go_enter Tryz.func13, Tryz.ntmps13
  go_upto_region 1 with fail
  rw [← HW.out]
  clear HW
  go_quiet (fail)
  rename Nat => q1
  go_wp2_with fail
  go_quiet (fail)
  rename Nat => q2
  obtain ⟨w1, hw1⟩ : ∃ w1, w1 = (W.drewN q1).drewN q2 := ⟨_, rfl⟩
  rw [← hw1]
  have hb1 : Below W.heap.size W w1 := by rw [hw1]; exact below_drewN (below_drewN (Below.refl _ _) _) _
  have H1 : Hid (PS (fun _ => False) wB w1 g pb bB bM (.slice aB s.n kB) (.slice aM s.n kM) s g' pb' bB' bM' vB' vM' s' ∧ w1.heap[w0.heap.size]? = some (.cells #[.int .i64 2, .int .i64 z] 68 (0, 0)) ∧ Er 19 w1 e ∧ EnvR w1 (e 1) (e 3)) := ⟨HP.out.1.below hb1, res_up hb1 HP.out.2.1, HP.out.2.2.1.below hb1, HP.out.2.2.2.below hb1⟩
  clear hw1 hb1 HP c0 c1 c2 c3 c4 x0 x1
  obtain ⟨c0, c1, c2, c3, c4⟩ := H1.out.1.a.cells
  have x0 := cell0_of (k := 0) H1.out.2.1 rfl
  have x1 := cell0_of (k := 1) H1.out.2.1 rfl
  have gx : ¬ w0.heap.size = pb := by
    obtain ⟨c, hP, _⟩ := H1.out.1.a.pt
    obtain ⟨cs, hc, _⟩ := hP.ids
    exact typed_ne H1.out.2.1 hc (by decide)
  have gp : ¬ g = pb := H1.out.1.a.ne.1
  have hM : ∀ W' (_ : Below w1.heap.size w1 W'), Calls Tryz.prog 17 #[.pointer (some ⟨pb, 0, none⟩), .int .i64 z] W' fun r w' => ∃ x, r = .returned (.tuple #[.int .i64 0, .bool false, x]) ∧ Chain w' 0 0 (e 3) [refB] x ∧ Below W'.heap.size W' w' := fun W' hb => by
    obtain ⟨c, hP, hL⟩ := (H1.out.1.a.below hb).pt
    exact split_bad pb c s z (e 1) (e 3) wB W' hP hL (H1.out.2.2.2.below hb) (.inl hz)
  have HM : Hid _ := hM
  clear hM
  go_wp2_with fail
  go_cut [10, 11, 12] (fun s10 s11 s12 wx => ∃ x8, s10 = .int .i64 0 ∧ s11 = .bool false ∧ s12 = x8 ∧ Chain wx 0 0 (e 3) [refB] x8 ∧ Below w1.heap.size w1 wx)
  case first =>
    go_region_held3 (fun w' => w'.cell? ⟨g, 0, none⟩ = some (.pointer (some ⟨pb, 0, none⟩)) ∧ w'.cell? ⟨w0.heap.size, 1, none⟩ = some (.int .i64 z)) (go_keep)
      ((first
        | (go_at_call 17; refine (HM.out _ (by repeat (first | exact Below.refl _ _ | assumption | refine Below.drew ?_ | refine Below.setCell ?_ (by simp) _ | refine Below.alloc ?_ (by simp) _))).mono ?_; rintro r8 w8 ⟨x8, rfl, hC8, hb8'⟩; have hb8 := below_of_drew3 hb8'; have c0 := cell_up c0 hb8; have x1 := cell_up x1 hb8; have H8 : Hid (Chain w8 0 0 (e 3) [refB] x8 ∧ Below w1.heap.size w1 w8) := ⟨hC8, hb8⟩; clear hC8 hb8 hb8')
        | fail))
    all_goals (refine Met.intro ?_; apply_assumption; refine Met.intro ?_; apply_assumption; (repeat apply Exists.intro); refine ⟨?rel, rfl⟩; case rel => exact ⟨_, rfl, rfl, rfl, by first | exact H8.out.1 | exact H8.out.1.drew _, by first | exact H8.out.2 | exact below_drewN H8.out.2 _⟩)
  case rest =>
    obtain ⟨x8, rfl, rfl, hx8, hC, hb⟩ := hcut
    obtain rfl := hx8.symm
    clear hx8
    have hI := index_bad x8 e wc (H1.out.2.2.1.below hb) hC
    have HI : Hid _ := And.intro hI (H1.out.1.below hb)
    clear hI hC hb HM c0 c1 c2 c3 c4 x0 x1
    go_wp2_with fail
    refine Calls.mono HI.out.1 ?_
    rintro r w9 ⟨rfl, hb9⟩
    have H9 : Hid _ := HI.out.2.below hb9
    clear hb9
    go_wp2_with fail
    go_ret
    exact ⟨rfl, H9.out.pe⟩
set_option maxRecDepth 100000 in
set_option maxHeartbeats 8000000 in
theorem step2_hasnt (wB w0 : World) (g pb bB bM : Nat) (vB vM : Value) (s : Pst) (g' pb' bB' bM' : Nat) (vB' vM' : Value) (s' : Pst) (e : Nat → Addr) (z : Nat) (hz : s.nb ≤ z) (h : PS (fun _ => False) wB w0 g pb bB bM vB vM s g' pb' bB' bM' vB' vM' s') (hE : Er 19 wB e) (hR : EnvR wB (e 1) (e 3)) :
    Calls Tryz.prog 13 #[.pointer (some ⟨g, 0, none⟩), .agg #[.int .i64 2, .int .i64 (z : Int)]] w0 fun r w' => r = .returned (.bool true) ∧ PE wB w' g g' := by
  obtain ⟨aB, kB, hvB, haB⟩ := h.a.dd.sB
  obtain ⟨aM, kM, hvM, haM⟩ := h.a.dd.sM
  subst hvB
  subst hvM
  have hn := h.a.ok.n1
  have hnb := h.a.ok.few
  have d1 : (0 : Int) ≤ (z : Int) := by omega
  have d3 : decide ((z : Int) < (s.nb : Int)) = false := decide_eq_false (by omega)
  have d4 : ¬ (z : Int) < (s.nb : Int) := by omega
  have d6 : ¬ z < s.nb := by omega
  obtain ⟨W, hW⟩ : ∃ W, W = w0.alloc (.cells #[.int .i64 2, .int .i64 (z : Int)] 68) := ⟨_, rfl⟩
  have hbW : Below w0.heap.size w0 W := by rw [hW]; exact (Below.refl _ _).alloc (Nat.le_refl _) _
  have hbx : W.heap[w0.heap.size]? = some (.cells #[.int .i64 2, .int .i64 (z : Int)] 68 (0, 0)) := by rw [hW]; exact (MapKept.heap_alloc w0 _).1
  have hPW := h.below hbW
  obtain ⟨c0, c1, c2, c3, c4⟩ := hPW.a.cells
  have x0 := cell0_of (k := 0) hbx rfl
  have x1 := cell0_of (k := 1) hbx rfl
  have hEW := hE.below hPW.a.bl
  have hRW := hR.below hPW.a.bl
  have HP : Hid (PS (fun _ => False) wB W g pb bB bM (.slice aB s.n kB) (.slice aM s.n kM) s g' pb' bB' bM' vB' vM' s' ∧ W.heap[w0.heap.size]? = some (.cells #[.int .i64 2, .int .i64 (z : Int)] 68 (0, 0)) ∧ Er 19 W e ∧ EnvR W (e 1) (e 3)) := ⟨hPW, hbx, hEW, hRW⟩
  have HS : Hid ((0 < s.n → aB = some ⟨bB, 0, none⟩) ∧ (0 < s.n → aM = some ⟨bM, 0, none⟩)) := ⟨haB, haM⟩
  have HW : Hid _ := hW
  clear hPW hbx hEW hRW hbW hW h hE hR haB haM
  go_enter Tryz.func13, Tryz.ntmps13
  go_upto_region 1 with fail
  rw [← HW.out]
  clear HW
  go_quiet (fail)
  rename Nat => q1
  go_wp2_with fail
  go_quiet (fail)
  rename Nat => q2
  obtain ⟨w1, hw1⟩ : ∃ w1, w1 = (W.drewN q1).drewN q2 := ⟨_, rfl⟩
  rw [← hw1]
  have hb1 : Below W.heap.size W w1 := by rw [hw1]; exact below_drewN (below_drewN (Below.refl _ _) _) _
  have H1 : Hid (PS (fun _ => False) wB w1 g pb bB bM (.slice aB s.n kB) (.slice aM s.n kM) s g' pb' bB' bM' vB' vM' s' ∧ w1.heap[w0.heap.size]? = some (.cells #[.int .i64 2, .int .i64 (z : Int)] 68 (0, 0)) ∧ Er 19 w1 e ∧ EnvR w1 (e 1) (e 3)) := ⟨HP.out.1.below hb1, res_up hb1 HP.out.2.1, HP.out.2.2.1.below hb1, HP.out.2.2.2.below hb1⟩
  clear hw1 hb1 HP c0 c1 c2 c3 c4 x0 x1
  obtain ⟨c0, c1, c2, c3, c4⟩ := H1.out.1.a.cells
  have x0 := cell0_of (k := 0) H1.out.2.1 rfl
  have x1 := cell0_of (k := 1) H1.out.2.1 rfl
  have gx : ¬ w0.heap.size = pb := by
    obtain ⟨c, hP, _⟩ := H1.out.1.a.pt
    obtain ⟨cs, hc, _⟩ := hP.ids
    exact typed_ne H1.out.2.1 hc (by decide)
  have gp : ¬ g = pb := H1.out.1.a.ne.1
  have hM : ∀ W' (_ : Below w1.heap.size w1 W'), Calls Tryz.prog 17 #[.pointer (some ⟨pb, 0, none⟩), .int .i64 (z : Int)] W' fun r w' => ∃ x, r = .returned (.tuple #[.int .i64 0, .bool false, x]) ∧ Chain w' 0 0 (e 3) [refB] x ∧ Below W'.heap.size W' w' := fun W' hb => by
    obtain ⟨c, hP, hL⟩ := (H1.out.1.a.below hb).pt
    exact split_bad pb c s (z : Int) (e 1) (e 3) wB W' hP hL (H1.out.2.2.2.below hb) (.inr (by omega))
  have HM : Hid _ := hM
  clear hM
  go_wp2_with fail
  go_cut [10, 11, 12] (fun s10 s11 s12 wx => ∃ x8, s10 = .int .i64 0 ∧ s11 = .bool false ∧ s12 = x8 ∧ Chain wx 0 0 (e 3) [refB] x8 ∧ Below w1.heap.size w1 wx)
  case first =>
    go_region_held3 (fun w' => w'.cell? ⟨g, 0, none⟩ = some (.pointer (some ⟨pb, 0, none⟩)) ∧ w'.cell? ⟨w0.heap.size, 1, none⟩ = some (.int .i64 (z : Int))) (go_keep)
      ((first
        | (go_at_call 17; refine (HM.out _ (by repeat (first | exact Below.refl _ _ | assumption | refine Below.drew ?_ | refine Below.setCell ?_ (by simp) _ | refine Below.alloc ?_ (by simp) _))).mono ?_; rintro r8 w8 ⟨x8, rfl, hC8, hb8'⟩; have hb8 := below_of_drew3 hb8'; have c0 := cell_up c0 hb8; have x1 := cell_up x1 hb8; have H8 : Hid (Chain w8 0 0 (e 3) [refB] x8 ∧ Below w1.heap.size w1 w8) := ⟨hC8, hb8⟩; clear hC8 hb8 hb8')
        | fail))
    all_goals (refine Met.intro ?_; apply_assumption; refine Met.intro ?_; apply_assumption; (repeat apply Exists.intro); refine ⟨?rel, rfl⟩; case rel => exact ⟨_, rfl, rfl, rfl, by first | exact H8.out.1 | exact H8.out.1.drew _, by first | exact H8.out.2 | exact below_drewN H8.out.2 _⟩)
  case rest =>
    obtain ⟨x8, rfl, rfl, hx8, hC, hb⟩ := hcut
    obtain rfl := hx8.symm
    clear hx8
    have hI := index_bad x8 e wc (H1.out.2.2.1.below hb) hC
    have HI : Hid _ := And.intro hI (H1.out.1.below hb)
    clear hI hC hb HM c0 c1 c2 c3 c4 x0 x1
    go_wp2_with fail
    refine Calls.mono HI.out.1 ?_
    rintro r w9 ⟨rfl, hb9⟩
    have H9 : Hid _ := HI.out.2.below hb9
    clear hb9
    go_wp2_with fail
    go_ret
    exact ⟨rfl, H9.out.pe⟩
end Go.Proofs.YtpcndfffljmajaaGreatDoor
