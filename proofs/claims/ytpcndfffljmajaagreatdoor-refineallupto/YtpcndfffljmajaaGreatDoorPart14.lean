/- Texts of this claim, joined: RfT3, RfT4, RfT5. -/
import Derived.Test.YtpcndfffljmajaaGreatDoorPart11
import Derived.Deep.QuietTactic
import Derived.BigQuiet
import Derived.Test.YtpcndfffljmajaaGreatDoorPart12
/- Chapter 8's law: a pair's step (kind 3, refused). (Written by mkstep8.py.) -/
namespace Go.Proofs.YtpcndfffljmajaaGreatDoor
open Go.RowKit Go.Maps
attribute [local go_sem ↓] Go.wp_at_zero Go.wp_at_succ
set_option maxRecDepth 100000 in
set_option maxHeartbeats 8000000 in
set_option linter.unusedSimpArgs false in
theorem step3_neg (wB w0 : World) (g pb bB bM : Nat) (vB vM : Value) (s : Pst) (g' pb' bB' bM' : Nat) (vB' vM' : Value) (s' : Pst) (e : Nat → Addr) (z : Int) (hz : z < 0) (h : PS (fun _ => False) wB w0 g pb bB bM vB vM s g' pb' bB' bM' vB' vM' s') (hE : Er 19 wB e) (hR : EnvR wB (e 1) (e 3)) :
    Calls Tryz.prog 13 #[.pointer (some ⟨g, 0, none⟩), .agg #[.int .i64 3, .int .i64 z]] w0 fun r w' => r = .returned (.bool true) ∧ PE wB w' g g' := by
  obtain ⟨aB, kB, hvB, haB⟩ := h.a.dd.sB
  obtain ⟨aM, kM, hvM, haM⟩ := h.a.dd.sM
  subst hvB
  subst hvM
  have hn := h.a.ok.n1
  have hnb := h.a.ok.few
  have d1 : decide ((0 : Int) ≤ z) = false := decide_eq_false (by omega)
  have d0 : ¬ (0 : Int) ≤ z := by omega
  obtain ⟨W, hW⟩ : ∃ W, W = w0.alloc (.cells #[.int .i64 3, .int .i64 z] 68) := ⟨_, rfl⟩
  have hbW : Below w0.heap.size w0 W := by rw [hW]; exact (Below.refl _ _).alloc (Nat.le_refl _) _
  have hbx : W.heap[w0.heap.size]? = some (.cells #[.int .i64 3, .int .i64 z] 68 (0, 0)) := by rw [hW]; exact (MapKept.heap_alloc w0 _).1
  have hPW := h.below hbW
  obtain ⟨c0, c1, c2, c3, c4⟩ := hPW.a.cells
  have x0 := cell0_of (k := 0) hbx rfl
  have x1 := cell0_of (k := 1) hbx rfl
  have hEW := hE.below hPW.a.bl
  have hRW := hR.below hPW.a.bl
  have HP : Hid (PS (fun _ => False) wB W g pb bB bM (.slice aB s.n kB) (.slice aM s.n kM) s g' pb' bB' bM' vB' vM' s' ∧ W.heap[w0.heap.size]? = some (.cells #[.int .i64 3, .int .i64 z] 68 (0, 0)) ∧ Er 19 W e ∧ EnvR W (e 1) (e 3)) := ⟨hPW, hbx, hEW, hRW⟩
  have HS : Hid ((0 < s.n → aB = some ⟨bB, 0, none⟩) ∧ (0 < s.n → aM = some ⟨bM, 0, none⟩)) := ⟨haB, haM⟩
  have HW : Hid _ := hW
  clear hPW hbx hEW hRW hbW hW h hE hR haB haM
  go_enter Tryz.func13, Tryz.ntmps13
  go_upto_region 1 with fail
  rw [← HW.out]
  clear HW
  go_quiet (fail)
  rename Nat => q1
  go_wp2_with fail
  go_quiet (fail)
  rename Nat => q2
  obtain ⟨w1, hw1⟩ : ∃ w1, w1 = (W.drewN q1).drewN q2 := ⟨_, rfl⟩
  rw [← hw1]
  have hb1 : Below W.heap.size W w1 := by rw [hw1]; exact below_drewN (below_drewN (Below.refl _ _) _) _
  have H1 : Hid (PS (fun _ => False) wB w1 g pb bB bM (.slice aB s.n kB) (.slice aM s.n kM) s g' pb' bB' bM' vB' vM' s' ∧ w1.heap[w0.heap.size]? = some (.cells #[.int .i64 3, .int .i64 z] 68 (0, 0)) ∧ Er 19 w1 e ∧ EnvR w1 (e 1) (e 3)) := ⟨HP.out.1.below hb1, res_up hb1 HP.out.2.1, HP.out.2.2.1.below hb1, HP.out.2.2.2.below hb1⟩
  clear hw1 hb1 HP c0 c1 c2 c3 c4 x0 x1
  obtain ⟨c0, c1, c2, c3, c4⟩ := H1.out.1.a.cells
  have x0 := cell0_of (k := 0) H1.out.2.1 rfl
  have x1 := cell0_of (k := 1) H1.out.2.1 rfl
  have gx : ¬ w0.heap.size = pb := by
    obtain ⟨c, hP, _⟩ := H1.out.1.a.pt
    obtain ⟨cs, hc, _⟩ := hP.ids
    exact typed_ne H1.out.2.1 hc (by decide)
  have gp : ¬ g = pb := H1.out.1.a.ne.1
  have hM : ∀ W' (_ : Below w1.heap.size w1 W'), Calls Tryz.prog 27 #[.pointer (some ⟨pb, 0, none⟩), .int .i64 z] W' fun r w' => ∃ x, r = .returned (.tuple #[.int .i64 0, x]) ∧ Chain w' 0 0 (e 3) [refB] x ∧ Below W'.heap.size W' w' := fun W' hb => by
    obtain ⟨c, hP, hL⟩ := (H1.out.1.a.below hb).pt
    exact block_bad pb c s z (e 1) (e 3) wB W' hP hL (H1.out.2.2.2.below hb) (.inl hz)
  have HM : Hid _ := hM
  clear hM
  go_wp2_with fail
  go_cut [15, 16] (fun s15 s16 wx => ∃ x8, s15 = .int .i64 0 ∧ s16 = x8 ∧ Chain wx 0 0 (e 3) [refB] x8 ∧ Below w1.heap.size w1 wx)
  case first =>
    go_region_held3 (fun w' => w'.cell? ⟨g, 0, none⟩ = some (.pointer (some ⟨pb, 0, none⟩)) ∧ w'.cell? ⟨w0.heap.size, 1, none⟩ = some (.int .i64 z)) (go_keep)
      ((first
        | (go_at_call 27; refine (HM.out _ (by repeat (first | exact Below.refl _ _ | assumption | refine Below.drew ?_ | refine Below.setCell ?_ (by simp) _ | refine Below.alloc ?_ (by simp) _))).mono ?_; rintro r8 w8 ⟨x8, rfl, hC8, hb8'⟩; have hb8 := below_of_drew3 hb8'; have c0 := cell_up c0 hb8; have x1 := cell_up x1 hb8; have H8 : Hid (Chain w8 0 0 (e 3) [refB] x8 ∧ Below w1.heap.size w1 w8) := ⟨hC8, hb8⟩; clear hC8 hb8 hb8')
        | fail))
    all_goals (refine Met.intro ?_; apply_assumption; refine Met.intro ?_; apply_assumption; (repeat apply Exists.intro); refine ⟨?rel, rfl⟩; case rel => exact ⟨_, rfl, rfl, by first | exact H8.out.1 | exact H8.out.1.drew _, by first | exact H8.out.2 | exact below_drewN H8.out.2 _⟩)
  case rest =>
    obtain ⟨x8, rfl, hx8, hC, hb⟩ := hcut
    obtain rfl := hx8.symm
    clear hx8
    obtain ⟨e0, e1, e2, e3, e4⟩ := (H1.out.1.below hb).a.cells
    have hI := fun W' (hb2 : Below wc.heap.size wc W') => index_bad x8 e W' ((H1.out.2.2.1.below hb).below hb2) (hC.below hb2)
    have HI : Hid _ := And.intro hI (H1.out.1.below hb)
    clear hI hC hb HM c0 c1 c2 c3 c4 x0 x1
    go_upto_region 19 with fail
    refine wp_region_held_drew (S := (fun w' => True ∧ True)) (by kernel_rfl) ?_ (fun hHeld => ?_)
    · exact ⟨trivial, trivial⟩
    refine wpAnyH_take (i := 0) (oi := _) (v := ?_) rfl (by kernel_rfl) (by kernel_rfl) (by kernel_rfl) (fun _ _ _ h => h) (Or.inl ⟨by rfl, ?_⟩) (by assumption) ?_
    rotate_left
    · (intro w hSw; (try dsimp only at hSw); go_simp; (try with_reducible rfl))
    (try simp only [List.getElem_toArray, List.getElem_cons_succ, List.getElem_cons_zero, Act.put, List.setIfInBounds_toArray, List.set_cons_zero, List.set_cons_succ])
    refine wpAnyH_take (i := 1) (oi := _) (v := ?_) rfl (by kernel_rfl) (by kernel_rfl) (by kernel_rfl) (fun _ _ _ h => h) (Or.inl ⟨by rfl, ?_⟩) (by assumption) ?_
    rotate_left
    · (intro w hSw; (try dsimp only at hSw); go_simp; (try with_reducible rfl))
    (try simp only [List.getElem_toArray, List.getElem_cons_succ, List.getElem_cons_zero, Act.put, List.setIfInBounds_toArray, List.set_cons_zero, List.set_cons_succ])
    refine wpAnyH_ready (rs := [2]) (by kernel_rfl) (by simp) ?_
    refine AllReadyH.cons (o := _) rfl (fun K hK => ?_) ?_
    · (go_simp; go_at_call 25; refine Calls.mono (HI.out.1 _ (Below.refl _ _).drew) ?_; rintro r9 w9 ⟨rfl, hb9'⟩; have hb9 : Below wc.heap.size wc w9 := (Below.refl wc.heap.size wc).drew.trans hb9'; have H9 : Hid _ := HI.out.2.below hb9; clear hb9 hb9')
      (try go_wp2_with fail)
      refine hK.out _ _ ?_ (fun hHeld => ?_)
      · exact ⟨trivial, trivial⟩
      clear hK K
      (try simp only [List.getElem_toArray, List.getElem_cons_succ, List.getElem_cons_zero, Act.put, List.setIfInBounds_toArray, List.set_cons_zero, List.set_cons_succ])
      refine wpAnyH_take (i := 3) (oi := _) (v := ?_) rfl (by kernel_rfl) (by kernel_rfl) (by kernel_rfl) (fun _ _ _ h => h) (Or.inl ⟨by rfl, ?_⟩) (by assumption) ?_
      rotate_left
      · (intro w hSw; (try dsimp only at hSw); go_simp; (try with_reducible rfl))
      (try simp only [List.getElem_toArray, List.getElem_cons_succ, List.getElem_cons_zero, Act.put, List.setIfInBounds_toArray, List.set_cons_zero, List.set_cons_succ])
      refine wpAnyH_take (i := 4) (oi := _) (v := ?_) rfl (by kernel_rfl) (by kernel_rfl) (by kernel_rfl) (fun _ _ _ h => h) (Or.inl ⟨by rfl, ?_⟩) (by assumption) ?_
      rotate_left
      · (intro w hSw; (try dsimp only at hSw); go_simp; (try with_reducible rfl))
      (try simp only [List.getElem_toArray, List.getElem_cons_succ, List.getElem_cons_zero, Act.put, List.setIfInBounds_toArray, List.set_cons_zero, List.set_cons_succ])
      refine wpAnyH_take (i := 5) (oi := _) (v := ?_) rfl (by kernel_rfl) (by kernel_rfl) (by kernel_rfl) (fun _ _ _ h => h) (Or.inl ⟨by rfl, ?_⟩) (by assumption) ?_
      rotate_left
      · (intro w hSw; (try dsimp only at hSw); go_simp; (try with_reducible rfl))
      (try simp only [List.getElem_toArray, List.getElem_cons_succ, List.getElem_cons_zero, Act.put, List.setIfInBounds_toArray, List.set_cons_zero, List.set_cons_succ])
      refine wpAnyH_take (i := 6) (oi := _) (v := ?_) rfl (by kernel_rfl) (by kernel_rfl) (by kernel_rfl) (fun _ _ _ h => h) (Or.inl ⟨by rfl, ?_⟩) (by assumption) ?_
      rotate_left
      · (intro w hSw; (try dsimp only at hSw); go_simp; (try with_reducible rfl))
      (try simp only [List.getElem_toArray, List.getElem_cons_succ, List.getElem_cons_zero, Act.put, List.setIfInBounds_toArray, List.set_cons_zero, List.set_cons_succ])
      refine wpAnyH_take (i := 7) (oi := _) (v := ?_) rfl (by kernel_rfl) (by kernel_rfl) (by kernel_rfl) (fun _ _ _ h => h) (Or.inl ⟨by rfl, ?_⟩) (by assumption) ?_
      rotate_left
      · (intro w hSw; (try dsimp only at hSw); go_simp; (try with_reducible rfl))
      (try simp only [List.getElem_toArray, List.getElem_cons_succ, List.getElem_cons_zero, Act.put, List.setIfInBounds_toArray, List.set_cons_zero, List.set_cons_succ])
      refine wpAnyH_take (i := 8) (oi := _) (v := ?_) rfl (by kernel_rfl) (by kernel_rfl) (by kernel_rfl) (fun _ _ _ h => h) (Or.inl ⟨by rfl, ?_⟩) (by assumption) ?_
      rotate_left
      · (intro w hSw; (try dsimp only at hSw); go_simp; (try with_reducible rfl))
      (try simp only [List.getElem_toArray, List.getElem_cons_succ, List.getElem_cons_zero, Act.put, List.setIfInBounds_toArray, List.set_cons_zero, List.set_cons_succ])
      refine wpAnyH_take (i := 9) (oi := _) (v := ?_) rfl (by kernel_rfl) (by kernel_rfl) (by kernel_rfl) (fun _ _ _ h => h) (Or.inl ⟨by rfl, ?_⟩) (by assumption) ?_
      rotate_left
      · (intro w hSw; (try dsimp only at hSw); go_simp; (try with_reducible rfl))
      (try simp only [List.getElem_toArray, List.getElem_cons_succ, List.getElem_cons_zero, Act.put, List.setIfInBounds_toArray, List.set_cons_zero, List.set_cons_succ])
      refine wpAnyH_take (i := 10) (oi := _) (v := ?_) rfl (by kernel_rfl) (by kernel_rfl) (by kernel_rfl) (fun _ _ _ h => h) (Or.inl ⟨by rfl, ?_⟩) (by assumption) ?_
      rotate_left
      · (intro w hSw; (try dsimp only at hSw); go_simp; (try with_reducible rfl))
      (try simp only [List.getElem_toArray, List.getElem_cons_succ, List.getElem_cons_zero, Act.put, List.setIfInBounds_toArray, List.set_cons_zero, List.set_cons_succ])
      refine wpAnyH_take (i := 11) (oi := _) (v := undef) rfl (by kernel_rfl) (by kernel_rfl) (by kernel_rfl) (fun _ _ _ h => h) (Or.inr ⟨by rfl, rfl⟩) (by assumption) ?_
      (try simp only [List.getElem_toArray, List.getElem_cons_succ, List.getElem_cons_zero, Act.put, List.setIfInBounds_toArray, List.set_cons_zero, List.set_cons_succ])
      refine wpAnyH_take (i := 12) (oi := _) (v := undef) rfl (by kernel_rfl) (by kernel_rfl) (by kernel_rfl) (fun _ _ _ h => h) (Or.inr ⟨by rfl, rfl⟩) (by assumption) ?_
      (try simp only [List.getElem_toArray, List.getElem_cons_succ, List.getElem_cons_zero, Act.put, List.setIfInBounds_toArray, List.set_cons_zero, List.set_cons_succ])
      refine wpAnyH_take (i := 13) (oi := _) (v := undef) rfl (by kernel_rfl) (by kernel_rfl) (by kernel_rfl) (fun _ _ _ h => h) (Or.inr ⟨by rfl, rfl⟩) (by assumption) ?_
      (try simp only [List.getElem_toArray, List.getElem_cons_succ, List.getElem_cons_zero, Act.put, List.setIfInBounds_toArray, List.set_cons_zero, List.set_cons_succ])
      refine wpAnyH_take (i := 14) (oi := _) (v := undef) rfl (by kernel_rfl) (by kernel_rfl) (by kernel_rfl) (fun _ _ _ h => h) (Or.inr ⟨by rfl, rfl⟩) (by assumption) ?_
      (try simp only [List.getElem_toArray, List.getElem_cons_succ, List.getElem_cons_zero, Act.put, List.setIfInBounds_toArray, List.set_cons_zero, List.set_cons_succ])
      refine wpAnyH_take (i := 15) (oi := _) (v := undef) rfl (by kernel_rfl) (by kernel_rfl) (by kernel_rfl) (fun _ _ _ h => h) (Or.inr ⟨by rfl, rfl⟩) (by assumption) ?_
      (try simp only [List.getElem_toArray, List.getElem_cons_succ, List.getElem_cons_zero, Act.put, List.setIfInBounds_toArray, List.set_cons_zero, List.set_cons_succ])
      refine wpAnyH_take (i := 16) (oi := _) (v := undef) rfl (by kernel_rfl) (by kernel_rfl) (by kernel_rfl) (fun _ _ _ h => h) (Or.inr ⟨by rfl, rfl⟩) (by assumption) ?_
      (try simp only [List.getElem_toArray, List.getElem_cons_succ, List.getElem_cons_zero, Act.put, List.setIfInBounds_toArray, List.set_cons_zero, List.set_cons_succ])
      refine wpAnyH_take (i := 17) (oi := _) (v := undef) rfl (by kernel_rfl) (by kernel_rfl) (by kernel_rfl) (fun _ _ _ h => h) (Or.inr ⟨by rfl, rfl⟩) (by assumption) ?_
      (try simp only [List.getElem_toArray, List.getElem_cons_succ, List.getElem_cons_zero, Act.put, List.setIfInBounds_toArray, List.set_cons_zero, List.set_cons_succ])
      refine wpAnyH_take (i := 18) (oi := _) (v := undef) rfl (by kernel_rfl) (by kernel_rfl) (by kernel_rfl) (fun _ _ _ h => h) (Or.inr ⟨by rfl, rfl⟩) (by assumption) ?_
      (try simp only [List.getElem_toArray, List.getElem_cons_succ, List.getElem_cons_zero, Act.put, List.setIfInBounds_toArray, List.set_cons_zero, List.set_cons_succ])
      refine wpAnyH_take (i := 19) (oi := _) (v := undef) rfl (by kernel_rfl) (by kernel_rfl) (by kernel_rfl) (fun _ _ _ h => h) (Or.inr ⟨by rfl, rfl⟩) (by assumption) ?_
      (try simp only [List.getElem_toArray, List.getElem_cons_succ, List.getElem_cons_zero, Act.put, List.setIfInBounds_toArray, List.set_cons_zero, List.set_cons_succ])
      refine wpAnyH_take (i := 20) (oi := _) (v := undef) rfl (by kernel_rfl) (by kernel_rfl) (by kernel_rfl) (fun _ _ _ h => h) (Or.inr ⟨by rfl, rfl⟩) (by assumption) ?_
      (try simp only [List.getElem_toArray, List.getElem_cons_succ, List.getElem_cons_zero, Act.put, List.setIfInBounds_toArray, List.set_cons_zero, List.set_cons_succ])
      refine wpAnyH_take (i := 21) (oi := _) (v := undef) rfl (by kernel_rfl) (by kernel_rfl) (by kernel_rfl) (fun _ _ _ h => h) (Or.inr ⟨by rfl, rfl⟩) (by assumption) ?_
      (try simp only [List.getElem_toArray, List.getElem_cons_succ, List.getElem_cons_zero, Act.put, List.setIfInBounds_toArray, List.set_cons_zero, List.set_cons_succ])
      refine wpAnyH_take (i := 22) (oi := _) (v := undef) rfl (by kernel_rfl) (by kernel_rfl) (by kernel_rfl) (fun _ _ _ h => h) (Or.inr ⟨by rfl, rfl⟩) (by assumption) ?_
      (try simp only [List.getElem_toArray, List.getElem_cons_succ, List.getElem_cons_zero, Act.put, List.setIfInBounds_toArray, List.set_cons_zero, List.set_cons_succ])
      refine wpAnyH_take (i := 23) (oi := _) (v := undef) rfl (by kernel_rfl) (by kernel_rfl) (by kernel_rfl) (fun _ _ _ h => h) (Or.inr ⟨by rfl, rfl⟩) (by assumption) ?_
      (try simp only [List.getElem_toArray, List.getElem_cons_succ, List.getElem_cons_zero, Act.put, List.setIfInBounds_toArray, List.set_cons_zero, List.set_cons_succ])
      refine wpAnyH_take (i := 24) (oi := _) (v := undef) rfl (by kernel_rfl) (by kernel_rfl) (by kernel_rfl) (fun _ _ _ h => h) (Or.inr ⟨by rfl, rfl⟩) (by assumption) ?_
      (try simp only [List.getElem_toArray, List.getElem_cons_succ, List.getElem_cons_zero, Act.put, List.setIfInBounds_toArray, List.set_cons_zero, List.set_cons_succ])
      refine wpAnyH_take (i := 25) (oi := _) (v := ?_) rfl (by kernel_rfl) (by kernel_rfl) (by kernel_rfl) (fun _ _ _ h => h) (Or.inl ⟨by rfl, ?_⟩) (by assumption) ?_
      rotate_left
      · (intro w hSw; (try dsimp only at hSw); go_simp; (try with_reducible rfl))
      (try simp only [List.getElem_toArray, List.getElem_cons_succ, List.getElem_cons_zero, Act.put, List.setIfInBounds_toArray, List.set_cons_zero, List.set_cons_succ])
      refine wpAnyH_take (i := 26) (oi := _) (v := ?_) rfl (by kernel_rfl) (by kernel_rfl) (by kernel_rfl) (fun _ _ _ h => h) (Or.inl ⟨by rfl, ?_⟩) (by assumption) ?_
      rotate_left
      · (intro w hSw; (try dsimp only at hSw); go_simp; (try with_reducible rfl))
      (try simp only [List.getElem_toArray, List.getElem_cons_succ, List.getElem_cons_zero, Act.put, List.setIfInBounds_toArray, List.set_cons_zero, List.set_cons_succ])
      refine wpAnyH_take (i := 27) (oi := _) (v := ?_) rfl (by kernel_rfl) (by kernel_rfl) (by kernel_rfl) (fun _ _ _ h => h) (Or.inl ⟨by rfl, ?_⟩) (by assumption) ?_
      rotate_left
      · (intro w hSw; (try dsimp only at hSw); go_simp; (try with_reducible rfl))
      (try simp only [List.getElem_toArray, List.getElem_cons_succ, List.getElem_cons_zero, Act.put, List.setIfInBounds_toArray, List.set_cons_zero, List.set_cons_succ])
      refine wpAnyH_done (by kernel_rfl) ?_ _
      go_wp2_with fail
      go_ret
      exact ⟨rfl, H9.out.pe⟩
    exact AllReadyH.nil
set_option maxRecDepth 100000 in
set_option maxHeartbeats 8000000 in
set_option linter.unusedSimpArgs false in
theorem step3_isnt (wB w0 : World) (g pb bB bM : Nat) (vB vM : Value) (s : Pst) (g' pb' bB' bM' : Nat) (vB' vM' : Value) (s' : Pst) (e : Nat → Addr) (z : Nat) (hz2 : s.n ≤ z) (h : PS (fun _ => False) wB w0 g pb bB bM vB vM s g' pb' bB' bM' vB' vM' s') (hE : Er 19 wB e) (hR : EnvR wB (e 1) (e 3)) :
    Calls Tryz.prog 13 #[.pointer (some ⟨g, 0, none⟩), .agg #[.int .i64 3, .int .i64 (z : Int)]] w0 fun r w' => r = .returned (.bool true) ∧ PE wB w' g g' := by
  obtain ⟨aB, kB, hvB, haB⟩ := h.a.dd.sB
  obtain ⟨aM, kM, hvM, haM⟩ := h.a.dd.sM
  subst hvB
  subst hvM
  have hn := h.a.ok.n1
  have hnb := h.a.ok.few
  have d1 : (0 : Int) ≤ (z : Int) := by omega
  have d2 : decide ((z : Int) < (s.n : Int)) = false := decide_eq_false (by omega)
  have d5 : ¬ (z : Int) < (s.n : Int) := by omega
  have d6 : ¬ z < s.n := by omega
  obtain ⟨W, hW⟩ : ∃ W, W = w0.alloc (.cells #[.int .i64 3, .int .i64 (z : Int)] 68) := ⟨_, rfl⟩
  have hbW : Below w0.heap.size w0 W := by rw [hW]; exact (Below.refl _ _).alloc (Nat.le_refl _) _
  have hbx : W.heap[w0.heap.size]? = some (.cells #[.int .i64 3, .int .i64 (z : Int)] 68 (0, 0)) := by rw [hW]; exact (MapKept.heap_alloc w0 _).1
  have hPW := h.below hbW
  obtain ⟨c0, c1, c2, c3, c4⟩ := hPW.a.cells
  have x0 := cell0_of (k := 0) hbx rfl
  have x1 := cell0_of (k := 1) hbx rfl
  have hEW := hE.below hPW.a.bl
  have hRW := hR.below hPW.a.bl
  have HP : Hid (PS (fun _ => False) wB W g pb bB bM (.slice aB s.n kB) (.slice aM s.n kM) s g' pb' bB' bM' vB' vM' s' ∧ W.heap[w0.heap.size]? = some (.cells #[.int .i64 3, .int .i64 (z : Int)] 68 (0, 0)) ∧ Er 19 W e ∧ EnvR W (e 1) (e 3)) := ⟨hPW, hbx, hEW, hRW⟩
  have HS : Hid ((0 < s.n → aB = some ⟨bB, 0, none⟩) ∧ (0 < s.n → aM = some ⟨bM, 0, none⟩)) := ⟨haB, haM⟩
  have HW : Hid _ := hW
  clear hPW hbx hEW hRW hbW hW h hE hR haB haM
  go_enter Tryz.func13, Tryz.ntmps13
  go_upto_region 1 with fail
  rw [← HW.out]
  clear HW
  go_quiet (fail)
  rename Nat => q1
  go_wp2_with fail
  go_quiet (fail)
  rename Nat => q2
  obtain ⟨w1, hw1⟩ : ∃ w1, w1 = (W.drewN q1).drewN q2 := ⟨_, rfl⟩
  rw [← hw1]
  have hb1 : Below W.heap.size W w1 := by rw [hw1]; exact below_drewN (below_drewN (Below.refl _ _) _) _
  have H1 : Hid (PS (fun _ => False) wB w1 g pb bB bM (.slice aB s.n kB) (.slice aM s.n kM) s g' pb' bB' bM' vB' vM' s' ∧ w1.heap[w0.heap.size]? = some (.cells #[.int .i64 3, .int .i64 (z : Int)] 68 (0, 0)) ∧ Er 19 w1 e ∧ EnvR w1 (e 1) (e 3)) := ⟨HP.out.1.below hb1, res_up hb1 HP.out.2.1, HP.out.2.2.1.below hb1, HP.out.2.2.2.below hb1⟩
  clear hw1 hb1 HP c0 c1 c2 c3 c4 x0 x1
  obtain ⟨c0, c1, c2, c3, c4⟩ := H1.out.1.a.cells
  have x0 := cell0_of (k := 0) H1.out.2.1 rfl
  have x1 := cell0_of (k := 1) H1.out.2.1 rfl
  have gx : ¬ w0.heap.size = pb := by
    obtain ⟨c, hP, _⟩ := H1.out.1.a.pt
    obtain ⟨cs, hc, _⟩ := hP.ids
    exact typed_ne H1.out.2.1 hc (by decide)
  have gp : ¬ g = pb := H1.out.1.a.ne.1
  have hM : ∀ W' (_ : Below w1.heap.size w1 W'), Calls Tryz.prog 27 #[.pointer (some ⟨pb, 0, none⟩), .int .i64 (z : Int)] W' fun r w' => ∃ x, r = .returned (.tuple #[.int .i64 0, x]) ∧ Chain w' 0 0 (e 3) [refB] x ∧ Below W'.heap.size W' w' := fun W' hb => by
    obtain ⟨c, hP, hL⟩ := (H1.out.1.a.below hb).pt
    exact block_bad pb c s (z : Int) (e 1) (e 3) wB W' hP hL (H1.out.2.2.2.below hb) (.inr (by omega))
  have HM : Hid _ := hM
  clear hM
  go_wp2_with fail
  go_cut [15, 16] (fun s15 s16 wx => ∃ x8, s15 = .int .i64 0 ∧ s16 = x8 ∧ Chain wx 0 0 (e 3) [refB] x8 ∧ Below w1.heap.size w1 wx)
  case first =>
    go_region_held3 (fun w' => w'.cell? ⟨g, 0, none⟩ = some (.pointer (some ⟨pb, 0, none⟩)) ∧ w'.cell? ⟨w0.heap.size, 1, none⟩ = some (.int .i64 (z : Int))) (go_keep)
      ((first
        | (go_at_call 27; refine (HM.out _ (by repeat (first | exact Below.refl _ _ | assumption | refine Below.drew ?_ | refine Below.setCell ?_ (by simp) _ | refine Below.alloc ?_ (by simp) _))).mono ?_; rintro r8 w8 ⟨x8, rfl, hC8, hb8'⟩; have hb8 := below_of_drew3 hb8'; have c0 := cell_up c0 hb8; have x1 := cell_up x1 hb8; have H8 : Hid (Chain w8 0 0 (e 3) [refB] x8 ∧ Below w1.heap.size w1 w8) := ⟨hC8, hb8⟩; clear hC8 hb8 hb8')
        | fail))
    all_goals (refine Met.intro ?_; apply_assumption; refine Met.intro ?_; apply_assumption; (repeat apply Exists.intro); refine ⟨?rel, rfl⟩; case rel => exact ⟨_, rfl, rfl, by first | exact H8.out.1 | exact H8.out.1.drew _, by first | exact H8.out.2 | exact below_drewN H8.out.2 _⟩)
  case rest =>
    obtain ⟨x8, rfl, hx8, hC, hb⟩ := hcut
    obtain rfl := hx8.symm
    clear hx8
    obtain ⟨e0, e1, e2, e3, e4⟩ := (H1.out.1.below hb).a.cells
    have hI := fun W' (hb2 : Below wc.heap.size wc W') => index_bad x8 e W' ((H1.out.2.2.1.below hb).below hb2) (hC.below hb2)
    have HI : Hid _ := And.intro hI (H1.out.1.below hb)
    clear hI hC hb HM c0 c1 c2 c3 c4 x0 x1
    go_upto_region 19 with fail
    refine wp_region_held_drew (S := (fun w' => True ∧ True)) (by kernel_rfl) ?_ (fun hHeld => ?_)
    · exact ⟨trivial, trivial⟩
    refine wpAnyH_take (i := 0) (oi := _) (v := ?_) rfl (by kernel_rfl) (by kernel_rfl) (by kernel_rfl) (fun _ _ _ h => h) (Or.inl ⟨by rfl, ?_⟩) (by assumption) ?_
    rotate_left
    · (intro w hSw; (try dsimp only at hSw); go_simp; (try with_reducible rfl))
    (try simp only [List.getElem_toArray, List.getElem_cons_succ, List.getElem_cons_zero, Act.put, List.setIfInBounds_toArray, List.set_cons_zero, List.set_cons_succ])
    refine wpAnyH_take (i := 1) (oi := _) (v := ?_) rfl (by kernel_rfl) (by kernel_rfl) (by kernel_rfl) (fun _ _ _ h => h) (Or.inl ⟨by rfl, ?_⟩) (by assumption) ?_
    rotate_left
    · (intro w hSw; (try dsimp only at hSw); go_simp; (try with_reducible rfl))
    (try simp only [List.getElem_toArray, List.getElem_cons_succ, List.getElem_cons_zero, Act.put, List.setIfInBounds_toArray, List.set_cons_zero, List.set_cons_succ])
    refine wpAnyH_ready (rs := [2]) (by kernel_rfl) (by simp) ?_
    refine AllReadyH.cons (o := _) rfl (fun K hK => ?_) ?_
    · (go_simp; go_at_call 25; refine Calls.mono (HI.out.1 _ (Below.refl _ _).drew) ?_; rintro r9 w9 ⟨rfl, hb9'⟩; have hb9 : Below wc.heap.size wc w9 := (Below.refl wc.heap.size wc).drew.trans hb9'; have H9 : Hid _ := HI.out.2.below hb9; clear hb9 hb9')
      (try go_wp2_with fail)
      refine hK.out _ _ ?_ (fun hHeld => ?_)
      · exact ⟨trivial, trivial⟩
      clear hK K
      (try simp only [List.getElem_toArray, List.getElem_cons_succ, List.getElem_cons_zero, Act.put, List.setIfInBounds_toArray, List.set_cons_zero, List.set_cons_succ])
      refine wpAnyH_take (i := 3) (oi := _) (v := ?_) rfl (by kernel_rfl) (by kernel_rfl) (by kernel_rfl) (fun _ _ _ h => h) (Or.inl ⟨by rfl, ?_⟩) (by assumption) ?_
      rotate_left
      · (intro w hSw; (try dsimp only at hSw); go_simp; (try with_reducible rfl))
      (try simp only [List.getElem_toArray, List.getElem_cons_succ, List.getElem_cons_zero, Act.put, List.setIfInBounds_toArray, List.set_cons_zero, List.set_cons_succ])
      refine wpAnyH_take (i := 4) (oi := _) (v := ?_) rfl (by kernel_rfl) (by kernel_rfl) (by kernel_rfl) (fun _ _ _ h => h) (Or.inl ⟨by rfl, ?_⟩) (by assumption) ?_
      rotate_left
      · (intro w hSw; (try dsimp only at hSw); go_simp; (try with_reducible rfl))
      (try simp only [List.getElem_toArray, List.getElem_cons_succ, List.getElem_cons_zero, Act.put, List.setIfInBounds_toArray, List.set_cons_zero, List.set_cons_succ])
      refine wpAnyH_take (i := 5) (oi := _) (v := ?_) rfl (by kernel_rfl) (by kernel_rfl) (by kernel_rfl) (fun _ _ _ h => h) (Or.inl ⟨by rfl, ?_⟩) (by assumption) ?_
      rotate_left
      · (intro w hSw; (try dsimp only at hSw); go_simp; (try with_reducible rfl))
      (try simp only [List.getElem_toArray, List.getElem_cons_succ, List.getElem_cons_zero, Act.put, List.setIfInBounds_toArray, List.set_cons_zero, List.set_cons_succ])
      refine wpAnyH_take (i := 6) (oi := _) (v := ?_) rfl (by kernel_rfl) (by kernel_rfl) (by kernel_rfl) (fun _ _ _ h => h) (Or.inl ⟨by rfl, ?_⟩) (by assumption) ?_
      rotate_left
      · (intro w hSw; (try dsimp only at hSw); go_simp; (try with_reducible rfl))
      (try simp only [List.getElem_toArray, List.getElem_cons_succ, List.getElem_cons_zero, Act.put, List.setIfInBounds_toArray, List.set_cons_zero, List.set_cons_succ])
      refine wpAnyH_take (i := 7) (oi := _) (v := ?_) rfl (by kernel_rfl) (by kernel_rfl) (by kernel_rfl) (fun _ _ _ h => h) (Or.inl ⟨by rfl, ?_⟩) (by assumption) ?_
      rotate_left
      · (intro w hSw; (try dsimp only at hSw); go_simp; (try with_reducible rfl))
      (try simp only [List.getElem_toArray, List.getElem_cons_succ, List.getElem_cons_zero, Act.put, List.setIfInBounds_toArray, List.set_cons_zero, List.set_cons_succ])
      refine wpAnyH_take (i := 8) (oi := _) (v := ?_) rfl (by kernel_rfl) (by kernel_rfl) (by kernel_rfl) (fun _ _ _ h => h) (Or.inl ⟨by rfl, ?_⟩) (by assumption) ?_
      rotate_left
      · (intro w hSw; (try dsimp only at hSw); go_simp; (try with_reducible rfl))
      (try simp only [List.getElem_toArray, List.getElem_cons_succ, List.getElem_cons_zero, Act.put, List.setIfInBounds_toArray, List.set_cons_zero, List.set_cons_succ])
      refine wpAnyH_take (i := 9) (oi := _) (v := ?_) rfl (by kernel_rfl) (by kernel_rfl) (by kernel_rfl) (fun _ _ _ h => h) (Or.inl ⟨by rfl, ?_⟩) (by assumption) ?_
      rotate_left
      · (intro w hSw; (try dsimp only at hSw); go_simp; (try with_reducible rfl))
      (try simp only [List.getElem_toArray, List.getElem_cons_succ, List.getElem_cons_zero, Act.put, List.setIfInBounds_toArray, List.set_cons_zero, List.set_cons_succ])
      refine wpAnyH_take (i := 10) (oi := _) (v := ?_) rfl (by kernel_rfl) (by kernel_rfl) (by kernel_rfl) (fun _ _ _ h => h) (Or.inl ⟨by rfl, ?_⟩) (by assumption) ?_
      rotate_left
      · (intro w hSw; (try dsimp only at hSw); go_simp; (try with_reducible rfl))
      (try simp only [List.getElem_toArray, List.getElem_cons_succ, List.getElem_cons_zero, Act.put, List.setIfInBounds_toArray, List.set_cons_zero, List.set_cons_succ])
      refine wpAnyH_take (i := 11) (oi := _) (v := undef) rfl (by kernel_rfl) (by kernel_rfl) (by kernel_rfl) (fun _ _ _ h => h) (Or.inr ⟨by rfl, rfl⟩) (by assumption) ?_
      (try simp only [List.getElem_toArray, List.getElem_cons_succ, List.getElem_cons_zero, Act.put, List.setIfInBounds_toArray, List.set_cons_zero, List.set_cons_succ])
      refine wpAnyH_take (i := 12) (oi := _) (v := undef) rfl (by kernel_rfl) (by kernel_rfl) (by kernel_rfl) (fun _ _ _ h => h) (Or.inr ⟨by rfl, rfl⟩) (by assumption) ?_
      (try simp only [List.getElem_toArray, List.getElem_cons_succ, List.getElem_cons_zero, Act.put, List.setIfInBounds_toArray, List.set_cons_zero, List.set_cons_succ])
      refine wpAnyH_take (i := 13) (oi := _) (v := undef) rfl (by kernel_rfl) (by kernel_rfl) (by kernel_rfl) (fun _ _ _ h => h) (Or.inr ⟨by rfl, rfl⟩) (by assumption) ?_
      (try simp only [List.getElem_toArray, List.getElem_cons_succ, List.getElem_cons_zero, Act.put, List.setIfInBounds_toArray, List.set_cons_zero, List.set_cons_succ])
      refine wpAnyH_take (i := 14) (oi := _) (v := undef) rfl (by kernel_rfl) (by kernel_rfl) (by kernel_rfl) (fun _ _ _ h => h) (Or.inr ⟨by rfl, rfl⟩) (by assumption) ?_
      (try simp only [List.getElem_toArray, List.getElem_cons_succ, List.getElem_cons_zero, Act.put, List.setIfInBounds_toArray, List.set_cons_zero, List.set_cons_succ])
      refine wpAnyH_take (i := 15) (oi := _) (v := undef) rfl (by kernel_rfl) (by kernel_rfl) (by kernel_rfl) (fun _ _ _ h => h) (Or.inr ⟨by rfl, rfl⟩) (by assumption) ?_
      (try simp only [List.getElem_toArray, List.getElem_cons_succ, List.getElem_cons_zero, Act.put, List.setIfInBounds_toArray, List.set_cons_zero, List.set_cons_succ])
      refine wpAnyH_take (i := 16) (oi := _) (v := undef) rfl (by kernel_rfl) (by kernel_rfl) (by kernel_rfl) (fun _ _ _ h => h) (Or.inr ⟨by rfl, rfl⟩) (by assumption) ?_
      (try simp only [List.getElem_toArray, List.getElem_cons_succ, List.getElem_cons_zero, Act.put, List.setIfInBounds_toArray, List.set_cons_zero, List.set_cons_succ])
      refine wpAnyH_take (i := 17) (oi := _) (v := undef) rfl (by kernel_rfl) (by kernel_rfl) (by kernel_rfl) (fun _ _ _ h => h) (Or.inr ⟨by rfl, rfl⟩) (by assumption) ?_
      (try simp only [List.getElem_toArray, List.getElem_cons_succ, List.getElem_cons_zero, Act.put, List.setIfInBounds_toArray, List.set_cons_zero, List.set_cons_succ])
      refine wpAnyH_take (i := 18) (oi := _) (v := undef) rfl (by kernel_rfl) (by kernel_rfl) (by kernel_rfl) (fun _ _ _ h => h) (Or.inr ⟨by rfl, rfl⟩) (by assumption) ?_
      (try simp only [List.getElem_toArray, List.getElem_cons_succ, List.getElem_cons_zero, Act.put, List.setIfInBounds_toArray, List.set_cons_zero, List.set_cons_succ])
      refine wpAnyH_take (i := 19) (oi := _) (v := undef) rfl (by kernel_rfl) (by kernel_rfl) (by kernel_rfl) (fun _ _ _ h => h) (Or.inr ⟨by rfl, rfl⟩) (by assumption) ?_
      (try simp only [List.getElem_toArray, List.getElem_cons_succ, List.getElem_cons_zero, Act.put, List.setIfInBounds_toArray, List.set_cons_zero, List.set_cons_succ])
      refine wpAnyH_take (i := 20) (oi := _) (v := undef) rfl (by kernel_rfl) (by kernel_rfl) (by kernel_rfl) (fun _ _ _ h => h) (Or.inr ⟨by rfl, rfl⟩) (by assumption) ?_
      (try simp only [List.getElem_toArray, List.getElem_cons_succ, List.getElem_cons_zero, Act.put, List.setIfInBounds_toArray, List.set_cons_zero, List.set_cons_succ])
      refine wpAnyH_take (i := 21) (oi := _) (v := undef) rfl (by kernel_rfl) (by kernel_rfl) (by kernel_rfl) (fun _ _ _ h => h) (Or.inr ⟨by rfl, rfl⟩) (by assumption) ?_
      (try simp only [List.getElem_toArray, List.getElem_cons_succ, List.getElem_cons_zero, Act.put, List.setIfInBounds_toArray, List.set_cons_zero, List.set_cons_succ])
      refine wpAnyH_take (i := 22) (oi := _) (v := undef) rfl (by kernel_rfl) (by kernel_rfl) (by kernel_rfl) (fun _ _ _ h => h) (Or.inr ⟨by rfl, rfl⟩) (by assumption) ?_
      (try simp only [List.getElem_toArray, List.getElem_cons_succ, List.getElem_cons_zero, Act.put, List.setIfInBounds_toArray, List.set_cons_zero, List.set_cons_succ])
      refine wpAnyH_take (i := 23) (oi := _) (v := undef) rfl (by kernel_rfl) (by kernel_rfl) (by kernel_rfl) (fun _ _ _ h => h) (Or.inr ⟨by rfl, rfl⟩) (by assumption) ?_
      (try simp only [List.getElem_toArray, List.getElem_cons_succ, List.getElem_cons_zero, Act.put, List.setIfInBounds_toArray, List.set_cons_zero, List.set_cons_succ])
      refine wpAnyH_take (i := 24) (oi := _) (v := undef) rfl (by kernel_rfl) (by kernel_rfl) (by kernel_rfl) (fun _ _ _ h => h) (Or.inr ⟨by rfl, rfl⟩) (by assumption) ?_
      (try simp only [List.getElem_toArray, List.getElem_cons_succ, List.getElem_cons_zero, Act.put, List.setIfInBounds_toArray, List.set_cons_zero, List.set_cons_succ])
      refine wpAnyH_take (i := 25) (oi := _) (v := ?_) rfl (by kernel_rfl) (by kernel_rfl) (by kernel_rfl) (fun _ _ _ h => h) (Or.inl ⟨by rfl, ?_⟩) (by assumption) ?_
      rotate_left
      · (intro w hSw; (try dsimp only at hSw); go_simp; (try with_reducible rfl))
      (try simp only [List.getElem_toArray, List.getElem_cons_succ, List.getElem_cons_zero, Act.put, List.setIfInBounds_toArray, List.set_cons_zero, List.set_cons_succ])
      refine wpAnyH_take (i := 26) (oi := _) (v := ?_) rfl (by kernel_rfl) (by kernel_rfl) (by kernel_rfl) (fun _ _ _ h => h) (Or.inl ⟨by rfl, ?_⟩) (by assumption) ?_
      rotate_left
      · (intro w hSw; (try dsimp only at hSw); go_simp; (try with_reducible rfl))
      (try simp only [List.getElem_toArray, List.getElem_cons_succ, List.getElem_cons_zero, Act.put, List.setIfInBounds_toArray, List.set_cons_zero, List.set_cons_succ])
      refine wpAnyH_take (i := 27) (oi := _) (v := ?_) rfl (by kernel_rfl) (by kernel_rfl) (by kernel_rfl) (fun _ _ _ h => h) (Or.inl ⟨by rfl, ?_⟩) (by assumption) ?_
      rotate_left
      · (intro w hSw; (try dsimp only at hSw); go_simp; (try with_reducible rfl))
      (try simp only [List.getElem_toArray, List.getElem_cons_succ, List.getElem_cons_zero, Act.put, List.setIfInBounds_toArray, List.set_cons_zero, List.set_cons_succ])
      refine wpAnyH_done (by kernel_rfl) ?_ _
      go_wp2_with fail
      go_ret
      exact ⟨rfl, H9.out.pe⟩
    exact AllReadyH.nil
end Go.Proofs.YtpcndfffljmajaaGreatDoor
/- Chapter 8's law: a pair's step (kind 4, refused). (Written by mkstep8.py.) -/
namespace Go.Proofs.YtpcndfffljmajaaGreatDoor
open Go.RowKit Go.Maps
attribute [local go_sem ↓] Go.wp_at_zero Go.wp_at_succ
set_option maxRecDepth 100000 in
set_option maxHeartbeats 8000000 in
theorem step4_neg (wB w0 : World) (g pb bB bM : Nat) (vB vM : Value) (s : Pst) (g' pb' bB' bM' : Nat) (vB' vM' : Value) (s' : Pst) (e : Nat → Addr) (z : Int) (hz : z < 0) (h : PS (fun _ => False) wB w0 g pb bB bM vB vM s g' pb' bB' bM' vB' vM' s') (hE : Er 19 wB e) (hR : EnvR wB (e 1) (e 3)) :
    Calls Tryz.prog 13 #[.pointer (some ⟨g, 0, none⟩), .agg #[.int .i64 4, .int .i64 z]] w0 fun r w' => r = .returned (.bool true) ∧ PE wB w' g g' := by
  obtain ⟨aB, kB, hvB, haB⟩ := h.a.dd.sB
  obtain ⟨aM, kM, hvM, haM⟩ := h.a.dd.sM
  subst hvB
  subst hvM
  have hn := h.a.ok.n1
  have hnb := h.a.ok.few
  have d1 : decide ((0 : Int) ≤ z) = false := decide_eq_false (by omega)
  have d0 : ¬ (0 : Int) ≤ z := by omega
  obtain ⟨W, hW⟩ : ∃ W, W = w0.alloc (.cells #[.int .i64 4, .int .i64 z] 68) := ⟨_, rfl⟩
  have hbW : Below w0.heap.size w0 W := by rw [hW]; exact (Below.refl _ _).alloc (Nat.le_refl _) _
  have hbx : W.heap[w0.heap.size]? = some (.cells #[.int .i64 4, .int .i64 z] 68 (0, 0)) := by rw [hW]; exact (MapKept.heap_alloc w0 _).1
  have hPW := h.below hbW
  obtain ⟨c0, c1, c2, c3, c4⟩ := hPW.a.cells
  have x0 := cell0_of (k := 0) hbx rfl
  have x1 := cell0_of (k := 1) hbx rfl
  have hEW := hE.below hPW.a.bl
  have hRW := hR.below hPW.a.bl
  have HP : Hid (PS (fun _ => False) wB W g pb bB bM (.slice aB s.n kB) (.slice aM s.n kM) s g' pb' bB' bM' vB' vM' s' ∧ W.heap[w0.heap.size]? = some (.cells #[.int .i64 4, .int .i64 z] 68 (0, 0)) ∧ Er 19 W e ∧ EnvR W (e 1) (e 3)) := ⟨hPW, hbx, hEW, hRW⟩
  have HS : Hid ((0 < s.n → aB = some ⟨bB, 0, none⟩) ∧ (0 < s.n → aM = some ⟨bM, 0, none⟩)) := ⟨haB, haM⟩
  have HW : Hid _ := hW
  have hEB := hE
  clear hPW hbx hEW hRW hbW hW h hE hR haB haM
  go_enter Tryz.func13, Tryz.ntmps13
  go_upto_region 1 with fail
  rw [← HW.out]
  clear HW
  go_quiet (fail)
  rename Nat => q1
  go_wp2_with fail
  go_quiet (fail)
  rename Nat => q2
  obtain ⟨w1, hw1⟩ : ∃ w1, w1 = (W.drewN q1).drewN q2 := ⟨_, rfl⟩
  rw [← hw1]
  have hb1 : Below W.heap.size W w1 := by rw [hw1]; exact below_drewN (below_drewN (Below.refl _ _) _) _
  have H1 : Hid (PS (fun _ => False) wB w1 g pb bB bM (.slice aB s.n kB) (.slice aM s.n kM) s g' pb' bB' bM' vB' vM' s' ∧ w1.heap[w0.heap.size]? = some (.cells #[.int .i64 4, .int .i64 z] 68 (0, 0)) ∧ Er 19 w1 e ∧ EnvR w1 (e 1) (e 3)) := ⟨HP.out.1.below hb1, res_up hb1 HP.out.2.1, HP.out.2.2.1.below hb1, HP.out.2.2.2.below hb1⟩
  clear hw1 hb1 HP c0 c1 c2 c3 c4 x0 x1
  obtain ⟨c0, c1, c2, c3, c4⟩ := H1.out.1.a.cells
  have x0 := cell0_of (k := 0) H1.out.2.1 rfl
  have x1 := cell0_of (k := 1) H1.out.2.1 rfl
  have gx : ¬ w0.heap.size = pb := by
    obtain ⟨c, hP, _⟩ := H1.out.1.a.pt
    obtain ⟨cs, hc, _⟩ := hP.ids
    exact typed_ne H1.out.2.1 hc (by decide)
  have gp : ¬ g = pb := H1.out.1.a.ne.1
  have hM : ∀ W' (_ : Below w1.heap.size w1 W'), Calls Tryz.prog 28 #[.pointer (some ⟨pb, 0, none⟩), .int .i64 z] W' fun r w' => ∃ x, r = .returned (.tuple #[.slice none 0 0, x]) ∧ Chain w' 0 0 (e 3) [refB] x ∧ Below W'.heap.size W' w' := fun W' hb => by
    obtain ⟨c, hP, hL⟩ := (H1.out.1.a.below hb).pt
    exact members_bad pb c s z (e 1) (e 3) wB W' hP hL (H1.out.2.2.2.below hb) (.inl hz)
  have HM : Hid _ := hM
  clear hM
  go_wp2_with fail
  go_cut [17, 18] (fun s17 s18 wx => ∃ x8, s17 = .slice none 0 0 ∧ s18 = x8 ∧ Chain wx 0 0 (e 3) [refB] x8 ∧ Below w1.heap.size w1 wx)
  case first =>
    go_region_held3 (fun w' => w'.cell? ⟨g, 0, none⟩ = some (.pointer (some ⟨pb, 0, none⟩)) ∧ w'.cell? ⟨w0.heap.size, 1, none⟩ = some (.int .i64 z)) (go_keep)
      ((first
        | (go_at_call 28; refine (HM.out _ (by repeat (first | exact Below.refl _ _ | assumption | refine Below.drew ?_ | refine Below.setCell ?_ (by simp) _ | refine Below.alloc ?_ (by simp) _))).mono ?_; rintro r8 w8 ⟨x8, rfl, hC8, hb8'⟩; have hb8 := below_of_drew3 hb8'; have c0 := cell_up c0 hb8; have x1 := cell_up x1 hb8; have H8 : Hid (Chain w8 0 0 (e 3) [refB] x8 ∧ Below w1.heap.size w1 w8) := ⟨hC8, hb8⟩; clear hC8 hb8 hb8')
        | fail))
    all_goals (refine Met.intro ?_; apply_assumption; refine Met.intro ?_; apply_assumption; (repeat apply Exists.intro); refine ⟨?rel, rfl⟩; case rel => exact ⟨_, rfl, rfl, by first | exact H8.out.1 | exact H8.out.1.drew _, by first | exact H8.out.2 | exact below_drewN H8.out.2 _⟩)
  case rest =>
    obtain ⟨x8, rfl, hx8, hC, hb⟩ := hcut
    obtain rfl := hx8.symm
    clear hx8
    obtain ⟨_, _, _, _, e4⟩ := (H1.out.1.below hb).a.cells
    have hI := (H1.out.1.below hb).one (l := .slice none 0 0) (zs := []) (Below.refl _ _) (World.ownsRow_nil _ _ _ _) (by decide)
    have HI : Hid _ := And.intro hI (And.intro hC (H1.out.2.2.1.below hb))
    have HB : Hid _ := hb
    clear hI hC hb HM c0 c1 c2 c3 c4 x0 x1
    go_wp2_with fail
    refine Calls.mono HI.out.1 ?_
    rintro r w9 ⟨rfl, hP9, hF9, _⟩
    have hE9 : Er 19 w9 e := hEB.below hP9.a.bl
    have hC9 : Chain w9 0 0 (e 3) [refB] x8 := chain_fr HI.out.2.1 hF9
    have hI := index_bad x8 e w9 hE9 hC9
    have H9 : Hid _ := And.intro hI hP9
    clear hI hE9 hC9 hP9 hF9 HI e4
    go_wp2_with fail
    refine Calls.mono H9.out.1 ?_
    rintro r w6 ⟨rfl, hb6⟩
    have H6 : Hid _ := H9.out.2.below hb6
    clear hb6
    go_wp2_with fail
    go_ret
    exact ⟨rfl, H6.out.pe⟩
set_option maxRecDepth 100000 in
set_option maxHeartbeats 8000000 in
theorem step4_hasnt (wB w0 : World) (g pb bB bM : Nat) (vB vM : Value) (s : Pst) (g' pb' bB' bM' : Nat) (vB' vM' : Value) (s' : Pst) (e : Nat → Addr) (z : Nat) (hz : s.nb ≤ z) (h : PS (fun _ => False) wB w0 g pb bB bM vB vM s g' pb' bB' bM' vB' vM' s') (hE : Er 19 wB e) (hR : EnvR wB (e 1) (e 3)) :
    Calls Tryz.prog 13 #[.pointer (some ⟨g, 0, none⟩), .agg #[.int .i64 4, .int .i64 (z : Int)]] w0 fun r w' => r = .returned (.bool true) ∧ PE wB w' g g' := by
  obtain ⟨aB, kB, hvB, haB⟩ := h.a.dd.sB
  obtain ⟨aM, kM, hvM, haM⟩ := h.a.dd.sM
  subst hvB
  subst hvM
  have hn := h.a.ok.n1
  have hnb := h.a.ok.few
  have d1 : (0 : Int) ≤ (z : Int) := by omega
  have d3 : decide ((z : Int) < (s.nb : Int)) = false := decide_eq_false (by omega)
  have d4 : ¬ (z : Int) < (s.nb : Int) := by omega
  have d6 : ¬ z < s.nb := by omega
  obtain ⟨W, hW⟩ : ∃ W, W = w0.alloc (.cells #[.int .i64 4, .int .i64 (z : Int)] 68) := ⟨_, rfl⟩
  have hbW : Below w0.heap.size w0 W := by rw [hW]; exact (Below.refl _ _).alloc (Nat.le_refl _) _
  have hbx : W.heap[w0.heap.size]? = some (.cells #[.int .i64 4, .int .i64 (z : Int)] 68 (0, 0)) := by rw [hW]; exact (MapKept.heap_alloc w0 _).1
  have hPW := h.below hbW
  obtain ⟨c0, c1, c2, c3, c4⟩ := hPW.a.cells
  have x0 := cell0_of (k := 0) hbx rfl
  have x1 := cell0_of (k := 1) hbx rfl
  have hEW := hE.below hPW.a.bl
  have hRW := hR.below hPW.a.bl
  have HP : Hid (PS (fun _ => False) wB W g pb bB bM (.slice aB s.n kB) (.slice aM s.n kM) s g' pb' bB' bM' vB' vM' s' ∧ W.heap[w0.heap.size]? = some (.cells #[.int .i64 4, .int .i64 (z : Int)] 68 (0, 0)) ∧ Er 19 W e ∧ EnvR W (e 1) (e 3)) := ⟨hPW, hbx, hEW, hRW⟩
  have HS : Hid ((0 < s.n → aB = some ⟨bB, 0, none⟩) ∧ (0 < s.n → aM = some ⟨bM, 0, none⟩)) := ⟨haB, haM⟩
  have HW : Hid _ := hW
  have hEB := hE
  clear hPW hbx hEW hRW hbW hW h hE hR haB haM
  go_enter Tryz.func13, Tryz.ntmps13
  go_upto_region 1 with fail
  rw [← HW.out]
  clear HW
  go_quiet (fail)
  rename Nat => q1
  go_wp2_with fail
  go_quiet (fail)
  rename Nat => q2
  obtain ⟨w1, hw1⟩ : ∃ w1, w1 = (W.drewN q1).drewN q2 := ⟨_, rfl⟩
  rw [← hw1]
  have hb1 : Below W.heap.size W w1 := by rw [hw1]; exact below_drewN (below_drewN (Below.refl _ _) _) _
  have H1 : Hid (PS (fun _ => False) wB w1 g pb bB bM (.slice aB s.n kB) (.slice aM s.n kM) s g' pb' bB' bM' vB' vM' s' ∧ w1.heap[w0.heap.size]? = some (.cells #[.int .i64 4, .int .i64 (z : Int)] 68 (0, 0)) ∧ Er 19 w1 e ∧ EnvR w1 (e 1) (e 3)) := ⟨HP.out.1.below hb1, res_up hb1 HP.out.2.1, HP.out.2.2.1.below hb1, HP.out.2.2.2.below hb1⟩
  clear hw1 hb1 HP c0 c1 c2 c3 c4 x0 x1
  obtain ⟨c0, c1, c2, c3, c4⟩ := H1.out.1.a.cells
  have x0 := cell0_of (k := 0) H1.out.2.1 rfl
  have x1 := cell0_of (k := 1) H1.out.2.1 rfl
  have gx : ¬ w0.heap.size = pb := by
    obtain ⟨c, hP, _⟩ := H1.out.1.a.pt
    obtain ⟨cs, hc, _⟩ := hP.ids
    exact typed_ne H1.out.2.1 hc (by decide)
  have gp : ¬ g = pb := H1.out.1.a.ne.1
  have hM : ∀ W' (_ : Below w1.heap.size w1 W'), Calls Tryz.prog 28 #[.pointer (some ⟨pb, 0, none⟩), .int .i64 (z : Int)] W' fun r w' => ∃ x, r = .returned (.tuple #[.slice none 0 0, x]) ∧ Chain w' 0 0 (e 3) [refB] x ∧ Below W'.heap.size W' w' := fun W' hb => by
    obtain ⟨c, hP, hL⟩ := (H1.out.1.a.below hb).pt
    exact members_bad pb c s (z : Int) (e 1) (e 3) wB W' hP hL (H1.out.2.2.2.below hb) (.inr (by omega))
  have HM : Hid _ := hM
  clear hM
  go_wp2_with fail
  go_cut [17, 18] (fun s17 s18 wx => ∃ x8, s17 = .slice none 0 0 ∧ s18 = x8 ∧ Chain wx 0 0 (e 3) [refB] x8 ∧ Below w1.heap.size w1 wx)
  case first =>
    go_region_held3 (fun w' => w'.cell? ⟨g, 0, none⟩ = some (.pointer (some ⟨pb, 0, none⟩)) ∧ w'.cell? ⟨w0.heap.size, 1, none⟩ = some (.int .i64 (z : Int))) (go_keep)
      ((first
        | (go_at_call 28; refine (HM.out _ (by repeat (first | exact Below.refl _ _ | assumption | refine Below.drew ?_ | refine Below.setCell ?_ (by simp) _ | refine Below.alloc ?_ (by simp) _))).mono ?_; rintro r8 w8 ⟨x8, rfl, hC8, hb8'⟩; have hb8 := below_of_drew3 hb8'; have c0 := cell_up c0 hb8; have x1 := cell_up x1 hb8; have H8 : Hid (Chain w8 0 0 (e 3) [refB] x8 ∧ Below w1.heap.size w1 w8) := ⟨hC8, hb8⟩; clear hC8 hb8 hb8')
        | fail))
    all_goals (refine Met.intro ?_; apply_assumption; refine Met.intro ?_; apply_assumption; (repeat apply Exists.intro); refine ⟨?rel, rfl⟩; case rel => exact ⟨_, rfl, rfl, by first | exact H8.out.1 | exact H8.out.1.drew _, by first | exact H8.out.2 | exact below_drewN H8.out.2 _⟩)
  case rest =>
    obtain ⟨x8, rfl, hx8, hC, hb⟩ := hcut
    obtain rfl := hx8.symm
    clear hx8
    obtain ⟨_, _, _, _, e4⟩ := (H1.out.1.below hb).a.cells
    have hI := (H1.out.1.below hb).one (l := .slice none 0 0) (zs := []) (Below.refl _ _) (World.ownsRow_nil _ _ _ _) (by decide)
    have HI : Hid _ := And.intro hI (And.intro hC (H1.out.2.2.1.below hb))
    have HB : Hid _ := hb
    clear hI hC hb HM c0 c1 c2 c3 c4 x0 x1
    go_wp2_with fail
    refine Calls.mono HI.out.1 ?_
    rintro r w9 ⟨rfl, hP9, hF9, _⟩
    have hE9 : Er 19 w9 e := hEB.below hP9.a.bl
    have hC9 : Chain w9 0 0 (e 3) [refB] x8 := chain_fr HI.out.2.1 hF9
    have hI := index_bad x8 e w9 hE9 hC9
    have H9 : Hid _ := And.intro hI hP9
    clear hI hE9 hC9 hP9 hF9 HI e4
    go_wp2_with fail
    refine Calls.mono H9.out.1 ?_
    rintro r w6 ⟨rfl, hb6⟩
    have H6 : Hid _ := H9.out.2.below hb6
    clear hb6
    go_wp2_with fail
    go_ret
    exact ⟨rfl, H6.out.pe⟩
end Go.Proofs.YtpcndfffljmajaaGreatDoor
/- Chapter 8's law: a pair's step (kind 5, refused). (Written by mkstep8.py.) -/
namespace Go.Proofs.YtpcndfffljmajaaGreatDoor
open Go.RowKit Go.Maps
attribute [local go_sem ↓] Go.wp_at_zero Go.wp_at_succ
set_option maxRecDepth 100000 in
set_option maxHeartbeats 8000000 in
theorem step5_neg (wB w0 : World) (g pb bB bM : Nat) (vB vM : Value) (s : Pst) (g' pb' bB' bM' : Nat) (vB' vM' : Value) (s' : Pst) (e : Nat → Addr) (z : Int) (hz : z < 0) (h : PS (fun _ => False) wB w0 g pb bB bM vB vM s g' pb' bB' bM' vB' vM' s') (hE : Er 19 wB e) (hR : EnvR wB (e 1) (e 3)) :
    Calls Tryz.prog 13 #[.pointer (some ⟨g, 0, none⟩), .agg #[.int .i64 5, .int .i64 z]] w0 fun r w' => r = .returned (.bool true) ∧ PE wB w' g g' := by
  obtain ⟨aB, kB, hvB, haB⟩ := h.a.dd.sB
  obtain ⟨aM, kM, hvM, haM⟩ := h.a.dd.sM
  subst hvB
  subst hvM
  have hn := h.a.ok.n1
  have hnb := h.a.ok.few
  have d1 : decide ((0 : Int) ≤ z) = false := decide_eq_false (by omega)
  have d0 : ¬ (0 : Int) ≤ z := by omega
  obtain ⟨W, hW⟩ : ∃ W, W = w0.alloc (.cells #[.int .i64 5, .int .i64 z] 68) := ⟨_, rfl⟩
  have hbW : Below w0.heap.size w0 W := by rw [hW]; exact (Below.refl _ _).alloc (Nat.le_refl _) _
  have hbx : W.heap[w0.heap.size]? = some (.cells #[.int .i64 5, .int .i64 z] 68 (0, 0)) := by rw [hW]; exact (MapKept.heap_alloc w0 _).1
  have hPW := h.below hbW
  obtain ⟨c0, c1, c2, c3, c4⟩ := hPW.a.cells
  have x0 := cell0_of (k := 0) hbx rfl
  have x1 := cell0_of (k := 1) hbx rfl
  have hEW := hE.below hPW.a.bl
  have hRW := hR.below hPW.a.bl
  have HP : Hid (PS (fun _ => False) wB W g pb bB bM (.slice aB s.n kB) (.slice aM s.n kM) s g' pb' bB' bM' vB' vM' s' ∧ W.heap[w0.heap.size]? = some (.cells #[.int .i64 5, .int .i64 z] 68 (0, 0)) ∧ Er 19 W e ∧ EnvR W (e 1) (e 3)) := ⟨hPW, hbx, hEW, hRW⟩
  have HS : Hid ((0 < s.n → aB = some ⟨bB, 0, none⟩) ∧ (0 < s.n → aM = some ⟨bM, 0, none⟩)) := ⟨haB, haM⟩
  have HW : Hid _ := hW
  clear hPW hbx hEW hRW hbW hW h hE hR haB haM
  go_enter Tryz.func13, Tryz.ntmps13
  go_upto_region 1 with fail
  rw [← HW.out]
  clear HW
  go_quiet (fail)
  rename Nat => q1
  go_wp2_with fail
  go_quiet (fail)
  rename Nat => q2
  obtain ⟨w1, hw1⟩ : ∃ w1, w1 = (W.drewN q1).drewN q2 := ⟨_, rfl⟩
  rw [← hw1]
  have hb1 : Below W.heap.size W w1 := by rw [hw1]; exact below_drewN (below_drewN (Below.refl _ _) _) _
  have H1 : Hid (PS (fun _ => False) wB w1 g pb bB bM (.slice aB s.n kB) (.slice aM s.n kM) s g' pb' bB' bM' vB' vM' s' ∧ w1.heap[w0.heap.size]? = some (.cells #[.int .i64 5, .int .i64 z] 68 (0, 0)) ∧ Er 19 w1 e ∧ EnvR w1 (e 1) (e 3)) := ⟨HP.out.1.below hb1, res_up hb1 HP.out.2.1, HP.out.2.2.1.below hb1, HP.out.2.2.2.below hb1⟩
  clear hw1 hb1 HP c0 c1 c2 c3 c4 x0 x1
  obtain ⟨c0, c1, c2, c3, c4⟩ := H1.out.1.a.cells
  have x0 := cell0_of (k := 0) H1.out.2.1 rfl
  have x1 := cell0_of (k := 1) H1.out.2.1 rfl
  have gx : ¬ w0.heap.size = pb := by
    obtain ⟨c, hP, _⟩ := H1.out.1.a.pt
    obtain ⟨cs, hc, _⟩ := hP.ids
    exact typed_ne H1.out.2.1 hc (by decide)
  have gp : ¬ g = pb := H1.out.1.a.ne.1
  have hM : ∀ W' (_ : Below w1.heap.size w1 W'), Calls Tryz.prog 30 #[.pointer (some ⟨pb, 0, none⟩), .int .i64 z] W' fun r w' => ∃ x, r = .returned (.tuple #[.int .i64 0, x]) ∧ Chain w' 0 0 (e 3) [refB] x ∧ Below W'.heap.size W' w' := fun W' hb => by
    obtain ⟨c, hP, hL⟩ := (H1.out.1.a.below hb).pt
    exact marks8_bad pb c s z (e 1) (e 3) wB W' hP hL (H1.out.2.2.2.below hb) (.inl hz)
  have HM : Hid _ := hM
  clear hM
  go_wp2_with fail
  go_cut [19, 20] (fun s19 s20 wx => ∃ x8, s19 = .int .i64 0 ∧ s20 = x8 ∧ Chain wx 0 0 (e 3) [refB] x8 ∧ Below w1.heap.size w1 wx)
  case first =>
    go_region_held3 (fun w' => w'.cell? ⟨g, 0, none⟩ = some (.pointer (some ⟨pb, 0, none⟩)) ∧ w'.cell? ⟨w0.heap.size, 1, none⟩ = some (.int .i64 z)) (go_keep)
      ((first
        | (go_at_call 30; refine (HM.out _ (by repeat (first | exact Below.refl _ _ | assumption | refine Below.drew ?_ | refine Below.setCell ?_ (by simp) _ | refine Below.alloc ?_ (by simp) _))).mono ?_; rintro r8 w8 ⟨x8, rfl, hC8, hb8'⟩; have hb8 := below_of_drew3 hb8'; have c0 := cell_up c0 hb8; have x1 := cell_up x1 hb8; have H8 : Hid (Chain w8 0 0 (e 3) [refB] x8 ∧ Below w1.heap.size w1 w8) := ⟨hC8, hb8⟩; clear hC8 hb8 hb8')
        | fail))
    all_goals (refine Met.intro ?_; apply_assumption; refine Met.intro ?_; apply_assumption; (repeat apply Exists.intro); refine ⟨?rel, rfl⟩; case rel => exact ⟨_, rfl, rfl, by first | exact H8.out.1 | exact H8.out.1.drew _, by first | exact H8.out.2 | exact below_drewN H8.out.2 _⟩)
  case rest =>
    obtain ⟨x8, rfl, hx8, hC, hb⟩ := hcut
    obtain rfl := hx8.symm
    clear hx8
    have hI := index_bad x8 e wc (H1.out.2.2.1.below hb) hC
    have HI : Hid _ := And.intro hI (H1.out.1.below hb)
    clear hI hC hb HM c0 c1 c2 c3 c4 x0 x1
    go_wp2_with fail
    refine Calls.mono HI.out.1 ?_
    rintro r w9 ⟨rfl, hb9⟩
    have H9 : Hid _ := HI.out.2.below hb9
    clear hb9
    go_wp2_with fail
    go_ret
    exact ⟨rfl, H9.out.pe⟩
set_option maxRecDepth 100000 in
set_option maxHeartbeats 8000000 in
theorem step5_hasnt (wB w0 : World) (g pb bB bM : Nat) (vB vM : Value) (s : Pst) (g' pb' bB' bM' : Nat) (vB' vM' : Value) (s' : Pst) (e : Nat → Addr) (z : Nat) (hz : s.nb ≤ z) (h : PS (fun _ => False) wB w0 g pb bB bM vB vM s g' pb' bB' bM' vB' vM' s') (hE : Er 19 wB e) (hR : EnvR wB (e 1) (e 3)) :
    Calls Tryz.prog 13 #[.pointer (some ⟨g, 0, none⟩), .agg #[.int .i64 5, .int .i64 (z : Int)]] w0 fun r w' => r = .returned (.bool true) ∧ PE wB w' g g' := by
  obtain ⟨aB, kB, hvB, haB⟩ := h.a.dd.sB
  obtain ⟨aM, kM, hvM, haM⟩ := h.a.dd.sM
  subst hvB
  subst hvM
  have hn := h.a.ok.n1
  have hnb := h.a.ok.few
  have d1 : (0 : Int) ≤ (z : Int) := by omega
  have d3 : decide ((z : Int) < (s.nb : Int)) = false := decide_eq_false (by omega)
  have d4 : ¬ (z : Int) < (s.nb : Int) := by omega
  have d6 : ¬ z < s.nb := by omega
  obtain ⟨W, hW⟩ : ∃ W, W = w0.alloc (.cells #[.int .i64 5, .int .i64 (z : Int)] 68) := ⟨_, rfl⟩
  have hbW : Below w0.heap.size w0 W := by rw [hW]; exact (Below.refl _ _).alloc (Nat.le_refl _) _
  have hbx : W.heap[w0.heap.size]? = some (.cells #[.int .i64 5, .int .i64 (z : Int)] 68 (0, 0)) := by rw [hW]; exact (MapKept.heap_alloc w0 _).1
  have hPW := h.below hbW
  obtain ⟨c0, c1, c2, c3, c4⟩ := hPW.a.cells
  have x0 := cell0_of (k := 0) hbx rfl
  have x1 := cell0_of (k := 1) hbx rfl
  have hEW := hE.below hPW.a.bl
  have hRW := hR.below hPW.a.bl
  have HP : Hid (PS (fun _ => False) wB W g pb bB bM (.slice aB s.n kB) (.slice aM s.n kM) s g' pb' bB' bM' vB' vM' s' ∧ W.heap[w0.heap.size]? = some (.cells #[.int .i64 5, .int .i64 (z : Int)] 68 (0, 0)) ∧ Er 19 W e ∧ EnvR W (e 1) (e 3)) := ⟨hPW, hbx, hEW, hRW⟩
  have HS : Hid ((0 < s.n → aB = some ⟨bB, 0, none⟩) ∧ (0 < s.n → aM = some ⟨bM, 0, none⟩)) := ⟨haB, haM⟩
  have HW : Hid _ := hW
  clear hPW hbx hEW hRW hbW hW h hE hR haB haM
  go_enter Tryz.func13, Tryz.ntmps13
  go_upto_region 1 with fail
  rw [← HW.out]
  clear HW
  go_quiet (fail)
  rename Nat => q1
  go_wp2_with fail
  go_quiet (fail)
  rename Nat => q2
  obtain ⟨w1, hw1⟩ : ∃ w1, w1 = (W.drewN q1).drewN q2 := ⟨_, rfl⟩
  rw [← hw1]
  have hb1 : Below W.heap.size W w1 := by rw [hw1]; exact below_drewN (below_drewN (Below.refl _ _) _) _
  have H1 : Hid (PS (fun _ => False) wB w1 g pb bB bM (.slice aB s.n kB) (.slice aM s.n kM) s g' pb' bB' bM' vB' vM' s' ∧ w1.heap[w0.heap.size]? = some (.cells #[.int .i64 5, .int .i64 (z : Int)] 68 (0, 0)) ∧ Er 19 w1 e ∧ EnvR w1 (e 1) (e 3)) := ⟨HP.out.1.below hb1, res_up hb1 HP.out.2.1, HP.out.2.2.1.below hb1, HP.out.2.2.2.below hb1⟩
  clear hw1 hb1 HP c0 c1 c2 c3 c4 x0 x1
  obtain ⟨c0, c1, c2, c3, c4⟩ := H1.out.1.a.cells
  have x0 := cell0_of (k := 0) H1.out.2.1 rfl
  have x1 := cell0_of (k := 1) H1.out.2.1 rfl
  have gx : ¬ w0.heap.size = pb := by
    obtain ⟨c, hP, _⟩ := H1.out.1.a.pt
    obtain ⟨cs, hc, _⟩ := hP.ids
    exact typed_ne H1.out.2.1 hc (by decide)
  have gp : ¬ g = pb := H1.out.1.a.ne.1
  have hM : ∀ W' (_ : Below w1.heap.size w1 W'), Calls Tryz.prog 30 #[.pointer (some ⟨pb, 0, none⟩), .int .i64 (z : Int)] W' fun r w' => ∃ x, r = .returned (.tuple #[.int .i64 0, x]) ∧ Chain w' 0 0 (e 3) [refB] x ∧ Below W'.heap.size W' w' := fun W' hb => by
    obtain ⟨c, hP, hL⟩ := (H1.out.1.a.below hb).pt
    exact marks8_bad pb c s (z : Int) (e 1) (e 3) wB W' hP hL (H1.out.2.2.2.below hb) (.inr (by omega))
  have HM : Hid _ := hM
  clear hM
  go_wp2_with fail
  go_cut [19, 20] (fun s19 s20 wx => ∃ x8, s19 = .int .i64 0 ∧ s20 = x8 ∧ Chain wx 0 0 (e 3) [refB] x8 ∧ Below w1.heap.size w1 wx)
  case first =>
    go_region_held3 (fun w' => w'.cell? ⟨g, 0, none⟩ = some (.pointer (some ⟨pb, 0, none⟩)) ∧ w'.cell? ⟨w0.heap.size, 1, none⟩ = some (.int .i64 (z : Int))) (go_keep)
      ((first
        | (go_at_call 30; refine (HM.out _ (by repeat (first | exact Below.refl _ _ | assumption | refine Below.drew ?_ | refine Below.setCell ?_ (by simp) _ | refine Below.alloc ?_ (by simp) _))).mono ?_; rintro r8 w8 ⟨x8, rfl, hC8, hb8'⟩; have hb8 := below_of_drew3 hb8'; have c0 := cell_up c0 hb8; have x1 := cell_up x1 hb8; have H8 : Hid (Chain w8 0 0 (e 3) [refB] x8 ∧ Below w1.heap.size w1 w8) := ⟨hC8, hb8⟩; clear hC8 hb8 hb8')
        | fail))
    all_goals (refine Met.intro ?_; apply_assumption; refine Met.intro ?_; apply_assumption; (repeat apply Exists.intro); refine ⟨?rel, rfl⟩; case rel => exact ⟨_, rfl, rfl, by first | exact H8.out.1 | exact H8.out.1.drew _, by first | exact H8.out.2 | exact below_drewN H8.out.2 _⟩)
  case rest =>
    obtain ⟨x8, rfl, hx8, hC, hb⟩ := hcut
    obtain rfl := hx8.symm
    clear hx8
    have hI := index_bad x8 e wc (H1.out.2.2.1.below hb) hC
    have HI : Hid _ := And.intro hI (H1.out.1.below hb)
    clear hI hC hb HM c0 c1 c2 c3 c4 x0 x1
    go_wp2_with fail
    refine Calls.mono HI.out.1 ?_
    rintro r w9 ⟨rfl, hb9⟩
    have H9 : Hid _ := HI.out.2.below hb9
    clear hb9
    go_wp2_with fail
    go_ret
    exact ⟨rfl, H9.out.pe⟩
end Go.Proofs.YtpcndfffljmajaaGreatDoor
