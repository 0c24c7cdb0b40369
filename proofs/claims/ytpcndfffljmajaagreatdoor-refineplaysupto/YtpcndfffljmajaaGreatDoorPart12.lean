/- Texts of this claim, joined: RfS1, RfS2, RfS3, RfS4, RfS5, RfLk2. -/
import Derived.Test.YtpcndfffljmajaaGreatDoorPart11
import Derived.Deep.QuietTactic
import Derived.BigQuiet
/- Chapter 8's law: a pair's step (kind 1). (Written by mkstep8.py.) -/
namespace Go.Proofs.YtpcndfffljmajaaGreatDoor
open Go.RowKit Go.Maps
attribute [local go_sem ↓] Go.wp_at_zero Go.wp_at_succ
set_option maxRecDepth 100000 in
set_option maxHeartbeats 8000000 in
theorem step1_is (wB w0 : World) (g pb bB bM : Nat) (vB vM : Value) (s : Pst) (g' pb' bB' bM' : Nat) (vB' vM' : Value) (s' : Pst) (e : Nat → Addr) (z : Nat) (hz2 : z < s.n) (h : PS (fun _ => False) wB w0 g pb bB bM vB vM s g' pb' bB' bM' vB' vM' s') (hE : Er 19 wB e) (hR : EnvR wB (e 1) (e 3)) :
    Calls Tryz.prog 13 #[.pointer (some ⟨g, 0, none⟩), .agg #[.int .i64 1, .int .i64 (z : Int)]] w0 fun r w' => r = .returned (.bool true) ∧ PE wB w' g g' := by
  obtain ⟨aB, kB, hvB, haB⟩ := h.a.dd.sB
  obtain ⟨aM, kM, hvM, haM⟩ := h.a.dd.sM
  subst hvB
  subst hvM
  have hn := h.a.ok.n1
  have hnb := h.a.ok.few
  have d1 : (0 : Int) ≤ (z : Int) := by omega
  have d2 : (z : Int) < (s.n : Int) := by omega
  obtain ⟨W, hW⟩ : ∃ W, W = w0.alloc (.cells #[.int .i64 1, .int .i64 (z : Int)] 68) := ⟨_, rfl⟩
  have hbW : Below w0.heap.size w0 W := by rw [hW]; exact (Below.refl _ _).alloc (Nat.le_refl _) _
  have hbx : W.heap[w0.heap.size]? = some (.cells #[.int .i64 1, .int .i64 (z : Int)] 68 (0, 0)) := by rw [hW]; exact (MapKept.heap_alloc w0 _).1
  have hPW := h.below hbW
  obtain ⟨c0, c1, c2, c3, c4⟩ := hPW.a.cells
  have x0 := cell0_of (k := 0) hbx rfl
  have x1 := cell0_of (k := 1) hbx rfl
  have hEW := hE.below hPW.a.bl
  have hRW := hR.below hPW.a.bl
  have HP : Hid (PS (fun _ => False) wB W g pb bB bM (.slice aB s.n kB) (.slice aM s.n kM) s g' pb' bB' bM' vB' vM' s' ∧ W.heap[w0.heap.size]? = some (.cells #[.int .i64 1, .int .i64 (z : Int)] 68 (0, 0)) ∧ Er 19 W e ∧ EnvR W (e 1) (e 3)) := ⟨hPW, hbx, hEW, hRW⟩
  have HS : Hid ((0 < s.n → aB = some ⟨bB, 0, none⟩) ∧ (0 < s.n → aM = some ⟨bM, 0, none⟩)) := ⟨haB, haM⟩
  have HW : Hid _ := hW
  clear hPW hbx hEW hRW hbW hW h hE hR haB haM
  go_enter Tryz.func13, Tryz.ntmps13
  go_upto_region 1 with fail
  rw [← HW.out]
  clear HW
  go_quiet (fail)
  rename Nat => q1
  go_wp2_with fail
  go_quiet (fail)
  rename Nat => q2
  obtain ⟨w1, hw1⟩ : ∃ w1, w1 = (W.drewN q1).drewN q2 := ⟨_, rfl⟩
  rw [← hw1]
  have hb1 : Below W.heap.size W w1 := by rw [hw1]; exact below_drewN (below_drewN (Below.refl _ _) _) _
  have H1 : Hid (PS (fun _ => False) wB w1 g pb bB bM (.slice aB s.n kB) (.slice aM s.n kM) s g' pb' bB' bM' vB' vM' s' ∧ w1.heap[w0.heap.size]? = some (.cells #[.int .i64 1, .int .i64 (z : Int)] 68 (0, 0)) ∧ Er 19 w1 e ∧ EnvR w1 (e 1) (e 3)) := ⟨HP.out.1.below hb1, res_up hb1 HP.out.2.1, HP.out.2.2.1.below hb1, HP.out.2.2.2.below hb1⟩
  clear hw1 hb1 HP c0 c1 c2 c3 c4 x0 x1
  obtain ⟨c0, c1, c2, c3, c4⟩ := H1.out.1.a.cells
  have x0 := cell0_of (k := 0) H1.out.2.1 rfl
  have x1 := cell0_of (k := 1) H1.out.2.1 rfl
  have gx : ¬ w0.heap.size = pb := by
    obtain ⟨c, hP, _⟩ := H1.out.1.a.pt
    obtain ⟨cs, hc, _⟩ := hP.ids
    exact typed_ne H1.out.2.1 hc (by decide)
  have gp : ¬ g = pb := H1.out.1.a.ne.1
  have hM := fun W' (hb : Below w1.heap.size w1 W') => (by
    obtain ⟨c, hP, hL⟩ := (H1.out.1.a.below hb).pt
    exact pmark_any pb c s z wB W' hP hL H1.out.1.a.ok hz2 : Calls Tryz.prog 16 #[.pointer (some ⟨pb, 0, none⟩), .int .i64 z] W' fun r w' => r = .returned (.tuple #[.bool (!s.isM z), .nilIface]) ∧ ∃ c' s', Pt wB w' pb c' ∧ Lay c' s' ∧ s'.Ok ∧ Kept (fun i => i = pb) W' w' ∧ s'.n = s.n ∧ s'.nb = s.nb ∧ s'.O = s.O ∧ s'.B = s.B ∧ s'.D = s.D ∧ ∀ y, y < s.n → s'.isM y = (decide (y = z) || s.isM y))
  have HM : Hid _ := hM
  clear hM
  obtain ⟨mz, hmz⟩ : ∃ mz, mz = s.isM z := ⟨_, rfl⟩
  rw [← hmz] at HM
  have Hmz : Hid (mz = s.isM z) := hmz
  clear hmz
  go_wp2_with fail
  go_cut [7, 8] (fun s7 s8 wx => ∃ s2, s7 = .bool (!mz) ∧ s8 = .nilIface ∧ MkS wB w1 wx pb s z s2)
  case first =>
    go_region_held3 (fun w' => w'.cell? ⟨g, 0, none⟩ = some (.pointer (some ⟨pb, 0, none⟩)) ∧ w'.cell? ⟨w0.heap.size, 1, none⟩ = some (.int .i64 z)) (go_keep)
      ((first
        | (go_at_call 16; refine (HM.out _ (by repeat (first | exact Below.refl _ _ | assumption | refine Below.drew ?_ | refine Below.setCell ?_ (by simp) _ | refine Below.alloc ?_ (by simp) _))).mono ?_; rintro r8 w8 ⟨rfl, c8, s2, h81, h82, h83, hk8', h85, h86, h87, _, _, h88⟩; have hk8 : Kept (fun i => i = pb) w1 w8 := (Kept.of_below ((Below.refl _ w1).drew)).trans hk8'; have c0 : w8.cell? ⟨g, 0, none⟩ = some (.pointer (some ⟨pb, 0, none⟩)) := cellk c0 hk8 gp; have x1 : w8.cell? ⟨w0.heap.size, 1, none⟩ = some (.int .i64 z) := cellk x1 hk8 gx; have H8 : Hid (MkS wB w1 w8 pb s z s2) := (MkS.mk ⟨c8, h81, h82⟩ h83 hk8 h85 h86 h87 h88 : MkS wB w1 w8 pb s z s2); clear h81 h82 h83 hk8 hk8' h85 h86 h87 h88)
        | fail))
    all_goals (refine Met.intro ?_; apply_assumption; refine Met.intro ?_; apply_assumption; (repeat apply Exists.intro); refine ⟨?rel, rfl⟩; case rel => exact ⟨_, rfl, rfl, by first | exact H8.out | exact H8.out.below (below_drewN (Below.refl _ _) _)⟩)
  case rest =>
    obtain ⟨s2, rfl, rfl, hMk⟩ := hcut
    have haM := HS.out.2 (by omega)
    subst haM
    obtain ⟨_, _, hd⟩ := H1.out.1.a.marked hz2 hMk
    have e2 := hd.cM
    have e1 := cellk x1 hMk.k gx
    obtain ⟨rM, _⟩ := hd.rM z hz2
    rw [← Hmz.out] at rM
    have HMk : Hid (MkS wB w1 wc pb s z s2) := hMk
    clear hMk hd HM c0 c1 c2 c3 c4 x0 x1
    have y1 : ((!mz) == (!mz)) = true := by simp
    go_wp2_with fail
    go_quiet (fail)
    rename Nat => q3
    obtain ⟨w5, hw5⟩ : ∃ w5, w5 = wc.drewN q3 := ⟨_, rfl⟩
    have hMk : MkS wB w1 w5 pb s z s2 := by rw [hw5]; exact HMk.out.below (below_drewN (Below.refl _ _) _)
    rw [← hw5]
    clear hw5 e1 e2 rM HMk
    obtain ⟨_, _, hd⟩ := H1.out.1.a.marked hz2 hMk
    have e2 := hd.cM
    have e1 := cellk (cell0_of (k := 1) H1.out.2.1 rfl) hMk.k gx
    obtain ⟨rM, fM⟩ := hd.rM z hz2
    have HMk : Hid (MkS wB w1 w5 pb s z s2) := hMk
    clear hMk hd
    go_wp2_with fail
    go_region
    all_goals go_wp2_with fail
    all_goals
      go_ret
      obtain ⟨hS1, hS2, _⟩ := H1.out.1.a.marked hz2 HMk.out
      obtain ⟨hS3, hS4, _⟩ := H1.out.1.a.marked hz2 (HMk.out.below (Below.refl _ _).drew)
      exact ⟨rfl, by first | exact (H1.out.1.turn hS2 HMk.out.n hS1).pe | exact (H1.out.1.turn hS4 HMk.out.n hS3).pe⟩
end Go.Proofs.YtpcndfffljmajaaGreatDoor
/- Chapter 8's law: a pair's step (kind 2). (Written by mkstep8.py.) -/
namespace Go.Proofs.YtpcndfffljmajaaGreatDoor
open Go.RowKit Go.Maps
attribute [local go_sem ↓] Go.wp_at_zero Go.wp_at_succ
set_option maxRecDepth 100000 in
set_option maxHeartbeats 8000000 in
theorem step2_has (wB w0 : World) (g pb bB bM : Nat) (vB vM : Value) (s : Pst) (g' pb' bB' bM' : Nat) (vB' vM' : Value) (s' : Pst) (e : Nat → Addr) (z : Nat) (hz : z < s.nb) (h : PS (fun _ => False) wB w0 g pb bB bM vB vM s g' pb' bB' bM' vB' vM' s') (hE : Er 19 wB e) (hR : EnvR wB (e 1) (e 3)) :
    Calls Tryz.prog 13 #[.pointer (some ⟨g, 0, none⟩), .agg #[.int .i64 2, .int .i64 (z : Int)]] w0 fun r w' => r = .returned (.bool true) ∧ PE wB w' g g' := by
  obtain ⟨aB, kB, hvB, haB⟩ := h.a.dd.sB
  obtain ⟨aM, kM, hvM, haM⟩ := h.a.dd.sM
  subst hvB
  subst hvM
  have hn := h.a.ok.n1
  have hnb := h.a.ok.few
  have d1 : (0 : Int) ≤ (z : Int) := by omega
  have d3 : (z : Int) < (s.nb : Int) := by omega
  have hz2 : z < s.n := by omega
  have d2 : (z : Int) < (s.n : Int) := by omega
  obtain ⟨W, hW⟩ : ∃ W, W = w0.alloc (.cells #[.int .i64 2, .int .i64 (z : Int)] 68) := ⟨_, rfl⟩
  have hbW : Below w0.heap.size w0 W := by rw [hW]; exact (Below.refl _ _).alloc (Nat.le_refl _) _
  have hbx : W.heap[w0.heap.size]? = some (.cells #[.int .i64 2, .int .i64 (z : Int)] 68 (0, 0)) := by rw [hW]; exact (MapKept.heap_alloc w0 _).1
  have hPW := h.below hbW
  obtain ⟨c0, c1, c2, c3, c4⟩ := hPW.a.cells
  have x0 := cell0_of (k := 0) hbx rfl
  have x1 := cell0_of (k := 1) hbx rfl
  have hEW := hE.below hPW.a.bl
  have hRW := hR.below hPW.a.bl
  have HP : Hid (PS (fun _ => False) wB W g pb bB bM (.slice aB s.n kB) (.slice aM s.n kM) s g' pb' bB' bM' vB' vM' s' ∧ W.heap[w0.heap.size]? = some (.cells #[.int .i64 2, .int .i64 (z : Int)] 68 (0, 0)) ∧ Er 19 W e ∧ EnvR W (e 1) (e 3)) := ⟨hPW, hbx, hEW, hRW⟩
  have HS : Hid ((0 < s.n → aB = some ⟨bB, 0, none⟩) ∧ (0 < s.n → aM = some ⟨bM, 0, none⟩)) := ⟨haB, haM⟩
  have HW : Hid _ := hW
  clear hPW hbx hEW hRW hbW hW h hE hR haB haM
  go_enter Tryz.func13, Tryz.ntmps13
  go_upto_region 1 with fail
  rw [← HW.out]
  clear HW
  go_quiet (fail)
  rename Nat => q1
  go_wp2_with fail
  go_quiet (fail)
  rename Nat => q2
  obtain ⟨w1, hw1⟩ : ∃ w1, w1 = (W.drewN q1).drewN q2 := ⟨_, rfl⟩
  rw [← hw1]
  have hb1 : Below W.heap.size W w1 := by rw [hw1]; exact below_drewN (below_drewN (Below.refl _ _) _) _
  have H1 : Hid (PS (fun _ => False) wB w1 g pb bB bM (.slice aB s.n kB) (.slice aM s.n kM) s g' pb' bB' bM' vB' vM' s' ∧ w1.heap[w0.heap.size]? = some (.cells #[.int .i64 2, .int .i64 (z : Int)] 68 (0, 0)) ∧ Er 19 w1 e ∧ EnvR w1 (e 1) (e 3)) := ⟨HP.out.1.below hb1, res_up hb1 HP.out.2.1, HP.out.2.2.1.below hb1, HP.out.2.2.2.below hb1⟩
  clear hw1 hb1 HP c0 c1 c2 c3 c4 x0 x1
  obtain ⟨c0, c1, c2, c3, c4⟩ := H1.out.1.a.cells
  have x0 := cell0_of (k := 0) H1.out.2.1 rfl
  have x1 := cell0_of (k := 1) H1.out.2.1 rfl
  have gx : ¬ w0.heap.size = pb := by
    obtain ⟨c, hP, _⟩ := H1.out.1.a.pt
    obtain ⟨cs, hc, _⟩ := hP.ids
    exact typed_ne H1.out.2.1 hc (by decide)
  have gp : ¬ g = pb := H1.out.1.a.ne.1
  have hM : ∀ W' (_ : Below w1.heap.size w1 W'), Calls Tryz.prog 17 #[.pointer (some ⟨pb, 0, none⟩), .int .i64 z] W' fun r w' => r = .returned (.tuple #[.int .i64 (if s.splits z then s.nb else 0 : Nat), .bool (decide (s.splits z)), .nilIface]) ∧ ∃ c', Pt wB w' pb c' ∧ Lay c' (s.split z) ∧ Kept (fun i => i = pb) W' w' := fun W' hb => by
    obtain ⟨c, hP, hL⟩ := (H1.out.1.a.below hb).pt
    exact split_any pb c s z wB W' hP hL H1.out.1.a.ok hz
  obtain ⟨kn, hkn⟩ : ∃ kn : Nat, kn = (if s.splits z then s.nb else 0) := ⟨_, rfl⟩
  obtain ⟨sp, hsp⟩ : ∃ sp, sp = decide (s.splits z) := ⟨_, rfl⟩
  rw [← hkn, ← hsp] at hM
  have HM : Hid _ := hM
  have HK : Hid (kn = (if s.splits z then s.nb else 0) ∧ sp = decide (s.splits z)) := ⟨hkn, hsp⟩
  clear hM hkn hsp
  go_wp2_with fail
  go_cut [10, 11, 12] (fun s10 s11 s12 wx => s10 = .int .i64 kn ∧ s11 = .bool sp ∧ s12 = .nilIface ∧ SpS wB w1 wx pb (s.split z))
  case first =>
    go_region_held3 (fun w' => w'.cell? ⟨g, 0, none⟩ = some (.pointer (some ⟨pb, 0, none⟩)) ∧ w'.cell? ⟨w0.heap.size, 1, none⟩ = some (.int .i64 z)) (go_keep)
      ((first
        | (go_at_call 17; refine (HM.out _ (by repeat (first | exact Below.refl _ _ | assumption | refine Below.drew ?_ | refine Below.setCell ?_ (by simp) _ | refine Below.alloc ?_ (by simp) _))).mono ?_; rintro r8 w8 ⟨rfl, c8, h81, h82, hk8'⟩; have hk8 : Kept (fun i => i = pb) w1 w8 := (Kept.of_below ((Below.refl _ w1).drew)).trans hk8'; have c0 : w8.cell? ⟨g, 0, none⟩ = some (.pointer (some ⟨pb, 0, none⟩)) := cellk c0 hk8 gp; have x1 : w8.cell? ⟨w0.heap.size, 1, none⟩ = some (.int .i64 z) := cellk x1 hk8 gx; have H8 : Hid (SpS wB w1 w8 pb (s.split z)) := (SpS.mk ⟨c8, h81, h82⟩ hk8 : SpS wB w1 w8 pb (s.split z)); clear h81 h82 hk8 hk8')
        | fail))
    all_goals (refine Met.intro ?_; apply_assumption; refine Met.intro ?_; apply_assumption; (repeat apply Exists.intro); refine ⟨?rel, rfl⟩; case rel => exact ⟨rfl, rfl, rfl, by first | exact H8.out | exact H8.out.below (below_drewN (Below.refl _ _) _)⟩)
  case rest =>
    obtain ⟨rfl, rfl, rfl, hSp⟩ := hcut
    have e1 := cellk x1 hSp.k gx
    obtain ⟨mv, hmv⟩ : ∃ mv, mv = decide (2 * dMk s.O s.isM (z : Int) s.n ≤ (dMem s.O (z : Int) s.n).length) := ⟨_, rfl⟩
    have hsp2 : sp = decide (0 < dMk s.O s.isM (z : Int) s.n ∧ dMk s.O s.isM (z : Int) s.n < (dMem s.O (z : Int) s.n).length) := by rw [HK.out.2]; exact decide_eq_decide.2 (splits_iff H1.out.1.a.ok hz)
    have hkn : kn = (if sp then s.nb else 0) := by
      rw [HK.out.1, HK.out.2]
      by_cases q : s.splits z
      · rw [if_pos q, if_pos (decide_eq_true q)]
      · rw [if_neg q, if_neg (by simpa using q)]
    have hR2 : ∀ W' (_ : Below wc.heap.size wc W'), Calls Tryz.prog 26 #[.pointer (some ⟨g, 1, none⟩), .int .i64 z] W' fun r w' => r = .returned (.tuple #[.int .i64 kn, .bool sp]) ∧ PS (fun _ => False) wB w' g pb bB bM (.slice aB s.n kB) (.slice aM s.n kM) (s.split z) g' pb' bB' bM' vB' vM' s' := fun W' hb => by
      have hSp2 := hSp.below hb
      have hD := H1.out.1.a.spD (by omega) hSp2
      refine (rSplit_any _ _ g 1 bB bM _ _ s.n s.nb s.O s.isM (z : Int) W' hD (by omega) (by omega) sp mv hsp2 hmv).mono ?_
      rintro r w' ⟨rfl, O', bs', hd, hk, hO'⟩
      obtain ⟨h5, h6⟩ := H1.out.1.a.splitted hz hSp2 HK.out.2 hmv hd hk hO'
      exact ⟨by rw [hkn], H1.out.1.turn h6 (split_ok H1.out.1.a.ok hz).2.1 h5⟩
    have HR : Hid _ := hR2
    clear hR2 hmv hsp2 hkn hSp HM c0 c1 c2 c3 c4 x0 x1
    have y1 : ((kn : Int) == (kn : Int)) = true := by simp
    have y2 : (sp == sp) = true := by simp
    go_wp2_with fail
    go_cut [13, 14] (fun s13 s14 wx => s13 = .int .i64 kn ∧ s14 = .bool sp ∧ PS (fun _ => False) wB wx g pb bB bM (.slice aB s.n kB) (.slice aM s.n kM) (s.split z) g' pb' bB' bM' vB' vM' s')
    case first =>
      go_region_law
        ((first
          | (go_simp; go_at_call 26; refine (HR.out _ (by repeat (first | exact Below.refl _ _ | assumption | refine Below.drew ?_ | refine Below.setCell ?_ (by simp) _ | refine Below.alloc ?_ (by simp) _))).mono ?_; rintro r8 w8 ⟨rfl, hP8⟩; have H8 : Hid _ := hP8; clear hP8)
          | fail))
      all_goals ((try go_simp); refine Met.intro ?_; apply_assumption; refine Met.intro ?_; apply_assumption; (repeat apply Exists.intro); refine ⟨?rel, rfl⟩; case rel => exact ⟨rfl, rfl, H8.out⟩)
    case rest =>
      obtain ⟨rfl, rfl, hP8⟩ := hcut
      have H8 : Hid _ := hP8
      clear hP8 HR
      go_wp2_with fail
      go_ret
      exact ⟨rfl, H8.out.pe⟩
end Go.Proofs.YtpcndfffljmajaaGreatDoor
/- Chapter 8's law: a pair's step (kind 3). (Written by mkstep8.py.) -/
namespace Go.Proofs.YtpcndfffljmajaaGreatDoor
open Go.RowKit Go.Maps
attribute [local go_sem ↓] Go.wp_at_zero Go.wp_at_succ
set_option maxRecDepth 100000 in
set_option maxHeartbeats 8000000 in
set_option linter.unusedSimpArgs false in
theorem step3_is (wB w0 : World) (g pb bB bM : Nat) (vB vM : Value) (s : Pst) (g' pb' bB' bM' : Nat) (vB' vM' : Value) (s' : Pst) (e : Nat → Addr) (z : Nat) (hz2 : z < s.n) (h : PS (fun _ => False) wB w0 g pb bB bM vB vM s g' pb' bB' bM' vB' vM' s') (hE : Er 19 wB e) (hR : EnvR wB (e 1) (e 3)) :
    Calls Tryz.prog 13 #[.pointer (some ⟨g, 0, none⟩), .agg #[.int .i64 3, .int .i64 (z : Int)]] w0 fun r w' => r = .returned (.bool true) ∧ PE wB w' g g' := by
  obtain ⟨aB, kB, hvB, haB⟩ := h.a.dd.sB
  obtain ⟨aM, kM, hvM, haM⟩ := h.a.dd.sM
  subst hvB
  subst hvM
  have hn := h.a.ok.n1
  have hnb := h.a.ok.few
  have d1 : (0 : Int) ≤ (z : Int) := by omega
  have d2 : (z : Int) < (s.n : Int) := by omega
  obtain ⟨W, hW⟩ : ∃ W, W = w0.alloc (.cells #[.int .i64 3, .int .i64 (z : Int)] 68) := ⟨_, rfl⟩
  have hbW : Below w0.heap.size w0 W := by rw [hW]; exact (Below.refl _ _).alloc (Nat.le_refl _) _
  have hbx : W.heap[w0.heap.size]? = some (.cells #[.int .i64 3, .int .i64 (z : Int)] 68 (0, 0)) := by rw [hW]; exact (MapKept.heap_alloc w0 _).1
  have hPW := h.below hbW
  obtain ⟨c0, c1, c2, c3, c4⟩ := hPW.a.cells
  have x0 := cell0_of (k := 0) hbx rfl
  have x1 := cell0_of (k := 1) hbx rfl
  have hEW := hE.below hPW.a.bl
  have hRW := hR.below hPW.a.bl
  have HP : Hid (PS (fun _ => False) wB W g pb bB bM (.slice aB s.n kB) (.slice aM s.n kM) s g' pb' bB' bM' vB' vM' s' ∧ W.heap[w0.heap.size]? = some (.cells #[.int .i64 3, .int .i64 (z : Int)] 68 (0, 0)) ∧ Er 19 W e ∧ EnvR W (e 1) (e 3)) := ⟨hPW, hbx, hEW, hRW⟩
  have HS : Hid ((0 < s.n → aB = some ⟨bB, 0, none⟩) ∧ (0 < s.n → aM = some ⟨bM, 0, none⟩)) := ⟨haB, haM⟩
  have HW : Hid _ := hW
  clear hPW hbx hEW hRW hbW hW h hE hR haB haM
  go_enter Tryz.func13, Tryz.ntmps13
  go_upto_region 1 with fail
  rw [← HW.out]
  clear HW
  go_quiet (fail)
  rename Nat => q1
  go_wp2_with fail
  go_quiet (fail)
  rename Nat => q2
  obtain ⟨w1, hw1⟩ : ∃ w1, w1 = (W.drewN q1).drewN q2 := ⟨_, rfl⟩
  rw [← hw1]
  have hb1 : Below W.heap.size W w1 := by rw [hw1]; exact below_drewN (below_drewN (Below.refl _ _) _) _
  have H1 : Hid (PS (fun _ => False) wB w1 g pb bB bM (.slice aB s.n kB) (.slice aM s.n kM) s g' pb' bB' bM' vB' vM' s' ∧ w1.heap[w0.heap.size]? = some (.cells #[.int .i64 3, .int .i64 (z : Int)] 68 (0, 0)) ∧ Er 19 w1 e ∧ EnvR w1 (e 1) (e 3)) := ⟨HP.out.1.below hb1, res_up hb1 HP.out.2.1, HP.out.2.2.1.below hb1, HP.out.2.2.2.below hb1⟩
  clear hw1 hb1 HP c0 c1 c2 c3 c4 x0 x1
  obtain ⟨c0, c1, c2, c3, c4⟩ := H1.out.1.a.cells
  have x0 := cell0_of (k := 0) H1.out.2.1 rfl
  have x1 := cell0_of (k := 1) H1.out.2.1 rfl
  have gx : ¬ w0.heap.size = pb := by
    obtain ⟨c, hP, _⟩ := H1.out.1.a.pt
    obtain ⟨cs, hc, _⟩ := hP.ids
    exact typed_ne H1.out.2.1 hc (by decide)
  have gp : ¬ g = pb := H1.out.1.a.ne.1
  have hM : ∀ W' (_ : Below w1.heap.size w1 W'), Calls Tryz.prog 27 #[.pointer (some ⟨pb, 0, none⟩), .int .i64 z] W' fun r w' => r = .returned (.tuple #[.int .i64 (s.O z), .nilIface]) ∧ w' = W' := fun W' hb => by
    obtain ⟨c, hP, hL⟩ := (H1.out.1.a.below hb).pt
    exact block_ok pb c s z wB W' hP hL hn hz2
  have haB := HS.out.1 (by omega)
  subst haB
  obtain ⟨rB, _⟩ := H1.out.1.a.dd.rB z hz2
  obtain ⟨oz, hoz⟩ : ∃ oz, oz = s.O z := ⟨_, rfl⟩
  rw [← hoz] at hM rB
  have HM : Hid _ := hM
  have y1 : ((oz : Int) == (oz : Int)) = true := by simp
  clear hM hoz
  go_wp2_with fail
  go_quiet ((go_at_call 27; exact Calls.quiet_of_same (HM.out _ (below_drewN (Below.refl _ _) _))))
  rename Nat => q3
  go_wp2_with fail
  obtain ⟨w5, hw5⟩ : ∃ w5, w5 = w1.drewN q3 := ⟨_, rfl⟩
  rw [← hw5]
  have hb5 : Below w1.heap.size w1 w5 := by rw [hw5]; exact below_drewN (Below.refl _ _) _
  have hb6 : Below w1.heap.size w1 w5.drew := hb5.drew
  have u1 := cell_up c1 hb6
  have u2 := cell_up x1 hb6
  have u3 := cell_up rB hb6
  have H6 : Hid _ := H1.out.1.below hb6
  clear hw5 hb5 hb6 c0 c1 c2 c3 c4 x0 x1 rB HM
  refine wp_region_held_drew (S := (fun w' => w'.cell? ⟨g, 1, none⟩ = some (.slice (some ⟨bB, 0, none⟩) s.n kB) ∧ w'.cell? ⟨w0.heap.size, 1, none⟩ = some (.int .i64 z) ∧ w'.cell? ⟨bB, z, none⟩ = some (.int .i64 oz))) (by kernel_rfl) ?_ (fun hHeld => ?_)
  · exact ⟨u1, u2, u3⟩
  refine wpAnyH_take (i := 0) (oi := _) (v := ?_) rfl (by kernel_rfl) (by kernel_rfl) (by kernel_rfl) (fun _ _ _ h => h) (Or.inl ⟨by rfl, ?_⟩) (by assumption) ?_
  rotate_left
  · (intro w hSw; (try dsimp only at hSw); go_simp; (try with_reducible rfl))
  (try simp only [List.getElem_toArray, List.getElem_cons_succ, List.getElem_cons_zero, Act.put, List.setIfInBounds_toArray, List.set_cons_zero, List.set_cons_succ])
  refine wpAnyH_take (i := 1) (oi := _) (v := ?_) rfl (by kernel_rfl) (by kernel_rfl) (by kernel_rfl) (fun _ _ _ h => h) (Or.inl ⟨by rfl, ?_⟩) (by assumption) ?_
  rotate_left
  · (intro w hSw; (try dsimp only at hSw); go_simp; (try with_reducible rfl))
  (try simp only [List.getElem_toArray, List.getElem_cons_succ, List.getElem_cons_zero, Act.put, List.setIfInBounds_toArray, List.set_cons_zero, List.set_cons_succ])
  refine wpAnyH_ready (rs := [2]) (by kernel_rfl) (by simp) ?_
  refine AllReadyH.cons (o := _) rfl (fun K hK => ?_) ?_
  · (go_simp; go_at_call 25; refine Calls.mono (index_ok _) ?_; rintro r9 w9 ⟨rfl, hw9⟩; obtain rfl := hw9.symm; clear hw9)
    (try go_wp2_with fail)
    refine hK.out _ _ ?_ (fun hHeld => ?_)
    · exact ⟨u1, u2, u3⟩
    clear hK K
    (try simp only [List.getElem_toArray, List.getElem_cons_succ, List.getElem_cons_zero, Act.put, List.setIfInBounds_toArray, List.set_cons_zero, List.set_cons_succ])
    refine wpAnyH_take (i := 3) (oi := _) (v := ?_) rfl (by kernel_rfl) (by kernel_rfl) (by kernel_rfl) (fun _ _ _ h => h) (Or.inl ⟨by rfl, ?_⟩) (by assumption) ?_
    rotate_left
    · (intro w hSw; obtain ⟨v1, v2, v3⟩ := hSw; go_simp; (try with_reducible rfl))
    (try simp only [List.getElem_toArray, List.getElem_cons_succ, List.getElem_cons_zero, Act.put, List.setIfInBounds_toArray, List.set_cons_zero, List.set_cons_succ])
    refine wpAnyH_take (i := 4) (oi := _) (v := ?_) rfl (by kernel_rfl) (by kernel_rfl) (by kernel_rfl) (fun _ _ _ h => h) (Or.inl ⟨by rfl, ?_⟩) (by assumption) ?_
    rotate_left
    · (intro w hSw; obtain ⟨v1, v2, v3⟩ := hSw; go_simp; (try with_reducible rfl))
    (try simp only [List.getElem_toArray, List.getElem_cons_succ, List.getElem_cons_zero, Act.put, List.setIfInBounds_toArray, List.set_cons_zero, List.set_cons_succ])
    refine wpAnyH_take (i := 5) (oi := _) (v := ?_) rfl (by kernel_rfl) (by kernel_rfl) (by kernel_rfl) (fun _ _ _ h => h) (Or.inl ⟨by rfl, ?_⟩) (by assumption) ?_
    rotate_left
    · (intro w hSw; obtain ⟨v1, v2, v3⟩ := hSw; go_simp; (try with_reducible rfl))
    (try simp only [List.getElem_toArray, List.getElem_cons_succ, List.getElem_cons_zero, Act.put, List.setIfInBounds_toArray, List.set_cons_zero, List.set_cons_succ])
    refine wpAnyH_take (i := 6) (oi := _) (v := ?_) rfl (by kernel_rfl) (by kernel_rfl) (by kernel_rfl) (fun _ _ _ h => h) (Or.inl ⟨by rfl, ?_⟩) (by assumption) ?_
    rotate_left
    · (intro w hSw; obtain ⟨v1, v2, v3⟩ := hSw; go_simp; (try with_reducible rfl))
    (try simp only [List.getElem_toArray, List.getElem_cons_succ, List.getElem_cons_zero, Act.put, List.setIfInBounds_toArray, List.set_cons_zero, List.set_cons_succ])
    refine wpAnyH_take (i := 7) (oi := _) (v := undef) rfl (by kernel_rfl) (by kernel_rfl) (by kernel_rfl) (fun _ _ _ h => h) (Or.inr ⟨by rfl, rfl⟩) (by assumption) ?_
    (try simp only [List.getElem_toArray, List.getElem_cons_succ, List.getElem_cons_zero, Act.put, List.setIfInBounds_toArray, List.set_cons_zero, List.set_cons_succ])
    refine wpAnyH_take (i := 8) (oi := _) (v := undef) rfl (by kernel_rfl) (by kernel_rfl) (by kernel_rfl) (fun _ _ _ h => h) (Or.inr ⟨by rfl, rfl⟩) (by assumption) ?_
    (try simp only [List.getElem_toArray, List.getElem_cons_succ, List.getElem_cons_zero, Act.put, List.setIfInBounds_toArray, List.set_cons_zero, List.set_cons_succ])
    refine wpAnyH_take (i := 9) (oi := _) (v := ?_) rfl (by kernel_rfl) (by kernel_rfl) (by kernel_rfl) (fun _ _ _ h => h) (Or.inl ⟨by rfl, ?_⟩) (by assumption) ?_
    rotate_left
    · (intro w hSw; obtain ⟨v1, v2, v3⟩ := hSw; go_simp; (try with_reducible rfl))
    (try simp only [List.getElem_toArray, List.getElem_cons_succ, List.getElem_cons_zero, Act.put, List.setIfInBounds_toArray, List.set_cons_zero, List.set_cons_succ])
    refine wpAnyH_take (i := 10) (oi := _) (v := ?_) rfl (by kernel_rfl) (by kernel_rfl) (by kernel_rfl) (fun _ _ _ h => h) (Or.inl ⟨by rfl, ?_⟩) (by assumption) ?_
    rotate_left
    · (intro w hSw; obtain ⟨v1, v2, v3⟩ := hSw; go_simp; (try with_reducible rfl))
    (try simp only [List.getElem_toArray, List.getElem_cons_succ, List.getElem_cons_zero, Act.put, List.setIfInBounds_toArray, List.set_cons_zero, List.set_cons_succ])
    refine wpAnyH_take (i := 11) (oi := _) (v := ?_) rfl (by kernel_rfl) (by kernel_rfl) (by kernel_rfl) (fun _ _ _ h => h) (Or.inl ⟨by rfl, ?_⟩) (by assumption) ?_
    rotate_left
    · (intro w hSw; obtain ⟨v1, v2, v3⟩ := hSw; go_simp; (try with_reducible rfl))
    (try simp only [List.getElem_toArray, List.getElem_cons_succ, List.getElem_cons_zero, Act.put, List.setIfInBounds_toArray, List.set_cons_zero, List.set_cons_succ])
    refine wpAnyH_take (i := 12) (oi := _) (v := ?_) rfl (by kernel_rfl) (by kernel_rfl) (by kernel_rfl) (fun _ _ _ h => h) (Or.inl ⟨by rfl, ?_⟩) (by assumption) ?_
    rotate_left
    · (intro w hSw; obtain ⟨v1, v2, v3⟩ := hSw; go_simp; (try with_reducible rfl))
    (try simp only [List.getElem_toArray, List.getElem_cons_succ, List.getElem_cons_zero, Act.put, List.setIfInBounds_toArray, List.set_cons_zero, List.set_cons_succ])
    refine wpAnyH_take (i := 13) (oi := _) (v := ?_) rfl (by kernel_rfl) (by kernel_rfl) (by kernel_rfl) (fun _ _ _ h => h) (Or.inl ⟨by rfl, ?_⟩) (by assumption) ?_
    rotate_left
    · (intro w hSw; obtain ⟨v1, v2, v3⟩ := hSw; go_simp; (try with_reducible rfl))
    (try simp only [List.getElem_toArray, List.getElem_cons_succ, List.getElem_cons_zero, Act.put, List.setIfInBounds_toArray, List.set_cons_zero, List.set_cons_succ])
    refine wpAnyH_take (i := 14) (oi := _) (v := ?_) rfl (by kernel_rfl) (by kernel_rfl) (by kernel_rfl) (fun _ _ _ h => h) (Or.inl ⟨by rfl, ?_⟩) (by assumption) ?_
    rotate_left
    · (intro w hSw; obtain ⟨v1, v2, v3⟩ := hSw; go_simp; (try with_reducible rfl))
    (try simp only [List.getElem_toArray, List.getElem_cons_succ, List.getElem_cons_zero, Act.put, List.setIfInBounds_toArray, List.set_cons_zero, List.set_cons_succ])
    refine wpAnyH_take (i := 15) (oi := _) (v := ?_) rfl (by kernel_rfl) (by kernel_rfl) (by kernel_rfl) (fun _ _ _ h => h) (Or.inl ⟨by rfl, ?_⟩) (by assumption) ?_
    rotate_left
    · (intro w hSw; obtain ⟨v1, v2, v3⟩ := hSw; go_simp; (try with_reducible rfl))
    (try simp only [List.getElem_toArray, List.getElem_cons_succ, List.getElem_cons_zero, Act.put, List.setIfInBounds_toArray, List.set_cons_zero, List.set_cons_succ])
    refine wpAnyH_take (i := 16) (oi := _) (v := ?_) rfl (by kernel_rfl) (by kernel_rfl) (by kernel_rfl) (fun _ _ _ h => h) (Or.inl ⟨by rfl, ?_⟩) (by assumption) ?_
    rotate_left
    · (intro w hSw; obtain ⟨v1, v2, v3⟩ := hSw; go_simp; (try with_reducible rfl))
    (try simp only [List.getElem_toArray, List.getElem_cons_succ, List.getElem_cons_zero, Act.put, List.setIfInBounds_toArray, List.set_cons_zero, List.set_cons_succ])
    refine wpAnyH_take (i := 17) (oi := _) (v := ?_) rfl (by kernel_rfl) (by kernel_rfl) (by kernel_rfl) (fun _ _ _ h => h) (Or.inl ⟨by rfl, ?_⟩) (by assumption) ?_
    rotate_left
    · (intro w hSw; obtain ⟨v1, v2, v3⟩ := hSw; go_simp; (try with_reducible rfl))
    (try simp only [List.getElem_toArray, List.getElem_cons_succ, List.getElem_cons_zero, Act.put, List.setIfInBounds_toArray, List.set_cons_zero, List.set_cons_succ])
    refine wpAnyH_take (i := 18) (oi := _) (v := ?_) rfl (by kernel_rfl) (by kernel_rfl) (by kernel_rfl) (fun _ _ _ h => h) (Or.inl ⟨by rfl, ?_⟩) (by assumption) ?_
    rotate_left
    · (intro w hSw; obtain ⟨v1, v2, v3⟩ := hSw; go_simp; (try with_reducible rfl))
    (try simp only [List.getElem_toArray, List.getElem_cons_succ, List.getElem_cons_zero, Act.put, List.setIfInBounds_toArray, List.set_cons_zero, List.set_cons_succ])
    refine wpAnyH_take (i := 19) (oi := _) (v := ?_) rfl (by kernel_rfl) (by kernel_rfl) (by kernel_rfl) (fun _ _ _ h => h) (Or.inl ⟨by rfl, ?_⟩) (by assumption) ?_
    rotate_left
    · (intro w hSw; obtain ⟨v1, v2, v3⟩ := hSw; go_simp; (try with_reducible rfl))
    (try simp only [List.getElem_toArray, List.getElem_cons_succ, List.getElem_cons_zero, Act.put, List.setIfInBounds_toArray, List.set_cons_zero, List.set_cons_succ])
    refine wpAnyH_take (i := 20) (oi := _) (v := ?_) rfl (by kernel_rfl) (by kernel_rfl) (by kernel_rfl) (fun _ _ _ h => h) (Or.inl ⟨by rfl, ?_⟩) (by assumption) ?_
    rotate_left
    · (intro w hSw; obtain ⟨v1, v2, v3⟩ := hSw; go_simp; (try with_reducible rfl))
    (try simp only [List.getElem_toArray, List.getElem_cons_succ, List.getElem_cons_zero, Act.put, List.setIfInBounds_toArray, List.set_cons_zero, List.set_cons_succ])
    refine wpAnyH_take (i := 21) (oi := _) (v := ?_) rfl (by kernel_rfl) (by kernel_rfl) (by kernel_rfl) (fun _ _ _ h => h) (Or.inl ⟨by rfl, ?_⟩) (by assumption) ?_
    rotate_left
    · (intro w hSw; obtain ⟨v1, v2, v3⟩ := hSw; go_simp; (try with_reducible rfl))
    (try simp only [List.getElem_toArray, List.getElem_cons_succ, List.getElem_cons_zero, Act.put, List.setIfInBounds_toArray, List.set_cons_zero, List.set_cons_succ])
    refine wpAnyH_take (i := 22) (oi := _) (v := ?_) rfl (by kernel_rfl) (by kernel_rfl) (by kernel_rfl) (fun _ _ _ h => h) (Or.inl ⟨by rfl, ?_⟩) (by assumption) ?_
    rotate_left
    · (intro w hSw; obtain ⟨v1, v2, v3⟩ := hSw; go_simp; (try with_reducible rfl))
    (try simp only [List.getElem_toArray, List.getElem_cons_succ, List.getElem_cons_zero, Act.put, List.setIfInBounds_toArray, List.set_cons_zero, List.set_cons_succ])
    refine wpAnyH_take (i := 23) (oi := _) (v := ?_) rfl (by kernel_rfl) (by kernel_rfl) (by kernel_rfl) (fun _ _ _ h => h) (Or.inl ⟨by rfl, ?_⟩) (by assumption) ?_
    rotate_left
    · (intro w hSw; obtain ⟨v1, v2, v3⟩ := hSw; go_simp; (try with_reducible rfl))
    (try simp only [List.getElem_toArray, List.getElem_cons_succ, List.getElem_cons_zero, Act.put, List.setIfInBounds_toArray, List.set_cons_zero, List.set_cons_succ])
    refine wpAnyH_take (i := 24) (oi := _) (v := ?_) rfl (by kernel_rfl) (by kernel_rfl) (by kernel_rfl) (fun _ _ _ h => h) (Or.inl ⟨by rfl, ?_⟩) (by assumption) ?_
    rotate_left
    · (intro w hSw; obtain ⟨v1, v2, v3⟩ := hSw; go_simp; (try with_reducible rfl))
    (try simp only [List.getElem_toArray, List.getElem_cons_succ, List.getElem_cons_zero, Act.put, List.setIfInBounds_toArray, List.set_cons_zero, List.set_cons_succ])
    refine wpAnyH_take (i := 25) (oi := _) (v := ?_) rfl (by kernel_rfl) (by kernel_rfl) (by kernel_rfl) (fun _ _ _ h => h) (Or.inl ⟨by rfl, ?_⟩) (by assumption) ?_
    rotate_left
    · (intro w hSw; obtain ⟨v1, v2, v3⟩ := hSw; go_simp; (try with_reducible rfl))
    (try simp only [List.getElem_toArray, List.getElem_cons_succ, List.getElem_cons_zero, Act.put, List.setIfInBounds_toArray, List.set_cons_zero, List.set_cons_succ])
    refine wpAnyH_take (i := 26) (oi := _) (v := ?_) rfl (by kernel_rfl) (by kernel_rfl) (by kernel_rfl) (fun _ _ _ h => h) (Or.inl ⟨by rfl, ?_⟩) (by assumption) ?_
    rotate_left
    · (intro w hSw; obtain ⟨v1, v2, v3⟩ := hSw; go_simp; (try with_reducible rfl))
    (try simp only [List.getElem_toArray, List.getElem_cons_succ, List.getElem_cons_zero, Act.put, List.setIfInBounds_toArray, List.set_cons_zero, List.set_cons_succ])
    refine wpAnyH_take (i := 27) (oi := _) (v := ?_) rfl (by kernel_rfl) (by kernel_rfl) (by kernel_rfl) (fun _ _ _ h => h) (Or.inl ⟨by rfl, ?_⟩) (by assumption) ?_
    rotate_left
    · (intro w hSw; obtain ⟨v1, v2, v3⟩ := hSw; go_simp; (try with_reducible rfl))
    (try simp only [List.getElem_toArray, List.getElem_cons_succ, List.getElem_cons_zero, Act.put, List.setIfInBounds_toArray, List.set_cons_zero, List.set_cons_succ])
    refine wpAnyH_done (by kernel_rfl) ?_ _
    go_wp2_with fail
    go_ret
    exact ⟨rfl, H6.out.pe⟩
  exact AllReadyH.nil
end Go.Proofs.YtpcndfffljmajaaGreatDoor
/- Chapter 8's law: a pair's step (kind 4). (Written by mkstep8.py.) -/
namespace Go.Proofs.YtpcndfffljmajaaGreatDoor
open Go.RowKit Go.Maps
attribute [local go_sem ↓] Go.wp_at_zero Go.wp_at_succ
theorem chain_fr {w w' : World} {a : Addr} {x : Value} (h : Chain w 0 0 a [refB] x) (hf : WI.Fr w w') : Chain w' 0 0 a [refB] x := by
  obtain ⟨b, u, h1, h2, h3⟩ := h
  exact ⟨b, u, h1, hf.2 b _ _ h2 (by decide) (by decide), h3⟩
set_option maxRecDepth 100000 in
set_option maxHeartbeats 8000000 in
theorem step4_has (wB w0 : World) (g pb bB bM : Nat) (vB vM : Value) (s : Pst) (g' pb' bB' bM' : Nat) (vB' vM' : Value) (s' : Pst) (e : Nat → Addr) (z : Nat) (hz : z < s.nb) (h : PS (fun _ => False) wB w0 g pb bB bM vB vM s g' pb' bB' bM' vB' vM' s') (hE : Er 19 wB e) (hR : EnvR wB (e 1) (e 3)) :
    Calls Tryz.prog 13 #[.pointer (some ⟨g, 0, none⟩), .agg #[.int .i64 4, .int .i64 (z : Int)]] w0 fun r w' => r = .returned (.bool true) ∧ PE wB w' g g' := by
  obtain ⟨aB, kB, hvB, haB⟩ := h.a.dd.sB
  obtain ⟨aM, kM, hvM, haM⟩ := h.a.dd.sM
  subst hvB
  subst hvM
  have hn := h.a.ok.n1
  have hnb := h.a.ok.few
  have d1 : (0 : Int) ≤ (z : Int) := by omega
  have d3 : (z : Int) < (s.nb : Int) := by omega
  have hz2 : z < s.n := by omega
  have d2 : (z : Int) < (s.n : Int) := by omega
  obtain ⟨W, hW⟩ : ∃ W, W = w0.alloc (.cells #[.int .i64 4, .int .i64 (z : Int)] 68) := ⟨_, rfl⟩
  have hbW : Below w0.heap.size w0 W := by rw [hW]; exact (Below.refl _ _).alloc (Nat.le_refl _) _
  have hbx : W.heap[w0.heap.size]? = some (.cells #[.int .i64 4, .int .i64 (z : Int)] 68 (0, 0)) := by rw [hW]; exact (MapKept.heap_alloc w0 _).1
  have hPW := h.below hbW
  obtain ⟨c0, c1, c2, c3, c4⟩ := hPW.a.cells
  have x0 := cell0_of (k := 0) hbx rfl
  have x1 := cell0_of (k := 1) hbx rfl
  have hEW := hE.below hPW.a.bl
  have hRW := hR.below hPW.a.bl
  have HP : Hid (PS (fun _ => False) wB W g pb bB bM (.slice aB s.n kB) (.slice aM s.n kM) s g' pb' bB' bM' vB' vM' s' ∧ W.heap[w0.heap.size]? = some (.cells #[.int .i64 4, .int .i64 (z : Int)] 68 (0, 0)) ∧ Er 19 W e ∧ EnvR W (e 1) (e 3)) := ⟨hPW, hbx, hEW, hRW⟩
  have HS : Hid ((0 < s.n → aB = some ⟨bB, 0, none⟩) ∧ (0 < s.n → aM = some ⟨bM, 0, none⟩)) := ⟨haB, haM⟩
  have HW : Hid _ := hW
  clear hPW hbx hEW hRW hbW hW h hE hR haB haM
  go_enter Tryz.func13, Tryz.ntmps13
  go_upto_region 1 with fail
  rw [← HW.out]
  clear HW
  go_quiet (fail)
  rename Nat => q1
  go_wp2_with fail
  go_quiet (fail)
  rename Nat => q2
  obtain ⟨w1, hw1⟩ : ∃ w1, w1 = (W.drewN q1).drewN q2 := ⟨_, rfl⟩
  rw [← hw1]
  have hb1 : Below W.heap.size W w1 := by rw [hw1]; exact below_drewN (below_drewN (Below.refl _ _) _) _
  have H1 : Hid (PS (fun _ => False) wB w1 g pb bB bM (.slice aB s.n kB) (.slice aM s.n kM) s g' pb' bB' bM' vB' vM' s' ∧ w1.heap[w0.heap.size]? = some (.cells #[.int .i64 4, .int .i64 (z : Int)] 68 (0, 0)) ∧ Er 19 w1 e ∧ EnvR w1 (e 1) (e 3)) := ⟨HP.out.1.below hb1, res_up hb1 HP.out.2.1, HP.out.2.2.1.below hb1, HP.out.2.2.2.below hb1⟩
  clear hw1 hb1 HP c0 c1 c2 c3 c4 x0 x1
  obtain ⟨c0, c1, c2, c3, c4⟩ := H1.out.1.a.cells
  have x0 := cell0_of (k := 0) H1.out.2.1 rfl
  have x1 := cell0_of (k := 1) H1.out.2.1 rfl
  have gx : ¬ w0.heap.size = pb := by
    obtain ⟨c, hP, _⟩ := H1.out.1.a.pt
    obtain ⟨cs, hc, _⟩ := hP.ids
    exact typed_ne H1.out.2.1 hc (by decide)
  have gp : ¬ g = pb := H1.out.1.a.ne.1
  have hM : ∀ W' (_ : Below w1.heap.size w1 W'), Calls Tryz.prog 28 #[.pointer (some ⟨pb, 0, none⟩), .int .i64 z] W' fun r w' => ∃ u, r = .returned (.tuple #[u, .nilIface]) ∧ OwnI w' W'.heap.size u (s.mem z) ∧ Below W'.heap.size W' w' := fun W' hb => H1.out.1.a.tell.me W' z hb hz
  obtain ⟨l, hl⟩ : ∃ l, l = s.mem z := ⟨_, rfl⟩
  have hll : l.length ≤ 1000 := by rw [hl]; have := mem_le (s := s) z; omega
  rw [← hl] at hM
  have HM : Hid _ := hM
  clear hM hl
  go_wp2_with fail
  go_cut [17, 18] (fun s17 s18 wx => ∃ x8, s17 = x8 ∧ s18 = .nilIface ∧ OwnI wx w1.heap.size x8 l ∧ Below w1.heap.size w1 wx)
  case first =>
    go_region_held3 (fun w' => w'.cell? ⟨g, 0, none⟩ = some (.pointer (some ⟨pb, 0, none⟩)) ∧ w'.cell? ⟨w0.heap.size, 1, none⟩ = some (.int .i64 z)) (go_keep)
      ((first
        | (go_at_call 28; refine (HM.out _ (by repeat (first | exact Below.refl _ _ | assumption | refine Below.drew ?_ | refine Below.setCell ?_ (by simp) _ | refine Below.alloc ?_ (by simp) _))).mono ?_; rintro r8 w8 ⟨u8, rfl, hO8, hb8'⟩; have hb8 := below_of_drew3 hb8'; have c0 := cell_up c0 hb8; have x1 := cell_up x1 hb8; have H8 : Hid (OwnI w8 w1.heap.size u8 l ∧ Below w1.heap.size w1 w8) := ⟨hO8, hb8⟩; clear hO8 hb8 hb8')
        | fail))
    all_goals (refine Met.intro ?_; apply_assumption; refine Met.intro ?_; apply_assumption; (repeat apply Exists.intro); refine ⟨?rel, rfl⟩; case rel => exact ⟨_, rfl, rfl, by first | exact H8.out.1 | exact trow_at H8.out.1 (fun _ _ => by simp), by first | exact H8.out.2 | exact below_drewN H8.out.2 _⟩)
  case rest =>
    obtain ⟨x8, hx8, rfl, hO8, hb⟩ := hcut
    obtain rfl := hx8.symm
    clear hx8
    obtain ⟨au, ku, hu⟩ := row_shape hO8
    obtain ⟨nu, hnu⟩ : ∃ nu, nu = l.length := ⟨_, rfl⟩
    rw [← hnu] at hu
    subst hu
    obtain ⟨_, _, _, _, e4⟩ := (H1.out.1.below hb).a.cells
    have hI := H1.out.1.one hb hO8 (by omega)
    have HI : Hid _ := hI
    clear hI hO8 hb HM c0 c1 c2 c3 c4 x0 x1 hnu
    go_wp2_with fail
    refine Calls.mono HI.out ?_
    rintro r w9 ⟨rfl, hP9, _, _⟩
    have H9 : Hid _ := hP9
    clear hP9 HI e4
    go_wp2_with (go_at_call 25; refine Calls.mono (index_ok _) ?_; rintro r w6 ⟨rfl, hw6⟩; obtain rfl := hw6.symm; clear hw6)
    go_ret
    exact ⟨rfl, H9.out.pe⟩
end Go.Proofs.YtpcndfffljmajaaGreatDoor
/- Chapter 8's law: a pair's step (kind 5). (Written by mkstep8.py.) -/
namespace Go.Proofs.YtpcndfffljmajaaGreatDoor
open Go.RowKit Go.Maps
attribute [local go_sem ↓] Go.wp_at_zero Go.wp_at_succ
set_option maxRecDepth 100000 in
set_option maxHeartbeats 8000000 in
theorem step5_has (wB w0 : World) (g pb bB bM : Nat) (vB vM : Value) (s : Pst) (g' pb' bB' bM' : Nat) (vB' vM' : Value) (s' : Pst) (e : Nat → Addr) (z : Nat) (hz : z < s.nb) (h : PS (fun _ => False) wB w0 g pb bB bM vB vM s g' pb' bB' bM' vB' vM' s') (hE : Er 19 wB e) (hR : EnvR wB (e 1) (e 3)) :
    Calls Tryz.prog 13 #[.pointer (some ⟨g, 0, none⟩), .agg #[.int .i64 5, .int .i64 (z : Int)]] w0 fun r w' => r = .returned (.bool true) ∧ PE wB w' g g' := by
  obtain ⟨aB, kB, hvB, haB⟩ := h.a.dd.sB
  obtain ⟨aM, kM, hvM, haM⟩ := h.a.dd.sM
  subst hvB
  subst hvM
  have hn := h.a.ok.n1
  have hnb := h.a.ok.few
  have d1 : (0 : Int) ≤ (z : Int) := by omega
  have d3 : (z : Int) < (s.nb : Int) := by omega
  have hz2 : z < s.n := by omega
  have d2 : (z : Int) < (s.n : Int) := by omega
  obtain ⟨W, hW⟩ : ∃ W, W = w0.alloc (.cells #[.int .i64 5, .int .i64 (z : Int)] 68) := ⟨_, rfl⟩
  have hbW : Below w0.heap.size w0 W := by rw [hW]; exact (Below.refl _ _).alloc (Nat.le_refl _) _
  have hbx : W.heap[w0.heap.size]? = some (.cells #[.int .i64 5, .int .i64 (z : Int)] 68 (0, 0)) := by rw [hW]; exact (MapKept.heap_alloc w0 _).1
  have hPW := h.below hbW
  obtain ⟨c0, c1, c2, c3, c4⟩ := hPW.a.cells
  have x0 := cell0_of (k := 0) hbx rfl
  have x1 := cell0_of (k := 1) hbx rfl
  have hEW := hE.below hPW.a.bl
  have hRW := hR.below hPW.a.bl
  have HP : Hid (PS (fun _ => False) wB W g pb bB bM (.slice aB s.n kB) (.slice aM s.n kM) s g' pb' bB' bM' vB' vM' s' ∧ W.heap[w0.heap.size]? = some (.cells #[.int .i64 5, .int .i64 (z : Int)] 68 (0, 0)) ∧ Er 19 W e ∧ EnvR W (e 1) (e 3)) := ⟨hPW, hbx, hEW, hRW⟩
  have HS : Hid ((0 < s.n → aB = some ⟨bB, 0, none⟩) ∧ (0 < s.n → aM = some ⟨bM, 0, none⟩)) := ⟨haB, haM⟩
  have HW : Hid _ := hW
  clear hPW hbx hEW hRW hbW hW h hE hR haB haM
  go_enter Tryz.func13, Tryz.ntmps13
  go_upto_region 1 with fail
  rw [← HW.out]
  clear HW
  go_quiet (fail)
  rename Nat => q1
  go_wp2_with fail
  go_quiet (fail)
  rename Nat => q2
  obtain ⟨w1, hw1⟩ : ∃ w1, w1 = (W.drewN q1).drewN q2 := ⟨_, rfl⟩
  rw [← hw1]
  have hb1 : Below W.heap.size W w1 := by rw [hw1]; exact below_drewN (below_drewN (Below.refl _ _) _) _
  have H1 : Hid (PS (fun _ => False) wB w1 g pb bB bM (.slice aB s.n kB) (.slice aM s.n kM) s g' pb' bB' bM' vB' vM' s' ∧ w1.heap[w0.heap.size]? = some (.cells #[.int .i64 5, .int .i64 (z : Int)] 68 (0, 0)) ∧ Er 19 w1 e ∧ EnvR w1 (e 1) (e 3)) := ⟨HP.out.1.below hb1, res_up hb1 HP.out.2.1, HP.out.2.2.1.below hb1, HP.out.2.2.2.below hb1⟩
  clear hw1 hb1 HP c0 c1 c2 c3 c4 x0 x1
  obtain ⟨c0, c1, c2, c3, c4⟩ := H1.out.1.a.cells
  have x0 := cell0_of (k := 0) H1.out.2.1 rfl
  have x1 := cell0_of (k := 1) H1.out.2.1 rfl
  have gx : ¬ w0.heap.size = pb := by
    obtain ⟨c, hP, _⟩ := H1.out.1.a.pt
    obtain ⟨cs, hc, _⟩ := hP.ids
    exact typed_ne H1.out.2.1 hc (by decide)
  have gp : ¬ g = pb := H1.out.1.a.ne.1
  have hM : ∀ W' (_ : Below w1.heap.size w1 W'), Calls Tryz.prog 30 #[.pointer (some ⟨pb, 0, none⟩), .int .i64 z] W' fun r w' => r = .returned (.tuple #[.int .i64 ((s.R z - s.B z : Nat) : Int), .nilIface]) ∧ Below W'.heap.size W' w' := fun W' hb => H1.out.1.a.tell.ms W' z hb hz
  obtain ⟨d, hd⟩ : ∃ d, d = s.R z - s.B z := ⟨_, rfl⟩
  rw [← hd] at hM
  have HM : Hid _ := hM
  clear hM hd
  go_wp2_with fail
  go_cut [19, 20] (fun s19 s20 wx => s19 = .int .i64 (d : Int) ∧ s20 = .nilIface ∧ Below w1.heap.size w1 wx)
  case first =>
    go_region_held3 (fun w' => w'.cell? ⟨g, 0, none⟩ = some (.pointer (some ⟨pb, 0, none⟩)) ∧ w'.cell? ⟨w0.heap.size, 1, none⟩ = some (.int .i64 z)) (go_keep)
      ((first
        | (go_at_call 30; refine (HM.out _ (by repeat (first | exact Below.refl _ _ | assumption | refine Below.drew ?_ | refine Below.setCell ?_ (by simp) _ | refine Below.alloc ?_ (by simp) _))).mono ?_; rintro r8 w8 ⟨rfl, hb8'⟩; have hb8 := below_of_drew3 hb8'; have c0 := cell_up c0 hb8; have x1 := cell_up x1 hb8; have H8 : Hid (Below w1.heap.size w1 w8) := hb8; clear hb8 hb8')
        | fail))
    all_goals (refine Met.intro ?_; apply_assumption; refine Met.intro ?_; apply_assumption; (repeat apply Exists.intro); refine ⟨?rel, rfl⟩; case rel => exact ⟨rfl, rfl, by first | exact H8.out | exact below_drewN H8.out _⟩)
  case rest =>
    obtain ⟨rfl, rfl, hb⟩ := hcut
    have H9 : Hid _ := H1.out.1.below hb
    clear hb HM c0 c1 c2 c3 c4 x0 x1
    go_wp2_with (go_at_call 25; refine Calls.mono (index_ok _) ?_; rintro r w6 ⟨rfl, hw6⟩; obtain rfl := hw6.symm; clear hw6)
    go_ret
    exact ⟨rfl, H9.out.pe⟩
end Go.Proofs.YtpcndfffljmajaaGreatDoor
/- Chapter 8's law: a pair's looks, walked. -/
namespace Go.Proofs.YtpcndfffljmajaaGreatDoor
open Go.RowKit Go.Maps
attribute [local go_sem ↓] Go.wp_at_zero Go.wp_at_succ
theorem rg_b8 {w2 W : World} {P : Prop} (h : P ∧ Hid (Below w2.heap.size w2 W)) : Below w2.heap.size w2 W := h.2.out
/-- Behind the two lists. -/
structure Two8 (wr wx : World) (u m : Value) (cz sz : List Int) : Prop where
  ou : OwnI wx wr.heap.size u cz
  om : OwnI wx wr.heap.size m sz
  d : ∀ b, u.ownBlock = some b → m.ownBlock ≠ some b
  b : Below wr.heap.size wr wx
theorem Two8.of {wr W1 w5 W2 w6 : World} {u m : Value} {cz sz : List Int} (hb1 : Below wr.heap.size wr W1) (hO5 : OwnI w5 W1.heap.size u cz) (hb5 : Below W1.heap.size W1 w5) (h12 : Below w5.heap.size w5 W2) (hO6 : OwnI w6 W2.heap.size m sz) (hb6 : Below W2.heap.size W2 w6) : Two8 wr w6 u m cz sz := by
  have s1 := hb1.size
  have s5 := hb5.size
  have s2 := h12.size
  have hb56 := h12.trans (hb6.mono s2)
  refine ⟨trow_at (row_base hO5 s1) fun i hi => hb56.block i (hO5.lt i hi).2, row_base hO6 (by omega), fun b h1 h2 => ?_, (hb1.trans (hb5.mono s1)).trans (hb56.mono (by omega))⟩
  have := (hO5.lt b h1).2
  have := (hO6.lt b h2).1
  omega
set_option maxRecDepth 100000 in
set_option maxHeartbeats 8000000 in
theorem looks_any (wB w0 : World) (g pb bB bM : Nat) (vB vM : Value) (s : Pst) (g' pb' bB' bM' : Nat) (vB' vM' : Value) (s' : Pst) (h : PS (fun _ => False) wB w0 g pb bB bM vB vM s g' pb' bB' bM' vB' vM' s') :
    Calls Tryz.prog 14 #[.pointer (some ⟨g, 0, none⟩)] w0 fun r w' => r = .returned (.bool true) ∧ PS (fun _ => False) wB w' g pb bB bM vB vM s g' pb' bB' bM' vB' vM' s' := by
  obtain ⟨aB, kB, hvB, _⟩ := h.a.dd.sB
  subst hvB
  have hT := h.a.tell
  obtain ⟨c0, c1, c2, c3, c4⟩ := h.a.cells
  have hn := h.a.ok.n1
  have hnb := h.a.ok.few
  obtain ⟨cz, hcz⟩ : ∃ cz, cz = natI (Sy.canon s.own) := ⟨_, rfl⟩
  obtain ⟨sz, hsz⟩ : ∃ sz, sz = s.some s.nb := ⟨_, rfl⟩
  have hl1 : cz.length ≤ 1000 := by rw [hcz, canon_own_len]; omega
  have hl2 : sz.length ≤ 1000 := by rw [hsz]; have := some_len s s.nb; omega
  have HC : Hid (cz = natI (Sy.canon s.own) ∧ sz = s.some s.nb) := ⟨hcz, hsz⟩
  have HP : Hid (PS (fun _ => False) wB w0 g pb bB bM (.slice aB s.n kB) vM s g' pb' bB' bM' vB' vM' s' ∧ Tell w0 g pb (.slice aB s.n kB) s) := ⟨h, hT⟩
  have hK1 : ∀ W, Below w0.heap.size w0 W → Calls Tryz.prog 31 #[.pointer (some ⟨pb, 0, none⟩)] W fun r w' => ∃ u, r = .returned u ∧ OwnI w' W.heap.size u cz ∧ Below W.heap.size W w' := fun W hb => by rw [hcz]; exact hT.cl W hb
  have hK2 : ∀ W, Below w0.heap.size w0 W → Calls Tryz.prog 32 #[.pointer (some ⟨pb, 0, none⟩)] W fun r w' => ∃ u, r = .returned u ∧ OwnI w' W.heap.size u sz ∧ Below W.heap.size W w' := fun W hb => by rw [hsz]; exact hT.mk1 W hb
  have HK : Hid _ := And.intro hK1 hK2
  clear hcz hsz hT h hK1 hK2
  go_enter Tryz.func14, Tryz.ntmps14
  go_upto_region 1 with fail
  go_cut [3, 4] (fun s3 s4 wx => ∃ u m, s3 = u ∧ s4 = m ∧ Two8 w0 wx u m cz sz)
  case first =>
    go_region_held3 (fun w' => (w'.cell? ⟨g, 0, none⟩ = some (.pointer (some ⟨pb, 0, none⟩)) ∧ w'.cell? ⟨g, 0, none⟩ = some (.pointer (some ⟨pb, 0, none⟩))) ∧ Hid (Below w0.heap.size w0 w')) (first | exact rgu2 hb6 (by assumption) | exact rgu2 hb5 (by assumption) | exact ⟨⟨c0, c0⟩, ((Below.refl _ _).drew : Below w0.heap.size w0 w0.drew)⟩ | go_keep)
      ((first
        | (go_at_call 31; refine Calls.mono (HK.out.1 _ (rg_b8 (by assumption))) ?_; rintro r w5 ⟨u, rfl, hO5, hb5⟩)
        | (go_at_call 32; refine Calls.mono (HK.out.2 _ (rg_b8 (by assumption))) ?_; rintro r w6 ⟨m, rfl, hO6, hb6⟩)
        | fail))
    all_goals (refine Met.intro ?_; apply_assumption; refine Met.intro ?_; apply_assumption; (repeat apply Exists.intro); refine ⟨?rel, rfl⟩; case rel => exact ⟨_, _, rfl, rfl, Two8.of (Below.refl _ _).drew hO5 hb5 (Below.refl _ _) hO6 hb6⟩)
  case rest =>
    obtain ⟨u, m, hs3, hs4, h2⟩ := hcut
    obtain rfl := hs3.symm
    obtain rfl := hs4.symm
    obtain ⟨w1, hw1⟩ : ∃ w1, w1 = wc := ⟨_, rfl⟩
    rw [← hw1] at h2 ⊢
    clear hw1 wc hs3 hs4 HK
    have c4 := cell_up c4 h2.b
    have hA := PS.add (Q := fun b => m.ownBlock = some b) (HP.out.1.fresh h2.b (fun b => m.ownBlock = some b ∨ u.ownBlock = some b) (fun b hb => hb.elim (fun e => (h2.om.lt b e).1) fun e => (h2.ou.lt b e).1)) (fun b hb => (h2.om.lt b hb).2) HP.out.1.a.bl HP.out.1.lt h2.ou h2.d (by omega)
    obtain ⟨au, ku, rfl⟩ := row_shape h2.ou
    obtain ⟨am, km, rfl⟩ := row_shape h2.om
    obtain ⟨nu, hnu⟩ : ∃ nu, nu = cz.length := ⟨_, rfl⟩
    obtain ⟨nm, hnm⟩ : ∃ nm, nm = sz.length := ⟨_, rfl⟩
    have HN : Hid (nu = cz.length ∧ nm = sz.length) := ⟨hnu, hnm⟩
    rw [← hnu, ← hnm] at hA h2 ⊢
    have H2 : Hid _ := And.intro hA h2
    clear hA h2 c0 c1 c2 c3 hnu hnm
    go_wp2_with fail
    refine Calls.mono H2.out.1 ?_
    rintro r w2 ⟨rfl, hP2, hF2, _⟩
    obtain ⟨_, _, _, _, c4'⟩ := hP2.a.cells
    have om2 : OwnI w2 w0.heap.size (.slice am nm km) sz := by have := hF2.ownInts H2.out.2.om; exact this
    have ou2 : OwnI w2 w0.heap.size (.slice au nu ku) cz := by have := hF2.ownInts H2.out.2.ou; exact this
    have hA := PS.add (Q := fun _ => False) (hP2.monoQ (Q' := fun b => False ∨ (Value.slice am nm km).ownBlock = some b) fun b hb => hb.elim False.elim id) (fun _ hf => hf.elim) HP.out.1.a.bl HP.out.1.lt om2 (fun _ _ hf => hf) (by omega)
    have H3 : Hid _ := And.intro hA (And.intro ou2 om2)
    clear hA ou2 om2 hP2 hF2 c4 H2
    go_wp2_with fail
    refine Calls.mono H3.out.1 ?_
    rintro r w3 ⟨rfl, hP3, hF3, hm3⟩
    have hu3 : HasI w3 (.slice au nu ku) cz := OwnI.has (hF3.ownInts H3.out.2.1)
    have hT := hP3.a.tell
    obtain ⟨c0, c1, c2, c3, c4⟩ := hP3.a.cells
    have y1 : (cz == cz) = true := beq_self_eq_true _
    have y2 : (sz == sz) = true := beq_self_eq_true _
    have y3 : ((s.nb : Int) == (s.nb : Int)) = true := by simp
    have y4 : ((s.n : Int) == (s.n : Int)) = true := by simp
    have hK1 : ∀ W, Below w3.heap.size w3 W → Calls Tryz.prog 22 #[.slice aB s.n kB] W fun r w' => ∃ u, r = .returned u ∧ OwnI w' W.heap.size u cz ∧ Below W.heap.size W w' := fun W hb => by rw [HC.out.1]; exact hT.rc W hb
    have hK2 : ∀ W, Below w3.heap.size w3 W → Calls Tryz.prog 34 #[.pointer (some ⟨g, 1, none⟩)] W fun r w' => ∃ u, r = .returned u ∧ OwnI w' W.heap.size u sz ∧ Below W.heap.size W w' := fun W hb => by rw [HC.out.2]; exact hT.rs W hb
    have HK : Hid _ := And.intro hK1 (And.intro hK2 (And.intro hT.bl (And.intro hT.sz (And.intro hu3 hm3))))
    have H4 : Hid _ := And.intro hP3 hT
    clear hK1 hK2 hT hP3 hF3 hm3 hu3 H3 c4' HP
    go_upto_region 4 with fail
    go_cut [76] (fun s76 wx => s76 = .bool false ∧ Below w3.heap.size w3 wx)
    case first =>
      go_region_held3 (fun w' => (w'.cell? ⟨g, 0, none⟩ = some (.pointer (some ⟨pb, 0, none⟩)) ∧ w'.cell? ⟨g, 1, none⟩ = some (.slice aB s.n kB) ∧ w'.cell? ⟨g, 3, none⟩ = some (.int .i64 s.nb)) ∧ Hid (Below w3.heap.size w3 w')) (first | exact rg_up3 hb5 (by assumption) | exact ⟨⟨c0, c1, c3⟩, ((Below.refl _ _).drew : Below w3.heap.size w3 w3.drew)⟩ | go_keep)
        ((first
          | (go_at_call 22; refine Calls.mono (HK.out.1 _ (rg_b8 (by assumption))) ?_; rintro r w5 ⟨u5, rfl, hO5, hb5⟩; obtain ⟨a5, k5, rfl⟩ := row_shape hO5)
          | (go_at_call_of 33 (Value.slice au nu ku); refine Calls.mono (sameInts_b _ _ cz cz _ (by omega) (by omega) (HK.out.2.2.2.2.1.below (rg_b8 (by assumption))) hO5.has) ?_; rintro r w5 ⟨rfl, hb5⟩)
          | (go_at_call 34; refine Calls.mono (HK.out.2.1 _ (rg_b8 (by assumption))) ?_; rintro r w5 ⟨u5, rfl, hO5, hb5⟩; obtain ⟨a5, k5, rfl⟩ := row_shape hO5)
          | (go_at_call_of 33 (Value.slice am nm km); refine Calls.mono (sameInts_b _ _ sz sz _ (by omega) (by omega) (HK.out.2.2.2.2.2.below (rg_b8 (by assumption))) hO5.has) ?_; rintro r w5 ⟨rfl, hb5⟩)
          | (go_at_call 18; refine Calls.mono (HK.out.2.2.1 _ (rg_b8 (by assumption))) ?_; rintro r w5 ⟨rfl, hb5⟩)
          | (go_at_call 35; refine Calls.mono (HK.out.2.2.2.1 _ (rg_b8 (by assumption))) ?_; rintro r w5 ⟨rfl, hb5⟩)
          | fail))
      all_goals (refine Met.intro ?_; apply_assumption; refine Met.intro ?_; apply_assumption; (repeat apply Exists.intro); refine ⟨?rel, rfl⟩; case rel => exact ⟨rfl, rg_b8 (by assumption)⟩)
    case rest =>
      obtain ⟨hs76, hb4⟩ := hcut
      subst hs76
      have HP4 : Hid (PS (fun _ => False) wB wc g pb bB bM (.slice aB s.n kB) vM s g' pb' bB' bM' vB' vM' s') := (H4.out.1.below hb4 : PS (fun _ => False) wB wc g pb bB bM (.slice aB s.n kB) vM s g' pb' bB' bM' vB' vM' s')
      clear hb4 H4 HK c0 c1 c2 c3 c4 y1 y2 HC HN hl1 hl2
      go_wp2_with fail
      go_loopg [5] 12 (fun q kv wr => ∃ k : Nat, kv = .int .i64 k ∧ k ≤ 12 ∧ 12 - k ≤ q ∧ PS (fun _ => False) wB wr g pb bB bM (.slice aB s.n kB) vM s g' pb' bB' bM' vB' vM' s')
      case atStart => exact ⟨0, rfl, Nat.zero_le _, by omega, HP4.out⟩
      case round =>
        obtain ⟨k, rfl, hk, hq, hPk⟩ := hrel
        have hT := hPk.a.tell
        obtain ⟨c0, c1, c2, c3, c4⟩ := hPk.a.cells
        clear HP4
        by_cases h1 : k < s.nb ∧ k < 12
        · have p1 : (k : Int) < (s.nb : Int) := by omega
          have p2 : (k : Int) < 12 := by omega
          have p3 : k < 12 := h1.2
          have HM : Hid _ := And.intro (hT.me wr k (Below.refl _ _) h1.1) (And.intro hPk hT)
          clear hPk hT
          go_wp2_with fail
          refine Calls.mono HM.out.1 ?_
          rintro r w1 ⟨u, rfl, hO1, hb1⟩
          obtain ⟨l, hl⟩ : ∃ l, l = s.mem k := ⟨_, rfl⟩
          have hll : l.length ≤ 1000 := by rw [hl]; have := mem_le (s := s) k; omega
          have c0' := cell_up c0 hb1
          have c4' := cell_up c4 hb1
          have hMs := HM.out.2.2.ms w1 k hb1 h1.1
          rw [← hl] at hO1
          obtain ⟨au, ku, rfl⟩ := row_shape hO1
          obtain ⟨nu, hnu⟩ : ∃ nu, nu = l.length := ⟨_, rfl⟩
          rw [← hnu] at hO1 ⊢
          have H1 : Hid _ := And.intro hMs (And.intro hO1 (And.intro hb1 (And.intro hl hnu)))
          clear hMs hO1 hb1 hl hnu c0 c1 c2 c3 c4
          obtain ⟨d, hd⟩ : ∃ d, d = s.R k - s.B k := ⟨_, rfl⟩
          rw [← hd] at H1
          have Hd : Hid (d = s.R k - s.B k) := hd
          clear hd
          go_wp2_with fail
          refine Calls.mono H1.out.1 ?_
          rintro r w2 ⟨rfl, hb2⟩
          have c4 := cell_up c4' hb2
          have hb12 := bel_step hb2 H1.out.2.2.1
          have hI := HM.out.2.1.one (l := .slice au nu ku) (zs := l) hb12 (trow_at H1.out.2.1 fun i hi => hb2.block i (H1.out.2.1.lt i hi).2) (by omega)
          have H2 : Hid _ := hI
          clear hI hb2 hb12 c0' c4'
          go_wp2_with fail
          refine Calls.mono H2.out ?_
          rintro r w3 ⟨rfl, hP3, _, hH3⟩
          have hT3 := hP3.a.tell
          have hRm := hT3.rm w3 k (Below.refl _ _) h1.1
          rw [← Hd.out] at hRm
          have hRe := fun W hb => hT3.re W k hb h1.1
          rw [← H1.out.2.2.2.1] at hRe
          have y5 : ((d : Int) == (d : Int)) = true := by simp
          have y6 : (l == l) = true := beq_self_eq_true _
          have H3 : Hid _ := And.intro hRm (And.intro hRe (And.intro hH3 hP3))
          clear hRm hRe hH3 hP3 hT3 H2 c4
          go_wp2_with (first
            | (go_at_call 36; refine Calls.mono H3.out.1 ?_; rintro r w4 ⟨rfl, hb4⟩; have H4 : Hid _ := hb4; clear hb4)
            | (go_at_call 37; refine Calls.mono (H3.out.2.1 _ H4.out) ?_; rintro r w5 ⟨u5, rfl, hO5, hb5⟩; obtain ⟨a5, k5, rfl⟩ := row_shape hO5; have H5 : Hid _ := And.intro hO5 (bel_step hb5 H4.out); clear hO5 hb5)
            | (go_at_call 33; refine Calls.mono (sameInts_b _ _ l l _ (by omega) (by omega) (H3.out.2.2.1.below H5.out.2) H5.out.1.has) ?_; rintro r w6 ⟨rfl, hb6⟩; have H6 : Hid _ := bel_step hb6 H5.out.2; clear hb6)
            | fail)
          go_roundg (12 - (k + 1))
          case measure => omega
          case rel => exact ⟨k + 1, by go_num, by omega, by omega, H3.out.2.2.2.below H6.out⟩
        · have HM : Hid _ := hPk
          clear hPk hT
          by_cases p1 : (k : Int) < (s.nb : Int)
          · have p2 : ¬ (k : Int) < 12 := by omega
            clear h1
            go_wp2_with fail
            go_ret
            exact ⟨rfl, HM.out⟩
          · clear h1
            go_wp2_with fail
            go_ret
            exact ⟨rfl, HM.out⟩
end Go.Proofs.YtpcndfffljmajaaGreatDoor
