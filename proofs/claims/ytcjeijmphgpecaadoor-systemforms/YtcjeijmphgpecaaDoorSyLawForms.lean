/- SystemForms, out of contracts of the program's own functions. -/
import Derived.Test.YtcjeijmphgpecaaDoorSyProg
import Derived.Test.YtcjeijmphgpecaaDoorLentI
import Derived.Test.YtcjeijmphgpecaaDoorSySort
import Derived.Deep.RegionHeld3
namespace Go.Proofs.YtcjeijmphgpecaaDoor
open Go.RowKit Go.Maps
attribute [local go_sem ↓] Go.wp_at_zero Go.wp_at_succ
set_option maxRecDepth 100000 in
set_option maxHeartbeats 4000000 in
theorem lawForms_of (hCa : PCanon) (hCl : PClasses) (hTo : PTogether) (n k s : Int) (ae : Option Addr) (me ce : Nat) (v : Value) (zs : List Int) (w : World) (hA : PAlive w) (hv : HasI w v zs) (hw : I64s zs) :
    Calls Tryd.prog 4 #[sysV n k s (.slice ae me ce), v] w fun r w' => r = .returned (.bool true) ∧ Below w.heap.size w w' := by
  obtain ⟨w0, hw0⟩ : ∃ w0, w0 = w.alloc (.cells #[.int .i64 n, .int .i64 k, .int .i64 s, .slice ae me ce] 24) := ⟨_, rfl⟩
  have hb0 : Below w.heap.size w w0 := by rw [hw0]; exact (Below.refl _ _).alloc (Nat.le_refl _) _
  have hg0 : w0.heap[w.heap.size]? = some (.cells #[.int .i64 n, .int .i64 k, .int .i64 s, .slice ae me ce] 24 (0, 0)) := by rw [hw0]; exact heap_alloc_new w _
  have hv0 := hv
  obtain ⟨ao, cap, rfl, _⟩ := hv0
  obtain ⟨m, hm⟩ : ∃ m, m = zs.length := ⟨_, rfl⟩
  by_cases hlen : m ≤ 1200
  · have hL := lent_any _ zs w0 (hv.below hb0) (by omega)
    have q1 : ¬ (1200 : Int) < (m : Int) := by omega
    have HM : Hid (m = zs.length) := hm
    rw [← hm] at hL hv ⊢
    have H0 : Hid _ := And.intro hL (And.intro hb0 (And.intro hg0 (And.intro hw0 hv)))
    have HP : Hid _ := And.intro hA (And.intro hCa (And.intro hCl (And.intro hTo hw)))
    unfold sysV
    clear hL hb0 hg0 hw0 hv hm hA hCa hCl hTo hw
    go_enter Tryd.func4, Tryd.ntmps4
    go_wp2_with fail
    rw [← H0.out.2.2.2.1]
    refine Calls.mono H0.out.1 ?_
    rintro r w1 ⟨g, cl, rfl, hLe, hb1⟩
    have hcap := hLe.cap
    have hb01 : Below w.heap.size w w1 := H0.out.2.1.trans (hb1.mono H0.out.2.1.size)
    have hCc := HP.out.2.1 _ zs w1 hLe.has (by have := HM.out; omega) HP.out.2.2.2.2
    rw [← HM.out] at hCc
    have hg1 := (hb1.block _ (t_lt H0.out.2.2.1)).trans H0.out.2.2.1
    have H1 : Hid _ := And.intro hCc (And.intro hLe (And.intro hb01 (And.intro hg1 (H0.out.2.2.2.2.below hb01))))
    clear hLe hb1 hcap hb01 hCc hg1 H0
    go_wp2_with fail
    refine Calls.mono H1.out.1 ?_
    rintro r w2 ⟨u, rfl, hO, hb2⟩
    obtain ⟨au, cu, rfl⟩ := row_shape hO
    obtain ⟨cz, hcz⟩ : ∃ cz, cz = natI (Sy.canon zs) := ⟨_, rfl⟩
    obtain ⟨tg, htg⟩ : ∃ tg, tg = Sy.together zs := ⟨_, rfl⟩
    obtain ⟨cb, hcb⟩ : ∃ cb, cb = Sy.classes n zs := ⟨_, rfl⟩
    have hlz : cz.length ≤ 1200 := by rw [hcz]; unfold natI Sy.canon; rw [List.length_map, Sy.canonG_len]; have := HM.out; omega
    have hg2 := (hb2.block _ (t_lt H1.out.2.2.2.1)).trans H1.out.2.2.2.1
    have hb02 : Below w.heap.size w w2 := H1.out.2.2.1.trans (hb2.mono H1.out.2.2.1.size)
    have hLe2 := H1.out.2.1.at (hb2.block _ H1.out.2.1.lt.2)
    have hv2 := H1.out.2.2.2.2.below hb2
    have hmm := HM.out
    rw [← hcz] at hO ⊢
    obtain ⟨x0, x1, x2, x3⟩ := four_cells hg2
    have y1 : (cz == cz) = true := beq_self_eq_true _
    have y2 : (cb == cb) = true := by simp
    have y3 : ((tg : Int) == (tg : Int)) = true := by simp
    have HA : Hid (∀ W, Below w2.heap.size w2 W → Calls Tryd.prog 6 #[] W fun r w' => r = .returned (.bool true) ∧ Below W.heap.size W w') := (fun W h => HP.out.1 W (hb02.trans (h.mono hb02.size)) : ∀ W, Below w2.heap.size w2 W → Calls Tryd.prog 6 #[] W fun r w' => r = .returned (.bool true) ∧ Below W.heap.size W w')
    have hK : ∀ W, Below w2.heap.size w2 W → Calls Tryd.prog 18 #[.slice ao m cap] W fun r w' => ∃ u, r = .returned u ∧ OwnI w' W.heap.size u cz ∧ Below W.heap.size W w' := fun W h => by rw [hcz]; exact refCanon_any _ zs W (by rw [hmm]; rw [hmm] at hv2; exact hv2.below h) (by omega)
    have HK : Hid _ := hK
    have hPc : ∀ W, Below w2.heap.size w2 W → Calls Tryd.prog 19 #[sysV n k s (.slice ae me ce), .slice (some ⟨g, 0, none⟩) m cl] W fun r w' => r = .returned (.bool cb) ∧ Below W.heap.size W w' := fun W h => by rw [hcb, hmm]; exact HP.out.2.2.1 n k s _ _ zs W (hLe2.has.below h) (by omega) HP.out.2.2.2.2
    have hRc : ∀ W, Below w2.heap.size w2 W → Calls Tryd.prog 20 #[sysV n k s (.slice ae me ce), .slice ao m cap] W fun r w' => r = .returned (.bool cb) ∧ Below W.heap.size W w' := fun W h => by rw [hcb]; exact refClasses_any n k s _ _ zs W (by rw [hmm]; rw [hmm] at hv2; exact hv2.below h) (by omega)
    have hPt : ∀ W, Below w2.heap.size w2 W → Calls Tryd.prog 21 #[.slice (some ⟨g, 0, none⟩) m cl] W fun r w' => r = .returned (.int .i64 tg) ∧ Below W.heap.size W w' := fun W h => by rw [htg, hmm]; exact HP.out.2.2.2.1 _ zs W (hLe2.has.below h) (by omega) HP.out.2.2.2.2
    have hRt : ∀ W, Below w2.heap.size w2 W → Calls Tryd.prog 22 #[.slice ao m cap] W fun r w' => r = .returned (.int .i64 tg) ∧ Below W.heap.size W w' := fun W h => by rw [htg]; exact refTogether_any _ zs W (by rw [hmm]; rw [hmm] at hv2; exact hv2.below h) (by omega)
    have hSt : ∀ W, Below w2.heap.size w2 W → Calls Tryd.prog 23 #[.slice (some ⟨g, 0, none⟩) m cl, .slice ao m cap] W fun r w' => r = .returned (.bool true) ∧ Below W.heap.size W w' := fun W h => by rw [hmm]; exact stays_lent _ g cl _ zs W (by omega) (hLe2.at (h.block _ hLe2.lt.2)) (by rw [hmm] at hv2; exact hv2.below h)
    have HR : Hid _ := And.intro hPc (And.intro hRc (And.intro hPt (And.intro hRt hSt)))
    have HO : Hid (OwnI w2 w1.heap.size (.slice au cz.length cu) cz) := hO
    have HB : Hid _ := hb02
    unfold sysV at HR
    clear hK hPc hRc hPt hRt hSt hO hb02 hLe2 hv2 hmm hcz htg hcb hg2 hb2 HP H1
    go_upto_region 5 with fail
    go_region_held3 (fun w' => (w'.cell? ⟨w.heap.size, 0, none⟩ = some (.int .i64 n) ∧ w'.cell? ⟨w.heap.size, 1, none⟩ = some (.int .i64 k) ∧ w'.cell? ⟨w.heap.size, 2, none⟩ = some (.int .i64 s) ∧ w'.cell? ⟨w.heap.size, 3, none⟩ = some (.slice ae me ce)) ∧ Hid (Below w2.heap.size w2 w')) (first | exact rg_up4 hb3 (by assumption) | exact ⟨⟨x0, x1, x2, x3⟩, ((Below.refl _ _).drew : Below w2.heap.size w2 w2.drew)⟩ | go_keep)
      ((first
        | (go_at_call 6; refine (HA.out _ (rg_b (by assumption))).mono ?_; rintro r w3 ⟨rfl, hb3⟩)
        | (go_at_call 18; refine (HK.out _ (rg_b (by assumption))).mono ?_; rintro r w3 ⟨u3, rfl, hO3, hb3⟩; obtain ⟨a3, c3, rfl⟩ := row_shape hO3)
        | (go_at_call 17; refine (sameInts_b _ _ cz cz _ (by omega) (by omega) (HO.out.has.below (rg_b (by assumption))) hO3.has).mono ?_; rintro r w3 ⟨rfl, hb3⟩)
        | (go_at_call 19; refine (HR.out.1 _ (rg_b (by assumption))).mono ?_; rintro r w3 ⟨rfl, hb3⟩)
        | (go_at_call 20; refine (HR.out.2.1 _ (rg_b (by assumption))).mono ?_; rintro r w3 ⟨rfl, hb3⟩)
        | (go_at_call 21; refine (HR.out.2.2.1 _ (rg_b (by assumption))).mono ?_; rintro r w3 ⟨rfl, hb3⟩)
        | (go_at_call 22; refine (HR.out.2.2.2.1 _ (rg_b (by assumption))).mono ?_; rintro r w3 ⟨rfl, hb3⟩)
        | (go_at_call 23; refine (HR.out.2.2.2.2 _ (rg_b (by assumption))).mono ?_; rintro r w3 ⟨rfl, hb3⟩)
        | fail))
    all_goals
      have HF : Hid (Below w2.heap.size w2 w3) := (rg_b (by assumption) : Below w2.heap.size w2 w3)
      clear hb3
      go_wp2_with fail
      go_ret
      exact ⟨rfl, HB.out.trans (HF.out.mono HB.out.size)⟩
  · have q1 : (1200 : Int) < (m : Int) := by omega
    have HP : Hid _ := And.intro hA (And.intro hb0 hw0)
    rw [← hm]
    unfold sysV
    clear hb0 hg0 hw0 hv hm hA hCa hCl hTo hw
    go_enter Tryd.func4, Tryd.ntmps4
    go_wp2_with fail
    rw [← HP.out.2.2]
    refine Calls.mono (HP.out.1 _ HP.out.2.1) ?_
    rintro r w1 ⟨rfl, hb1⟩
    have HB : Hid _ := hb1
    clear hb1
    go_wp2_with fail
    go_ret
    exact ⟨rfl, HP.out.2.1.trans (HB.out.mono HP.out.2.1.size)⟩
theorem lawForms_sys (hCa : PCanon) (hCl : PClasses) (hTo : PTogether) (n k s : Int) (u v : Value) (es : List Sy.Ed) (zs : List Int) (w : World) (hA : PAlive w) (hu : HasE w u es) (hv : HasI w v zs) (hw : I64s zs) :
    Calls Tryd.prog 4 #[sysV n k s u, v] w fun r w' => r = .returned (.bool true) ∧ Below w.heap.size w w' := by
  obtain ⟨ae, ce, rfl, _⟩ := hu
  exact lawForms_of hCa hCl hTo n k s ae _ ce v zs w hA hv hw
end Go.Proofs.YtcjeijmphgpecaaDoor
