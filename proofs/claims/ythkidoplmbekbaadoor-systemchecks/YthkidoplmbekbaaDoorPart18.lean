/- Texts of this claim, joined: SyLawChecks, SyMine2, ErLaid, SyArg. -/
import Derived.Test.YthkidoplmbekbaaDoorPart17
import Derived.Test.YthkidoplmbekbaaDoorPart7
import Derived.Test.YthkidoplmbekbaaDoorPart16
import Derived.Test.YthkidoplmbekbaaDoorPart9
import Derived.Test.YthkidoplmbekbaaDoorRows
import Derived.Test.YthkidoplmbekbaaDoorPart5
import Derived.Test.YthkidoplmbekbaaDoorErCode
import Derived.ProofKit
import Derived.LaidMore
import Derived.Stop.LaidErr
import Derived.Test.YthkidoplmbekbaaDoorPart1
import Derived.Lib.SmallJoins
import Derived.Deep.Slices
/- SystemChecks, out of contracts of the program's own functions. -/
namespace Go.Proofs.YthkidoplmbekbaaDoor
open Go.RowKit Go.Maps
attribute [local go_sem ↓] Go.wp_at_zero Go.wp_at_succ
/-- The program's error of a system. -/
def RErr (e : Nat → Addr) (w : World) (ok : Bool) (x : Value) : Prop := if ok = true then x = .nilIface else Chain w 0 0 (e 14) [sysB] x
theorem RErr.below {e : Nat → Addr} {w w' : World} {ok : Bool} {x : Value} (h : RErr e w ok x) (hb : Below w.heap.size w w') : RErr e w' ok x := by
  unfold RErr at h ⊢
  split
  · next h1 => rw [if_pos h1] at h; exact h
  · next h1 => rw [if_neg h1] at h; exact h.below hb
def PCheck (e : Nat → Addr) : Prop := ∀ (n k s : Int) (v : Value) (es : List Sy.Ed) (W : World), Er 19 W e → HasE W v es → es.length ≤ 100000 → Calls Tryd.prog 11 #[sysV n k s v] W fun r w' => ∃ x, r = .returned x ∧ RErr e w' (Sy.right n k s es) x ∧ Below W.heap.size W w'
def PNormal (e : Nat → Addr) : Prop := ∀ (n k s : Int) (v : Value) (es : List Sy.Ed) (W : World), Er 19 W e → HasE W v es → es.length ≤ 100000 → Calls Tryd.prog 9 #[sysV n k s v] W fun r w' => ∃ x u, r = .returned (.tuple #[if Sy.right n k s es = true then sysV n k s u else sysV 0 0 0 (.slice none 0 0), x]) ∧ RErr e w' (Sy.right n k s es) x ∧ (Sy.right n k s es = true → BEdges.Own w' W.heap.size u (Sy.nf es)) ∧ Below W.heap.size W w'
theorem told_chk (e : Nat → Addr) (w : World) (ok : Bool) (x : Value) (hE : Er 19 w e) (hx : RErr e w ok x) : Calls Tryd.prog 10 #[x, chkV ok] w fun r w' => r = .returned (.bool true) ∧ Below w.heap.size w w' := by
  cases ok with
  | true =>
    have h1 : x = .nilIface := by simpa [RErr] using hx
    subst h1
    exact told_none 0 0 _ w
  | false =>
    have h1 : Chain w 0 0 (e 14) [sysB] x := by simpa [RErr] using hx
    have h2 := told_chain 14 (by decide) (by decide) (by decide) x [sysB] 0 0 e w hE h1 (by decide) (by decide)
    rw [sys_join] at h2
    exact h2
theorem c4_up {wa wb : World} {a0 a1 a2 a3 : Addr} {x0 x1 x2 x3 : Value} (hb : Below wa.heap.size wa wb) (h : wa.cell? a0 = some x0 ∧ wa.cell? a1 = some x1 ∧ wa.cell? a2 = some x2 ∧ wa.cell? a3 = some x3) : wb.cell? a0 = some x0 ∧ wb.cell? a1 = some x1 ∧ wb.cell? a2 = some x2 ∧ wb.cell? a3 = some x3 :=
  have up : ∀ {a : Addr} {x : Value}, wa.cell? a = some x → wb.cell? a = some x := fun c => (hb.cell (World.block_lt_of_cell? wa _ c)).trans c
  ⟨up h.1, up h.2.1, up h.2.2.1, up h.2.2.2⟩
theorem rg_up12 {w2 wa wb : World} {a0 a1 a2 a3 b0 b1 b2 b3 c0 c1 c2 c3 : Addr} {x0 x1 x2 x3 y0 y1 y2 y3 z0 z1 z2 z3 : Value} (hb : Below wa.heap.size wa wb)
    (h : ((wa.cell? a0 = some x0 ∧ wa.cell? a1 = some x1 ∧ wa.cell? a2 = some x2 ∧ wa.cell? a3 = some x3) ∧ (wa.cell? b0 = some y0 ∧ wa.cell? b1 = some y1 ∧ wa.cell? b2 = some y2 ∧ wa.cell? b3 = some y3) ∧ (wa.cell? c0 = some z0 ∧ wa.cell? c1 = some z1 ∧ wa.cell? c2 = some z2 ∧ wa.cell? c3 = some z3)) ∧ Hid (Below w2.heap.size w2 wa)) :
    ((wb.cell? a0 = some x0 ∧ wb.cell? a1 = some x1 ∧ wb.cell? a2 = some x2 ∧ wb.cell? a3 = some x3) ∧ (wb.cell? b0 = some y0 ∧ wb.cell? b1 = some y1 ∧ wb.cell? b2 = some y2 ∧ wb.cell? b3 = some y3) ∧ (wb.cell? c0 = some z0 ∧ wb.cell? c1 = some z1 ∧ wb.cell? c2 = some z2 ∧ wb.cell? c3 = some z3)) ∧ Hid (Below w2.heap.size w2 wb) :=
  ⟨⟨c4_up hb h.1.1, c4_up hb h.1.2.1, c4_up hb h.1.2.2⟩, (h.2.out.trans (hb.mono h.2.out.size) : Below w2.heap.size w2 wb)⟩
/-- The cells of a box that is made. -/
theorem four_new (w : World) (x0 x1 x2 x3 : Value) (t : TypeId) : (w.alloc (.cells #[x0, x1, x2, x3] t)).heap[w.heap.size]? = some (.cells #[x0, x1, x2, x3] t (0, 0)) := heap_alloc_new w _
theorem hasE_nil (w : World) : BEdges.Has w (.slice none 0 0) [] := ⟨none, 0, rfl, fun j u h => by simp [BEdges.C] at h⟩
set_option maxRecDepth 100000 in
set_option maxHeartbeats 4000000 in
theorem lawChecks_of (e : Nat → Addr) (hCh : PCheck e) (hNo : PNormal e) (n k s : Int) (v : Value) (es : List Sy.Ed) (w : World) (hA : PAlive w) (hE : Er 19 w e) (hv : HasE w v es) :
    Calls Tryd.prog 3 #[sysV n k s v] w fun r w' => r = .returned (.bool true) ∧ Below w.heap.size w w' := by
  obtain ⟨w0, hw0⟩ : ∃ w0, w0 = w.alloc (.cells #[.int .i64 n, .int .i64 k, .int .i64 s, v] 24) := ⟨_, rfl⟩
  have hb0 : Below w.heap.size w w0 := by rw [hw0]; exact (Below.refl _ _).alloc (Nat.le_refl _) _
  have hg0 : w0.heap[w.heap.size]? = some (.cells #[.int .i64 n, .int .i64 k, .int .i64 s, v] 24 (0, 0)) := by rw [hw0]; exact heap_alloc_new w _
  have hv0 := hv
  obtain ⟨ao, cap, rfl, _⟩ := hv0
  obtain ⟨m, hm⟩ : ∃ m, m = es.length := ⟨_, rfl⟩
  by_cases hlen : m ≤ 11000
  · have HM : Hid (m = es.length) := hm
    obtain ⟨_, _, _, _, hH⟩ := hv.below hb0
    have hL := lentS_any n k s _ es w0 (by omega) hH
    have q1 : ¬ (11000 : Int) < (m : Int) := by omega
    clear hH
    rw [← hm] at hL hv hw0 hg0 ⊢
    have H0 : Hid _ := And.intro hL (And.intro hb0 (And.intro hg0 (And.intro hw0 hv)))
    have HP : Hid _ := And.intro hA (And.intro hCh (And.intro hNo hE))
    obtain ⟨x0, x1, x2, x3⟩ := four_cells hg0
    unfold sysV at H0 ⊢
    clear hL hb0 hg0 hw0 hv hm hA hCh hNo hE
    go_enter Tryd.func3, Tryd.ntmps3
    go_upto_region 1 with fail
    rw [← H0.out.2.2.2.1]
    go_wp2_with fail
    refine Calls.mono H0.out.1 ?_
    rintro r w1 ⟨u, rfl, hLe, hb1⟩
    obtain ⟨gl, cl, rfl, hcl, hOl⟩ := id hLe
    rw [← HM.out] at hLe ⊢
    have hg1 := (hb1.block _ (t_lt H0.out.2.2.1)).trans H0.out.2.2.1
    have hb01 : Below w.heap.size w w1 := H0.out.2.1.trans (hb1.mono H0.out.2.1.size)
    have HL : Hid _ := And.intro hLe (And.intro hb01 hg1)
    clear hLe hb01 hg1 hOl hcl x0 x1 x2 x3
    go_upto_region 4 with fail
    obtain ⟨w2, hw2⟩ : ∃ w2, w2 = w1.alloc (.cells #[.int .i64 n, .int .i64 k, .int .i64 s, .slice (some ⟨gl, 0, none⟩) m cl] 24) := ⟨_, rfl⟩
    rw [← hw2]
    have hb2 : Below w1.heap.size w1 w2 := by rw [hw2]; exact (Below.refl _ _).alloc (Nat.le_refl _) _
    have hg2 : w2.heap[w1.heap.size]? = some (.cells #[.int .i64 n, .int .i64 k, .int .i64 s, .slice (some ⟨gl, 0, none⟩) m cl] 24 (0, 0)) := by rw [hw2]; exact four_new _ _ _ _ _ _
    have z0 := four_cells hg2
    have y0 := c4_up hb2 (four_cells HL.out.2.2)
    have hb02 : Below w.heap.size w w2 := HL.out.2.1.trans (hb2.mono HL.out.2.1.size)
    have H2 : Hid _ := And.intro hb02 (And.intro (HL.out.1.below hb2) (H0.out.2.2.2.2.below hb02))
    obtain ⟨bl, hbl⟩ : ∃ bl, bl = w1.heap.size := ⟨_, rfl⟩
    rw [← hbl] at z0 ⊢
    have hH2 : BEdges.Has w2 (.slice ao m cap) es := by obtain ⟨_, _, _, _, h⟩ := H2.out.2.2; exact h
    clear hw2 hb2 hg2 hb02 hbl HL hb1
    cases hok : Sy.right n k s es with
    | true =>
      have hC := refCheck_any n k s (.slice ao m cap) es w2 hH2
      rw [hok] at hC
      have hC' : Calls Tryd.prog 8 #[.agg #[.int .i64 n, .int .i64 k, .int .i64 s, .slice ao m cap]] w2 fun r w' => r = .returned (.agg #[.int .i64 0, .int .i64 0, .int .i64 0, .string ⟨#[]⟩]) ∧ Below w2.heap.size w2 w' := hC
      have HC : Hid _ := hC'
      clear hC hC'
      go_wp2_with fail
      refine Calls.mono HC.out ?_
      rintro r w3 ⟨rfl, hb3⟩
      have H3 : Hid _ := hb3
      have y0 := c4_up hb3 y0
      have z0 := c4_up hb3 z0
      clear hb3 HC
      go_upto_region 5 with fail
      obtain ⟨w4, hw4⟩ : ∃ w4, w4 = w3.alloc (.cells #[.int .i64 0, .int .i64 0, .int .i64 0, .string ⟨#[]⟩] 28) := ⟨_, rfl⟩
      rw [← hw4]
      have hb4 : Below w3.heap.size w3 w4 := by rw [hw4]; exact (Below.refl _ _).alloc (Nat.le_refl _) _
      have hg4 : w4.heap[w3.heap.size]? = some (.cells #[.int .i64 0, .int .i64 0, .int .i64 0, .string ⟨#[]⟩] 28 (0, 0)) := by rw [hw4]; exact four_new _ _ _ _ _ _
      have y0 := c4_up hb4 y0
      have z0 := c4_up hb4 z0
      have v0 := four_cells hg4
      have hb24 : Below w2.heap.size w2 w4 := H3.out.trans (hb4.mono H3.out.size)
      have hb04 : Below w.heap.size w w4 := H2.out.1.trans (hb24.mono H2.out.1.size)
      have hLe4 := H2.out.2.1.below hb24
      have hN := HP.out.2.2.1 n k s (.slice (some ⟨gl, 0, none⟩) m cl) es w4 (HP.out.2.2.2.below hb04) hLe4.hasE (by have := HM.out; omega)
      rw [hok] at hN
      simp only [reduceIte, forall_const] at hN
      unfold sysV at hN
      have HN : Hid _ := And.intro hN (And.intro hb24 hb04)
      clear hN hb24 hb04 hLe4 hw4 hb4 hg4 H3
      obtain ⟨y1, y2, y3, y4⟩ := y0
      obtain ⟨z1, z2, z3, z4⟩ := z0
      obtain ⟨v1, v2, v3, v4⟩ := v0
      obtain ⟨be, hbe⟩ : ∃ be, be = w3.heap.size := ⟨_, rfl⟩
      rw [← hbe] at v1 v2 v3 v4 ⊢
      clear hbe
      go_wp2_with fail
      refine Calls.mono HN.out.1 ?_
      rintro r w5 ⟨xn, u2, rfl, hx2, hO2, hb5⟩
      obtain ⟨a2, c2, rfl⟩ := row_shape hO2
      have H5 : Hid _ := And.intro hx2 (And.intro hO2 hb5)
      have y0 := c4_up hb5 ⟨y1, y2, y3, y4⟩
      have z0 := c4_up hb5 ⟨z1, z2, z3, z4⟩
      have v0 := c4_up hb5 ⟨v1, v2, v3, v4⟩
      clear hx2 hO2 hb5 y1 y2 y3 y4 z1 z2 z3 z4 v1 v2 v3 v4
      go_upto_region 6 with fail
      obtain ⟨w6, hw6⟩ : ∃ w6, w6 = w5.alloc (.cells #[.int .i64 n, .int .i64 k, .int .i64 s, .slice a2 (Sy.nf es).length c2] 24) := ⟨_, rfl⟩
      rw [← hw6]
      have hb6 : Below w5.heap.size w5 w6 := by rw [hw6]; exact (Below.refl _ _).alloc (Nat.le_refl _) _
      have hg6 : w6.heap[w5.heap.size]? = some (.cells #[.int .i64 n, .int .i64 k, .int .i64 s, .slice a2 (Sy.nf es).length c2] 24 (0, 0)) := by rw [hw6]; exact four_new _ _ _ _ _ _
      have y0 := c4_up hb6 y0
      have z0 := c4_up hb6 z0
      have v0 := c4_up hb6 v0
      have t0 := four_cells hg6
      have hb46 : Below w4.heap.size w4 w6 := H5.out.2.2.trans (hb6.mono H5.out.2.2.size)
      have hb26 : Below w2.heap.size w2 w6 := HN.out.2.1.trans (hb46.mono HN.out.2.1.size)
      have hb06 : Below w.heap.size w w6 := H2.out.1.trans (hb26.mono H2.out.1.size)
      obtain ⟨bt, hbt⟩ : ∃ bt, bt = w5.heap.size := ⟨_, rfl⟩
      rw [← hbt] at t0 ⊢
      have hAl : ∀ W, Below w6.heap.size w6 W → Calls Tryd.prog 6 #[] W fun r w' => r = .returned (.bool true) ∧ Below W.heap.size W w' := fun W h => HP.out.1 W (hb06.trans (h.mono hb06.size))
      have hCk : ∀ W, Below w6.heap.size w6 W → Calls Tryd.prog 11 #[.agg #[.int .i64 n, .int .i64 k, .int .i64 s, .slice (some ⟨gl, 0, none⟩) m cl]] W fun r w' => ∃ x, r = .returned x ∧ RErr e w' true x ∧ Below W.heap.size W w' := fun W h => by
        have h1 := HP.out.2.1 n k s (.slice (some ⟨gl, 0, none⟩) m cl) es W (HP.out.2.2.2.below (hb06.trans (h.mono hb06.size))) (H2.out.2.1.below (hb26.trans (h.mono hb26.size))).hasE (by have := HM.out; omega)
        rw [hok] at h1
        exact h1
      have hTo : ∀ W x, Below w6.heap.size w6 W → RErr e W true x → Calls Tryd.prog 10 #[x, .agg #[.int .i64 0, .int .i64 0, .int .i64 0, .string ⟨#[]⟩]] W fun r w' => r = .returned (.bool true) ∧ Below W.heap.size W w' := fun W x h hx => told_chk e W true x (HP.out.2.2.2.below (hb06.trans (h.mono hb06.size))) hx
      have hSt : ∀ W, Below w6.heap.size w6 W → Calls Tryd.prog 12 #[.agg #[.int .i64 n, .int .i64 k, .int .i64 s, .slice (some ⟨gl, 0, none⟩) m cl], .agg #[.int .i64 n, .int .i64 k, .int .i64 s, .slice ao m cap]] W fun r w' => r = .returned (.bool true) ∧ Below W.heap.size W w' := fun W h => by
        obtain ⟨_, _, _, _, h9⟩ := H0.out.2.2.2.2.below (hb06.trans (h.mono hb06.size))
        exact staysS_any n k s n k s _ _ _ es W (by have := HM.out; omega) (H2.out.2.1.below (hb26.trans (h.mono hb26.size))) h9
      have hX : RErr e w6 true xn := H5.out.1.below hb6
      have HQ : Hid _ := And.intro hAl (And.intro hCk (And.intro hTo (And.intro hSt (And.intro hX (And.intro hb06 (And.intro hb6 t0))))))
      clear hAl hCk hTo hSt hX hb46 hb26 hb06 hb6 hg6 hw6 hbt
      obtain ⟨y1, y2, y3, y4⟩ := y0
      obtain ⟨z1, z2, z3, z4⟩ := z0
      obtain ⟨v1, v2, v3, v4⟩ := v0
      obtain ⟨t1, t2, t3, t4⟩ := t0
      go_region_held3 (fun w' => ((w'.cell? ⟨w.heap.size, 0, none⟩ = some (.int .i64 n) ∧ w'.cell? ⟨w.heap.size, 1, none⟩ = some (.int .i64 k) ∧ w'.cell? ⟨w.heap.size, 2, none⟩ = some (.int .i64 s) ∧ w'.cell? ⟨w.heap.size, 3, none⟩ = some (.slice ao m cap)) ∧ (w'.cell? ⟨bl, 0, none⟩ = some (.int .i64 n) ∧ w'.cell? ⟨bl, 1, none⟩ = some (.int .i64 k) ∧ w'.cell? ⟨bl, 2, none⟩ = some (.int .i64 s) ∧ w'.cell? ⟨bl, 3, none⟩ = some (.slice (some ⟨gl, 0, none⟩) m cl)) ∧ (w'.cell? ⟨be, 0, none⟩ = some (.int .i64 0) ∧ w'.cell? ⟨be, 1, none⟩ = some (.int .i64 0) ∧ w'.cell? ⟨be, 2, none⟩ = some (.int .i64 0) ∧ w'.cell? ⟨be, 3, none⟩ = some (.string ⟨#[]⟩))) ∧ Hid (Below w6.heap.size w6 w')) (first | exact rg_up12 hb7 (by assumption) | exact ⟨⟨⟨y1, y2, y3, y4⟩, ⟨z1, z2, z3, z4⟩, v1, v2, v3, v4⟩, ((Below.refl _ _).drew : Below w6.heap.size w6 w6.drew)⟩ | go_keep)
        ((first
          | (go_at_call 11; refine (HQ.out.2.1 _ (rg_b (by assumption))).mono ?_; rintro r w7 ⟨xc, rfl, hxc, hb7⟩)
          | (go_at_call 10; refine (HQ.out.2.2.1 _ _ (rg_b (by assumption)) (by first | exact hxc | exact HQ.out.2.2.2.2.1.below (rg_b (by assumption)))).mono ?_; rintro r w7 ⟨rfl, hb7⟩)
          | (go_at_call 12; refine (HQ.out.2.2.2.1 _ (rg_b (by assumption))).mono ?_; rintro r w7 ⟨rfl, hb7⟩)
          | fail))
      all_goals
        have hb67 : Below w6.heap.size w6 w7 := rg_b (by assumption)
        have HF : Hid (Below w6.heap.size w6 w7) := hb67
        have y0 := c4_up hb67 ⟨y1, y2, y3, y4⟩
        have v0 := c4_up hb67 ⟨v1, v2, v3, v4⟩
        have t0 := c4_up hb67 ⟨t1, t2, t3, t4⟩
        clear hb7 hb67 y1 y2 y3 y4 z1 z2 z3 z4 v1 v2 v3 v4 t1 t2 t3 t4
        obtain ⟨y1, y2, y3, y4⟩ := y0
        obtain ⟨v1, v2, v3, v4⟩ := v0
        obtain ⟨t1, t2, t3, t4⟩ := t0
        have hNr : ∀ W, Below w7.heap.size w7 W → Calls Tryd.prog 14 #[.agg #[.int .i64 n, .int .i64 k, .int .i64 s, .slice ao m cap]] W fun r w' => ∃ u, r = .returned (.agg #[.int .i64 n, .int .i64 k, .int .i64 s, u]) ∧ BEdges.Own w' W.heap.size u (Sy.nf es) ∧ Below W.heap.size W w' := fun W h => by
          have h1 : Below w6.heap.size w6 W := HF.out.trans (h.mono HF.out.size)
          exact refNormal_any n k s (.slice ao m cap) es W (H0.out.2.2.2.2.below (HQ.out.2.2.2.2.2.1.trans (h1.mono HQ.out.2.2.2.2.2.1.size))) (by have := HM.out; omega)
        have HNr : Hid _ := hNr
        clear hNr
        go_upto_region 10 with fail
        go_region_held3 (fun w' => ((w'.cell? ⟨w.heap.size, 0, none⟩ = some (.int .i64 n) ∧ w'.cell? ⟨w.heap.size, 1, none⟩ = some (.int .i64 k) ∧ w'.cell? ⟨w.heap.size, 2, none⟩ = some (.int .i64 s) ∧ w'.cell? ⟨w.heap.size, 3, none⟩ = some (.slice ao m cap)) ∧ (w'.cell? ⟨bt, 0, none⟩ = some (.int .i64 n) ∧ w'.cell? ⟨bt, 1, none⟩ = some (.int .i64 k) ∧ w'.cell? ⟨bt, 2, none⟩ = some (.int .i64 s) ∧ w'.cell? ⟨bt, 3, none⟩ = some (.slice a2 (Sy.nf es).length c2)) ∧ (w'.cell? ⟨be, 0, none⟩ = some (.int .i64 0) ∧ w'.cell? ⟨be, 1, none⟩ = some (.int .i64 0) ∧ w'.cell? ⟨be, 2, none⟩ = some (.int .i64 0) ∧ w'.cell? ⟨be, 3, none⟩ = some (.string ⟨#[]⟩))) ∧ Hid (Below w7.heap.size w7 w')) (first | exact rg_up12 hb8 (by assumption) | exact ⟨⟨⟨y1, y2, y3, y4⟩, ⟨t1, t2, t3, t4⟩, v1, v2, v3, v4⟩, ((Below.refl _ _).drew : Below w7.heap.size w7 w7.drew)⟩ | go_keep)
          ((first
            | (go_at_call 6; refine (HQ.out.1 _ (HF.out.trans ((rg_b (w2 := w7) (by assumption)).mono HF.out.size))).mono ?_; rintro r w8 ⟨rfl, hb8⟩)
            | (go_at_call 14; refine (HNr.out _ (rg_b (by assumption))).mono ?_; rintro r w8 ⟨un, rfl, hOn, hb8⟩)
            | (go_at_call 13; refine (sameSystem_b n k s (.slice a2 (Sy.nf es).length c2) un (Sy.nf es) _ (by have := Sy.nf_len es; have := HM.out; omega) ((BEdges.Own.has (trow_at H5.out.2.1 fun b hb => HQ.out.2.2.2.2.2.2.1.block b (H5.out.2.1.lt b hb).2)).below (HF.out.trans ((rg_b (w2 := w7) (by assumption)).mono HF.out.size))) (BEdges.Own.has hOn)).mono ?_; rintro r w8 ⟨rfl, hb8⟩)
            | fail))
        all_goals
          have HG : Hid (Below w7.heap.size w7 w8) := (rg_b (by assumption) : Below w7.heap.size w7 w8)
          clear hb8
          go_wp2_with fail
          go_ret
          exact ⟨rfl, HQ.out.2.2.2.2.2.1.trans ((HF.out.trans (HG.out.mono HF.out.size)).mono HQ.out.2.2.2.2.2.1.size)⟩
    | false =>
      have hC := refCheck_any n k s (.slice ao m cap) es w2 hH2
      rw [hok] at hC
      have hC' : Calls Tryd.prog 8 #[.agg #[.int .i64 n, .int .i64 k, .int .i64 s, .slice ao m cap]] w2 fun r w' => r = .returned (.agg #[.int .i64 14, .int .i64 0, .int .i64 0, .string sysB1]) ∧ Below w2.heap.size w2 w' := hC
      have HC : Hid _ := hC'
      clear hC hC'
      go_wp2_with fail
      refine Calls.mono HC.out ?_
      rintro r w3 ⟨rfl, hb3⟩
      have H3 : Hid _ := hb3
      have y0 := c4_up hb3 y0
      have z0 := c4_up hb3 z0
      clear hb3 HC
      go_upto_region 5 with fail
      obtain ⟨w4, hw4⟩ : ∃ w4, w4 = w3.alloc (.cells #[.int .i64 14, .int .i64 0, .int .i64 0, .string sysB1] 28) := ⟨_, rfl⟩
      rw [← hw4]
      have hb4 : Below w3.heap.size w3 w4 := by rw [hw4]; exact (Below.refl _ _).alloc (Nat.le_refl _) _
      have hg4 : w4.heap[w3.heap.size]? = some (.cells #[.int .i64 14, .int .i64 0, .int .i64 0, .string sysB1] 28 (0, 0)) := by rw [hw4]; exact four_new _ _ _ _ _ _
      have y0 := c4_up hb4 y0
      have z0 := c4_up hb4 z0
      have v0 := four_cells hg4
      have hb24 : Below w2.heap.size w2 w4 := H3.out.trans (hb4.mono H3.out.size)
      have hb04 : Below w.heap.size w w4 := H2.out.1.trans (hb24.mono H2.out.1.size)
      have hLe4 := H2.out.2.1.below hb24
      have hN := HP.out.2.2.1 n k s (.slice (some ⟨gl, 0, none⟩) m cl) es w4 (HP.out.2.2.2.below hb04) hLe4.hasE (by have := HM.out; omega)
      rw [hok] at hN
      simp only [Bool.false_eq_true, reduceIte, false_implies, true_and] at hN
      unfold sysV at hN
      have HN : Hid _ := And.intro hN (And.intro hb24 hb04)
      clear hN hb24 hb04 hLe4 hw4 hb4 hg4 H3
      obtain ⟨y1, y2, y3, y4⟩ := y0
      obtain ⟨z1, z2, z3, z4⟩ := z0
      obtain ⟨v1, v2, v3, v4⟩ := v0
      obtain ⟨be, hbe⟩ : ∃ be, be = w3.heap.size := ⟨_, rfl⟩
      rw [← hbe] at v1 v2 v3 v4 ⊢
      clear hbe
      go_wp2_with fail
      refine Calls.mono HN.out.1 ?_
      rintro r w5 ⟨xn, u2, rfl, hx2, hb5⟩
      clear u2
      have H5 : Hid _ := And.intro hx2 (And.intro trivial hb5)
      have y0 := c4_up hb5 ⟨y1, y2, y3, y4⟩
      have z0 := c4_up hb5 ⟨z1, z2, z3, z4⟩
      have v0 := c4_up hb5 ⟨v1, v2, v3, v4⟩
      clear hx2 hb5 y1 y2 y3 y4 z1 z2 z3 z4 v1 v2 v3 v4
      go_upto_region 6 with fail
      obtain ⟨w6, hw6⟩ : ∃ w6, w6 = w5.alloc (.cells #[.int .i64 0, .int .i64 0, .int .i64 0, .slice none 0 0] 24) := ⟨_, rfl⟩
      rw [← hw6]
      have hb6 : Below w5.heap.size w5 w6 := by rw [hw6]; exact (Below.refl _ _).alloc (Nat.le_refl _) _
      have hg6 : w6.heap[w5.heap.size]? = some (.cells #[.int .i64 0, .int .i64 0, .int .i64 0, .slice none 0 0] 24 (0, 0)) := by rw [hw6]; exact four_new _ _ _ _ _ _
      have y0 := c4_up hb6 y0
      have z0 := c4_up hb6 z0
      have v0 := c4_up hb6 v0
      have t0 := four_cells hg6
      have hb46 : Below w4.heap.size w4 w6 := H5.out.2.2.trans (hb6.mono H5.out.2.2.size)
      have hb26 : Below w2.heap.size w2 w6 := HN.out.2.1.trans (hb46.mono HN.out.2.1.size)
      have hb06 : Below w.heap.size w w6 := H2.out.1.trans (hb26.mono H2.out.1.size)
      obtain ⟨bt, hbt⟩ : ∃ bt, bt = w5.heap.size := ⟨_, rfl⟩
      rw [← hbt] at t0 ⊢
      have hAl : ∀ W, Below w6.heap.size w6 W → Calls Tryd.prog 6 #[] W fun r w' => r = .returned (.bool true) ∧ Below W.heap.size W w' := fun W h => HP.out.1 W (hb06.trans (h.mono hb06.size))
      have hCk : ∀ W, Below w6.heap.size w6 W → Calls Tryd.prog 11 #[.agg #[.int .i64 n, .int .i64 k, .int .i64 s, .slice (some ⟨gl, 0, none⟩) m cl]] W fun r w' => ∃ x, r = .returned x ∧ RErr e w' false x ∧ Below W.heap.size W w' := fun W h => by
        have h1 := HP.out.2.1 n k s (.slice (some ⟨gl, 0, none⟩) m cl) es W (HP.out.2.2.2.below (hb06.trans (h.mono hb06.size))) (H2.out.2.1.below (hb26.trans (h.mono hb26.size))).hasE (by have := HM.out; omega)
        rw [hok] at h1
        exact h1
      have hTo : ∀ W x, Below w6.heap.size w6 W → RErr e W false x → Calls Tryd.prog 10 #[x, .agg #[.int .i64 14, .int .i64 0, .int .i64 0, .string sysB1]] W fun r w' => r = .returned (.bool true) ∧ Below W.heap.size W w' := fun W x h hx => told_chk e W false x (HP.out.2.2.2.below (hb06.trans (h.mono hb06.size))) hx
      have hSt : ∀ W, Below w6.heap.size w6 W → Calls Tryd.prog 12 #[.agg #[.int .i64 n, .int .i64 k, .int .i64 s, .slice (some ⟨gl, 0, none⟩) m cl], .agg #[.int .i64 n, .int .i64 k, .int .i64 s, .slice ao m cap]] W fun r w' => r = .returned (.bool true) ∧ Below W.heap.size W w' := fun W h => by
        obtain ⟨_, _, _, _, h9⟩ := H0.out.2.2.2.2.below (hb06.trans (h.mono hb06.size))
        exact staysS_any n k s n k s _ _ _ es W (by have := HM.out; omega) (H2.out.2.1.below (hb26.trans (h.mono hb26.size))) h9
      have hX : RErr e w6 false xn := H5.out.1.below hb6
      have HQ : Hid _ := And.intro hAl (And.intro hCk (And.intro hTo (And.intro hSt (And.intro hX (And.intro hb06 (And.intro hb6 t0))))))
      clear hAl hCk hTo hSt hX hb46 hb26 hb06 hb6 hg6 hw6 hbt
      obtain ⟨y1, y2, y3, y4⟩ := y0
      obtain ⟨z1, z2, z3, z4⟩ := z0
      obtain ⟨v1, v2, v3, v4⟩ := v0
      obtain ⟨t1, t2, t3, t4⟩ := t0
      go_region_held3 (fun w' => ((w'.cell? ⟨w.heap.size, 0, none⟩ = some (.int .i64 n) ∧ w'.cell? ⟨w.heap.size, 1, none⟩ = some (.int .i64 k) ∧ w'.cell? ⟨w.heap.size, 2, none⟩ = some (.int .i64 s) ∧ w'.cell? ⟨w.heap.size, 3, none⟩ = some (.slice ao m cap)) ∧ (w'.cell? ⟨bl, 0, none⟩ = some (.int .i64 n) ∧ w'.cell? ⟨bl, 1, none⟩ = some (.int .i64 k) ∧ w'.cell? ⟨bl, 2, none⟩ = some (.int .i64 s) ∧ w'.cell? ⟨bl, 3, none⟩ = some (.slice (some ⟨gl, 0, none⟩) m cl)) ∧ (w'.cell? ⟨be, 0, none⟩ = some (.int .i64 14) ∧ w'.cell? ⟨be, 1, none⟩ = some (.int .i64 0) ∧ w'.cell? ⟨be, 2, none⟩ = some (.int .i64 0) ∧ w'.cell? ⟨be, 3, none⟩ = some (.string sysB1))) ∧ Hid (Below w6.heap.size w6 w')) (first | exact rg_up12 hb7 (by assumption) | exact ⟨⟨⟨y1, y2, y3, y4⟩, ⟨z1, z2, z3, z4⟩, v1, v2, v3, v4⟩, ((Below.refl _ _).drew : Below w6.heap.size w6 w6.drew)⟩ | go_keep)
        ((first
          | (go_at_call 11; refine (HQ.out.2.1 _ (rg_b (by assumption))).mono ?_; rintro r w7 ⟨xc, rfl, hxc, hb7⟩)
          | (go_at_call 10; refine (HQ.out.2.2.1 _ _ (rg_b (by assumption)) (by first | exact hxc | exact HQ.out.2.2.2.2.1.below (rg_b (by assumption)))).mono ?_; rintro r w7 ⟨rfl, hb7⟩)
          | (go_at_call 12; refine (HQ.out.2.2.2.1 _ (rg_b (by assumption))).mono ?_; rintro r w7 ⟨rfl, hb7⟩)
          | fail))
      all_goals
        have hb67 : Below w6.heap.size w6 w7 := rg_b (by assumption)
        have HF : Hid (Below w6.heap.size w6 w7) := hb67
        have y0 := c4_up hb67 ⟨y1, y2, y3, y4⟩
        have v0 := c4_up hb67 ⟨v1, v2, v3, v4⟩
        have t0 := c4_up hb67 ⟨t1, t2, t3, t4⟩
        clear hb7 hb67 y1 y2 y3 y4 z1 z2 z3 z4 v1 v2 v3 v4 t1 t2 t3 t4
        obtain ⟨y1, y2, y3, y4⟩ := y0
        obtain ⟨v1, v2, v3, v4⟩ := v0
        obtain ⟨t1, t2, t3, t4⟩ := t0
        go_wp2_with fail
        refine Calls.mono (HQ.out.1 _ HF.out) ?_
        rintro r w8 ⟨rfl, hb8⟩
        have H8 : Hid _ := hb8
        have t0 := c4_up hb8 ⟨t1, t2, t3, t4⟩
        clear hb8 t1 t2 t3 t4
        obtain ⟨t1, t2, t3, t4⟩ := t0
        go_wp2_with fail
        refine Calls.mono (sameSystem_b 0 0 0 (.slice none 0 0) (.slice none 0 0) [] w8 (by simp) (hasE_nil w8) (hasE_nil w8)) ?_
        rintro r w9 ⟨rfl, hb9⟩
        have H9 : Hid _ := hb9
        clear hb9
        go_wp2_with fail
        go_ret
        have h1 : Below w6.heap.size w6 w9 := (HF.out.trans (H8.out.mono HF.out.size)).trans (H9.out.mono (Nat.le_trans HF.out.size H8.out.size))
        exact ⟨rfl, HQ.out.2.2.2.2.2.1.trans (h1.mono HQ.out.2.2.2.2.2.1.size)⟩
  · have q1 : (11000 : Int) < (m : Int) := by omega
    have HP : Hid _ := And.intro hA (And.intro hb0 hw0)
    rw [← hm] at HP hg0 ⊢
    obtain ⟨x0, x1, x2, x3⟩ := four_cells hg0
    unfold sysV
    clear hb0 hg0 hw0 hv hm hA hCh hNo hE
    go_enter Tryd.func3, Tryd.ntmps3
    go_upto_region 1 with fail
    rw [← HP.out.2.2]
    go_wp2_with fail
    refine Calls.mono (HP.out.1 _ HP.out.2.1) ?_
    rintro r w1 ⟨rfl, hb1⟩
    have HB : Hid _ := hb1
    clear hb1
    go_wp2_with fail
    go_ret
    exact ⟨rfl, HP.out.2.1.trans (HB.out.mono HP.out.2.1.size)⟩
end Go.Proofs.YthkidoplmbekbaaDoor
/- The program's contracts of Check and Normal that the law on systems leans on: slices.SortFunc sorts rows of up to a million edges. -/
namespace Go.Proofs.YthkidoplmbekbaaDoor
open Go.RowKit Go.Maps
theorem pCheck (e : Nat → Addr) : PCheck e := fun n k s v es W hE hv _ => check_any n k s v es (e 14) W (hE.s14 (by decide)) (by obtain ⟨_, _, _, _, h⟩ := hv; exact h)
theorem pNormal (e : Nat → Addr) : PNormal e := fun n k s v es W hE hv hl => normal_any sortAll n k s v es (e 14) W (hE.s14 (by decide)) (by obtain ⟨_, _, _, _, h⟩ := hv; exact h) (by omega) (by omega)
end Go.Proofs.YthkidoplmbekbaaDoor
/- What the listed package variables give: api's errors lie in memory, each at an address of its own, whichever are listed. (Written by mker.py.) -/
namespace Go.Proofs.YthkidoplmbekbaaDoor
open Go.ChangeShapes Go.WideShapes Go.ChangeAt Go.WideMaps Go.WideElems Go.RowKit
theorem Tryd.own : ownKnob Tryd.prog.godebug = none := by kernel_rfl
theorem Tryd.laidOut : laidOutB Tryd.prog = true := by kernel_rfl
theorem Tryd.cellsE : Tryd.prog.cellsOf 162 = 1 := by kernel_rfl
theorem Tryd.cellsS : Tryd.prog.cellsOf 9 = 1 := by kernel_rfl
set_option maxRecDepth 100000 in
theorem Tryd.star : "*" ++ "errors.errorString" = "*errors.errorString" := by decide
set_option maxRecDepth 100000 in
theorem Tryd.rowE (u : TypeId) (h : Tryd.prog.typeName? 3 u = some "*errors.errorString") : u = 138 :=
  typeName_ptr_named (nm := "errors.errorString") (by rw [Tryd.star]; kernel_rfl) (by kernel_rfl) (by decide) u (by rw [Tryd.star]; exact h)
set_option maxRecDepth 100000 in
/-- One listed error: its variable's cell, its place; and the rest of the list. -/
theorem laid_step {W : World} {n : String} {g : Nat} {text : List UInt8} {r : List (String × DataW Unit)} {ps : List MemPlace} (hg : Tryd.prog.globalNamed n = some g) (ht : (Tryd.prog.globals[g]?).map (·.type) = some 31)
    (h : DataW.LaidVars Tryd.prog W ((n, .iface "*errors.errorString" (.ptr (.agg [.lit (.string text)]))) :: r) ps)
    (hrows : ∀ b off, MemPlace.cell b off ∈ ps → (∃ c t, W.heap[b]? = some (.cells c t (0, 0))) ∧ ∀ u v, W.cell? ⟨b, off, none⟩ = some (.iface u v) → Value.okWide Tryd.prog W .any 0 u v) :
    ∃ a q, Sent W g a ∧ DataW.LaidVars Tryd.prog W r q ∧ ps = MemPlace.cell g 0 :: MemPlace.cell a.block a.off :: q := by
  obtain ⟨g0, t0, cs0, f0, p0, q0, hg0, ht0, hv0, hd0, hr, e0⟩ := h
  obtain rfl := Option.some.inj (hg.symm.trans hg0)
  obtain rfl := Option.some.inj (ht.symm.trans ht0)
  subst e0
  obtain ⟨l0⟩ := cs0
  have ok0 : ∀ u v, l0 = [.iface u v] → Value.okWide Tryd.prog W .any 0 u v := fun u v e => by
    subst e
    exact (hrows g 0 (by simp [MemPlace.row])).2 u v (by simpa using World.var?_cell hg0 hv0 0)
  obtain ⟨a0, s0, rfl, hc0, hs0, hz0, rfl⟩ := errorString_of_trod Tryd.underlying31 Tryd.rowE Tryd.underlying138 Tryd.underlying162 rfl rfl Tryd.underlying9 Tryd.cellsE Tryd.cellsS hd0 ok0
  refine ⟨a0, q0, ⟨by simpa using World.var?_cell hg0 hv0 0, (hrows a0.block a0.off (by simp [MemPlace.row])).1⟩, hr, ?_⟩
  simp [MemPlace.row]
/-- A listed error: its name, its variable, its text. -/
abbrev LE : Type := String × Nat × List UInt8
def leV (x : LE) : String × DataW Unit := (x.1, .iface "*errors.errorString" (.ptr (.agg [.lit (.string x.2.2)])))
theorem laid_list {W : World} {r : List (String × DataW Unit)} : ∀ (xs : List LE) (ps : List MemPlace), (∀ x ∈ xs, Tryd.prog.globalNamed x.1 = some x.2.1 ∧ (Tryd.prog.globals[x.2.1]?).map (·.type) = some 31) →
    DataW.LaidVars Tryd.prog W (xs.map leV ++ r) ps → (∀ b off, MemPlace.cell b off ∈ ps → (∃ c t, W.heap[b]? = some (.cells c t (0, 0))) ∧ ∀ u v, W.cell? ⟨b, off, none⟩ = some (.iface u v) → Value.okWide Tryd.prog W .any 0 u v) →
    ∃ ads : List Addr, ads.length = xs.length ∧ (∀ (i : Nat) (x : LE) (a : Addr), xs[i]? = some x → ads[i]? = some a → Sent W x.2.1 a) ∧ (∀ a ∈ ads, MemPlace.cell a.block a.off ∈ ps) ∧ (ps.Nodup → ads.Pairwise (· ≠ ·))
  | [], ps, _, _, _ => ⟨[], rfl, fun i x a h => by simp at h, fun a h => by simp at h, fun _ => List.Pairwise.nil⟩
  | x :: xs, ps, hx, h, hr => by
    obtain ⟨a, q, hs, hq, rfl⟩ := laid_step (hx x List.mem_cons_self).1 (hx x List.mem_cons_self).2 h hr
    obtain ⟨ads, h1, h2, h3, h4⟩ := laid_list xs q (fun y hy => hx y (List.mem_cons_of_mem _ hy)) hq (fun b off hb => hr b off (List.mem_cons_of_mem _ (List.mem_cons_of_mem _ hb)))
    refine ⟨a :: ads, by simp [h1], fun i y b hy hb => ?_, fun b hb => ?_, fun hn => ?_⟩
    · cases i with
      | zero => simp at hy hb; subst hy; subst hb; exact hs
      | succ i => exact h2 i y b (by simpa using hy) (by simpa using hb)
    · rcases List.mem_cons.1 hb with rfl | hb
      · exact List.mem_cons_of_mem _ List.mem_cons_self
      · exact List.mem_cons_of_mem _ (List.mem_cons_of_mem _ (h3 b hb))
    · have hn2 := (List.nodup_cons.1 hn).2
      have hn3 := List.nodup_cons.1 hn2
      exact List.Pairwise.cons (fun b hb e => hn3.1 (by rw [e]; exact h3 b hb)) (h4 hn3.2)
theorem Tryd.g1 : Tryd.prog.globalNamed "semblance/api.ErrArg" = some 1 := by kernel_rfl
theorem Tryd.t1 : (Tryd.prog.globals[1]?).map (·.type) = some 31 := by kernel_rfl
theorem Tryd.g2 : Tryd.prog.globalNamed "semblance/api.ErrLong" = some 2 := by kernel_rfl
theorem Tryd.t2 : (Tryd.prog.globals[2]?).map (·.type) = some 31 := by kernel_rfl
theorem Tryd.g3 : Tryd.prog.globalNamed "semblance/api.ErrIndex" = some 3 := by kernel_rfl
theorem Tryd.t3 : (Tryd.prog.globals[3]?).map (·.type) = some 31 := by kernel_rfl
theorem Tryd.g4 : Tryd.prog.globalNamed "semblance/api.ErrWord" = some 4 := by kernel_rfl
theorem Tryd.t4 : (Tryd.prog.globals[4]?).map (·.type) = some 31 := by kernel_rfl
theorem Tryd.g5 : Tryd.prog.globalNamed "semblance/api.ErrSyntax" = some 5 := by kernel_rfl
theorem Tryd.t5 : (Tryd.prog.globals[5]?).map (·.type) = some 31 := by kernel_rfl
theorem Tryd.g6 : Tryd.prog.globalNamed "semblance/api.ErrDeep" = some 6 := by kernel_rfl
theorem Tryd.t6 : (Tryd.prog.globals[6]?).map (·.type) = some 31 := by kernel_rfl
theorem Tryd.g7 : Tryd.prog.globalNamed "semblance/api.ErrTwice" = some 7 := by kernel_rfl
theorem Tryd.t7 : (Tryd.prog.globals[7]?).map (·.type) = some 31 := by kernel_rfl
theorem Tryd.g8 : Tryd.prog.globalNamed "semblance/api.ErrUnknown" = some 8 := by kernel_rfl
theorem Tryd.t8 : (Tryd.prog.globals[8]?).map (·.type) = some 31 := by kernel_rfl
theorem Tryd.g9 : Tryd.prog.globalNamed "semblance/api.ErrSilent" = some 9 := by kernel_rfl
theorem Tryd.t9 : (Tryd.prog.globals[9]?).map (·.type) = some 31 := by kernel_rfl
theorem Tryd.g10 : Tryd.prog.globalNamed "semblance/api.ErrUnguarded" = some 10 := by kernel_rfl
theorem Tryd.t10 : (Tryd.prog.globals[10]?).map (·.type) = some 31 := by kernel_rfl
theorem Tryd.g11 : Tryd.prog.globalNamed "semblance/api.ErrSteps" = some 11 := by kernel_rfl
theorem Tryd.t11 : (Tryd.prog.globals[11]?).map (·.type) = some 31 := by kernel_rfl
theorem Tryd.g12 : Tryd.prog.globalNamed "semblance/api.ErrStates" = some 12 := by kernel_rfl
theorem Tryd.t12 : (Tryd.prog.globals[12]?).map (·.type) = some 31 := by kernel_rfl
theorem Tryd.g13 : Tryd.prog.globalNamed "semblance/api.ErrEdges" = some 13 := by kernel_rfl
theorem Tryd.t13 : (Tryd.prog.globals[13]?).map (·.type) = some 31 := by kernel_rfl
theorem Tryd.g14 : Tryd.prog.globalNamed "semblance/api.ErrSystem" = some 0 := by kernel_rfl
theorem Tryd.t14 : (Tryd.prog.globals[0]?).map (·.type) = some 31 := by kernel_rfl
theorem Tryd.g15 : Tryd.prog.globalNamed "semblance/api.ErrClasses" = some 14 := by kernel_rfl
theorem Tryd.t15 : (Tryd.prog.globals[14]?).map (·.type) = some 31 := by kernel_rfl
theorem Tryd.g16 : Tryd.prog.globalNamed "semblance/api.ErrFormula" = some 15 := by kernel_rfl
theorem Tryd.t16 : (Tryd.prog.globals[15]?).map (·.type) = some 31 := by kernel_rfl
theorem Tryd.g17 : Tryd.prog.globalNamed "semblance/api.ErrLimit" = some 16 := by kernel_rfl
theorem Tryd.t17 : (Tryd.prog.globals[16]?).map (·.type) = some 31 := by kernel_rfl
theorem Tryd.g18 : Tryd.prog.globalNamed "semblance/api.ErrNone" = some 17 := by kernel_rfl
theorem Tryd.t18 : (Tryd.prog.globals[17]?).map (·.type) = some 31 := by kernel_rfl
theorem Tryd.g19 : Tryd.prog.globalNamed "semblance/api.ErrScript" = some 18 := by kernel_rfl
theorem Tryd.t19 : (Tryd.prog.globals[18]?).map (·.type) = some 31 := by kernel_rfl
set_option maxRecDepth 100000 in
theorem er_of {W : World} {x1 x2 x3 x4 x5 x6 x7 x8 x9 x10 x11 x12 x13 x14 x15 x16 x17 x18 x19 : List UInt8} {r : List (String × DataW Unit)} (h : laidMet Tryd.prog (("semblance/api.ErrArg", .iface "*errors.errorString" (.ptr (.agg [.lit (.string x1)]))) :: ("semblance/api.ErrLong", .iface "*errors.errorString" (.ptr (.agg [.lit (.string x2)]))) :: ("semblance/api.ErrIndex", .iface "*errors.errorString" (.ptr (.agg [.lit (.string x3)]))) :: ("semblance/api.ErrWord", .iface "*errors.errorString" (.ptr (.agg [.lit (.string x4)]))) :: ("semblance/api.ErrSyntax", .iface "*errors.errorString" (.ptr (.agg [.lit (.string x5)]))) :: ("semblance/api.ErrDeep", .iface "*errors.errorString" (.ptr (.agg [.lit (.string x6)]))) :: ("semblance/api.ErrTwice", .iface "*errors.errorString" (.ptr (.agg [.lit (.string x7)]))) :: ("semblance/api.ErrUnknown", .iface "*errors.errorString" (.ptr (.agg [.lit (.string x8)]))) :: ("semblance/api.ErrSilent", .iface "*errors.errorString" (.ptr (.agg [.lit (.string x9)]))) :: ("semblance/api.ErrUnguarded", .iface "*errors.errorString" (.ptr (.agg [.lit (.string x10)]))) :: ("semblance/api.ErrSteps", .iface "*errors.errorString" (.ptr (.agg [.lit (.string x11)]))) :: ("semblance/api.ErrStates", .iface "*errors.errorString" (.ptr (.agg [.lit (.string x12)]))) :: ("semblance/api.ErrEdges", .iface "*errors.errorString" (.ptr (.agg [.lit (.string x13)]))) :: ("semblance/api.ErrSystem", .iface "*errors.errorString" (.ptr (.agg [.lit (.string x14)]))) :: ("semblance/api.ErrClasses", .iface "*errors.errorString" (.ptr (.agg [.lit (.string x15)]))) :: ("semblance/api.ErrFormula", .iface "*errors.errorString" (.ptr (.agg [.lit (.string x16)]))) :: ("semblance/api.ErrLimit", .iface "*errors.errorString" (.ptr (.agg [.lit (.string x17)]))) :: ("semblance/api.ErrNone", .iface "*errors.errorString" (.ptr (.agg [.lit (.string x18)]))) :: ("semblance/api.ErrScript", .iface "*errors.errorString" (.ptr (.agg [.lit (.string x19)]))) :: r) W) : ∃ e, Er 19 W e := by
  obtain ⟨ps, h0, hnd, r0⟩ := h
  obtain ⟨ads, h1, h2, _, h4⟩ := laid_list [("semblance/api.ErrArg", 1, x1), ("semblance/api.ErrLong", 2, x2), ("semblance/api.ErrIndex", 3, x3), ("semblance/api.ErrWord", 4, x4), ("semblance/api.ErrSyntax", 5, x5), ("semblance/api.ErrDeep", 6, x6), ("semblance/api.ErrTwice", 7, x7), ("semblance/api.ErrUnknown", 8, x8), ("semblance/api.ErrSilent", 9, x9), ("semblance/api.ErrUnguarded", 10, x10), ("semblance/api.ErrSteps", 11, x11), ("semblance/api.ErrStates", 12, x12), ("semblance/api.ErrEdges", 13, x13), ("semblance/api.ErrSystem", 0, x14), ("semblance/api.ErrClasses", 14, x15), ("semblance/api.ErrFormula", 15, x16), ("semblance/api.ErrLimit", 16, x17), ("semblance/api.ErrNone", 17, x18), ("semblance/api.ErrScript", 18, x19)] ps (fun x hx => by
    simp only [List.mem_cons, List.not_mem_nil, or_false] at hx
    rcases hx with rfl | rfl | rfl | rfl | rfl | rfl | rfl | rfl | rfl | rfl | rfl | rfl | rfl | rfl | rfl | rfl | rfl | rfl | rfl
    · exact ⟨Tryd.g1, Tryd.t1⟩
    · exact ⟨Tryd.g2, Tryd.t2⟩
    · exact ⟨Tryd.g3, Tryd.t3⟩
    · exact ⟨Tryd.g4, Tryd.t4⟩
    · exact ⟨Tryd.g5, Tryd.t5⟩
    · exact ⟨Tryd.g6, Tryd.t6⟩
    · exact ⟨Tryd.g7, Tryd.t7⟩
    · exact ⟨Tryd.g8, Tryd.t8⟩
    · exact ⟨Tryd.g9, Tryd.t9⟩
    · exact ⟨Tryd.g10, Tryd.t10⟩
    · exact ⟨Tryd.g11, Tryd.t11⟩
    · exact ⟨Tryd.g12, Tryd.t12⟩
    · exact ⟨Tryd.g13, Tryd.t13⟩
    · exact ⟨Tryd.g14, Tryd.t14⟩
    · exact ⟨Tryd.g15, Tryd.t15⟩
    · exact ⟨Tryd.g16, Tryd.t16⟩
    · exact ⟨Tryd.g17, Tryd.t17⟩
    · exact ⟨Tryd.g18, Tryd.t18⟩
    · exact ⟨Tryd.g19, Tryd.t19⟩) h0 r0
  have hp := h4 hnd
  have h1' : ads.length = 19 := h1
  have hg : ∀ k, 1 ≤ k → k ≤ 19 → ads[k - 1]? = some (ads.getD (k - 1) ⟨0, 0, none⟩) := fun k _ h19 => by rw [List.getD_eq_getElem?_getD, List.getElem?_eq_getElem (by omega)]; rfl
  refine ⟨fun k => ads.getD (k - 1) ⟨0, 0, none⟩, ⟨fun _ => h2 0 _ _ rfl (hg 1 (by decide) (by decide)), fun _ => h2 1 _ _ rfl (hg 2 (by decide) (by decide)), fun _ => h2 2 _ _ rfl (hg 3 (by decide) (by decide)), fun _ => h2 3 _ _ rfl (hg 4 (by decide) (by decide)), fun _ => h2 4 _ _ rfl (hg 5 (by decide) (by decide)), fun _ => h2 5 _ _ rfl (hg 6 (by decide) (by decide)), fun _ => h2 6 _ _ rfl (hg 7 (by decide) (by decide)), fun _ => h2 7 _ _ rfl (hg 8 (by decide) (by decide)), fun _ => h2 8 _ _ rfl (hg 9 (by decide) (by decide)), fun _ => h2 9 _ _ rfl (hg 10 (by decide) (by decide)), fun _ => h2 10 _ _ rfl (hg 11 (by decide) (by decide)), fun _ => h2 11 _ _ rfl (hg 12 (by decide) (by decide)), fun _ => h2 12 _ _ rfl (hg 13 (by decide) (by decide)), fun _ => h2 13 _ _ rfl (hg 14 (by decide) (by decide)), fun _ => h2 14 _ _ rfl (hg 15 (by decide) (by decide)), fun _ => h2 15 _ _ rfl (hg 16 (by decide) (by decide)), fun _ => h2 16 _ _ rfl (hg 17 (by decide) (by decide)), fun _ => h2 17 _ _ rfl (hg 18 (by decide) (by decide)), fun _ => h2 18 _ _ rfl (hg 19 (by decide) (by decide)), fun i j hi hij hj e => ?_⟩⟩
  have hpi := List.pairwise_iff_getElem.1 hp (i - 1) (j - 1) (by omega) (by omega) (by omega)
  have ei := hg i hi (by omega)
  have ej := hg j (by omega) hj
  rw [List.getElem?_eq_getElem (by omega)] at ei ej
  exact hpi ((Option.some.inj ei).trans (e.symm.trans (Option.some.inj ej).symm))
set_option maxRecDepth 100000 in
theorem system_of {W : World} {x14 : List UInt8} {r : List (String × DataW Unit)} (h : laidMet Tryd.prog (("semblance/api.ErrSystem", .iface "*errors.errorString" (.ptr (.agg [.lit (.string x14)]))) :: r) W) : ∃ a, Sent W 0 a := by
  obtain ⟨ps, h0, hnd, r0⟩ := h
  obtain ⟨ads, h1, h2, _, _⟩ := laid_list [("semblance/api.ErrSystem", 0, x14)] ps (fun x hx => by
    simp only [List.mem_cons, List.not_mem_nil, or_false] at hx
    rcases hx with rfl
    · exact ⟨Tryd.g14, Tryd.t14⟩) h0 r0
  obtain ⟨a, ha⟩ : ∃ a, ads[0]? = some a := ⟨ads[0]'(by rw [h1]; simp), List.getElem?_eq_getElem _⟩
  exact ⟨a, h2 0 _ a rfl ha⟩
end Go.Proofs.YthkidoplmbekbaaDoor
/- A list of edges, and a system, that came in, out of their reading. -/
namespace Go.Proofs.YthkidoplmbekbaaDoor
open Go.ChangeShapes Go.WideShapes Go.ChangeAt Go.WideMaps Go.WideElems Go.RowKit
theorem Tryd.cEdge : Tryd.prog.cellsOf 47 = 3 := by kernel_rfl
theorem Tryd.cSys : Tryd.prog.cellsOf 24 = 4 := by kernel_rfl
theorem Tryd.cIntE : Tryd.prog.cellsOf 3 = 1 := by kernel_rfl
theorem ed_choose {n : Nat} {p : Nat → Sy.Ed → Prop} (h : ∀ i, i < n → ∃ x, p i x) : ∃ f : Nat → Sy.Ed, ∀ i, i < n → p i (f i) := by
  classical
  refine ⟨fun i => if hi : i < n then Classical.choose (h i hi) else (0, 0, 0), fun i hi => ?_⟩
  simp only [hi, dif_pos]
  exact Classical.choose_spec (h i hi)
set_option maxRecDepth 100000 in
theorem edge_in {H : Type} {enc : TypeId × Value → H} {W : World} {fuel i : Nat} {a : Addr} {cs : List Value} {x : DataW H × List MemPlace} (hc : W.cells? 0 (a.add (i * 3)) 3 = some cs) (h : DataW.trod enc Tryd.prog W 0 (fun _ => true) true fuel 47 cs = some x) :
    ∃ z : Sy.Ed, ∀ q u, (BEdges.enc z)[q]? = some u → W.cell? (a.add (i * 3 + q)) = some u := by
  obtain ⟨_, hlen, hcell⟩ := World.cells?_some hc
  obtain ⟨xs, k, hk, _, _, hxl, hf⟩ := DataW.trod_struct Tryd.underlying47 h
  match xs, hxl, cs, hlen with
  | [y0, y1, y2], _, [v0, v1, v2], _ =>
    have g0 := hf 0 _ rfl
    have g1 := hf 1 _ rfl
    have g2 := hf 2 _ rfl
    simp [Tryd.cIntE] at g0 g1 g2
    obtain ⟨z0, e0, _⟩ := DataW.trod_int Tryd.underlying3 g0
    obtain ⟨z1, e1, _⟩ := DataW.trod_int Tryd.underlying3 g1
    obtain ⟨z2, e2, _⟩ := DataW.trod_int Tryd.underlying3 g2
    obtain rfl : v0 = .int .i64 z0 := by simpa using e0
    obtain rfl : v1 = .int .i64 z1 := by simpa using e1
    obtain rfl : v2 = .int .i64 z2 := by simpa using e2
    have c0 := hcell 0 (by omega)
    have c1 := hcell 1 (by omega)
    have c2 := hcell 2 (by omega)
    rw [Go.Deep.add_add] at c0 c1 c2
    refine ⟨(z0, z1, z2), fun q u hq => ?_⟩
    match q, hq with
    | 0, hq => cases hq; simpa using c0
    | 1, hq => cases hq; simpa using c1
    | 2, hq => cases hq; simpa using c2
    | q + 3, hq => simp [BEdges.enc] at hq
set_option maxRecDepth 100000 in
theorem edges_in {H : Type} {enc : TypeId × Value → H} {W : World} {fuel : Nat} {v : Value} {x : DataW H × List MemPlace} (h : DataW.trod enc Tryd.prog W 0 (fun _ => true) true fuel 22 [v] = some x) : ∃ es, HasE W v es ∧ es.length ≤ maxLen := by
  rcases Go.Deep.open_slice Tryd.underlying22 h with ⟨hc, _⟩ | ⟨a, len, cap, m, n, D, Pl, hc, _, hl, hm, hmm, _, hx⟩
  · obtain rfl : v = .slice none 0 0 := by injection hc
    exact ⟨[], ⟨none, 0, rfl, Nat.le_refl _, none, 0, rfl, fun i s h => by simp [BEdges.C] at h⟩, by simp⟩
  · obtain rfl : v = .slice (some a) len cap := by injection hc
    have hm' : m = cap := by simpa using hmm
    rw [Tryd.cEdge] at hx
    have each : ∀ i, i < len → ∃ z : Sy.Ed, ∀ q u, (BEdges.enc z)[q]? = some u → W.cell? (a.add (i * 3 + q)) = some u := fun i hi => by
      obtain ⟨cs, h1, h2⟩ := hx i (by omega)
      exact edge_in h1 h2
    obtain ⟨f, hf'⟩ := ed_choose each
    have hL : ((List.range len).map f).length = len := by simp
    refine ⟨(List.range len).map f, ⟨some a, cap, by rw [hL], by rw [hL]; omega, some a, cap, by rw [hL], fun j u hj => ⟨a, rfl, ?_⟩⟩, by rw [hL]; omega⟩
    have hj3 : j < len * 3 := by have := (List.getElem?_eq_some_iff.1 hj).1; rw [BEdges.C_len, hL] at this; exact this
    have hi : j / 3 < len := by omega
    have hz : ((List.range len).map f)[j / 3]? = some (f (j / 3)) := by rw [List.getElem?_map, List.getElem?_range hi]; rfl
    have h9 := BEdges.C_at _ _ _ hz (j % 3) (Nat.mod_lt _ (by decide))
    have e9 : j / 3 * 3 + j % 3 = j := by omega
    rw [e9, hj] at h9
    have h8 := hf' (j / 3) hi (j % 3) u h9.symm
    rw [e9] at h8
    exact h8
set_option maxRecDepth 100000 in
theorem has_sys {H : Type} {enc : TypeId × Value → H} {W : World} {base : Nat} {v : Value} {d : DataW H} {ps : List MemPlace} (hok : Value.okWide Tryd.prog W .any base 24 v) (h : DataW.Trod enc Tryd.prog W 0 (fun _ => true) true 24 v d ps) :
    ∃ (n k s : Int) (u : Value) (es : List Sy.Ed), v = sysV n k s u ∧ HasE W u es ∧ es.length ≤ maxLen := by
  obtain ⟨v0, v1, v2, v3, y0, y1, y2, y3, f, rfl, _, _, t0, t1, t2, t3⟩ := Go.Joins.open_agg4 Tryd.underlying24 (by kernel_rfl) Tryd.cSys hok h
  obtain ⟨z0, e0, _⟩ := DataW.trod_int Tryd.underlying3 t0
  obtain ⟨z1, e1, _⟩ := DataW.trod_int Tryd.underlying3 t1
  obtain ⟨z2, e2, _⟩ := DataW.trod_int Tryd.underlying3 t2
  obtain rfl : v0 = .int .i64 z0 := by simpa using e0
  obtain rfl : v1 = .int .i64 z1 := by simpa using e1
  obtain rfl : v2 = .int .i64 z2 := by simpa using e2
  obtain ⟨es, h1, h2⟩ := edges_in t3
  exact ⟨z0, z1, z2, v3, es, rfl, h1, h2⟩
set_option maxRecDepth 100000 in
theorem has_ints {H : Type} {enc : TypeId × Value → H} {W : World} {base : Nat} {v : Value} {d : DataW H} {ps : List MemPlace} (hok : Value.okWide Tryd.prog W .any base 38 v) (h : DataW.Trod enc Tryd.prog W 0 (fun _ => true) true 38 v d ps) : ∃ zs, HasI W v zs ∧ I64s zs := by
  obtain ⟨a0, len0, cap0, rfl⟩ := okWide_slice Tryd.underlying38 hok
  obtain ⟨fuel, hf⟩ := h
  rcases Go.ChangeShapes.open_ints Tryd.underlying38 Tryd.underlying3 Tryd.cIntE hf with ⟨hc, _⟩ | ⟨a, len, cap, zs, hc, _, hl, hm, hlen, _, hcell, hwf⟩
  · have hc' : [Value.slice a0 len0 cap0] = [Value.slice none 0 0] := hc
    injection hc' with hc' _
    injection hc' with h1 h2 h3
    subst h1; subst h2; subst h3
    exact ⟨[], ⟨none, 0, rfl, fun i s h => by simp at h⟩, fun z hz => by simp at hz⟩
  · have hc' : [Value.slice a0 len0 cap0] = [Value.slice (some a) len cap] := hc
    injection hc' with hc' _
    injection hc' with h1 h2 h3
    subst h1; subst h2; subst h3
    have hlen' : zs.length = cap0 := by simpa using hlen
    refine ⟨zs.take len0, ⟨some a, cap0, by simp; omega, fun i z h => ⟨a, rfl, ?_⟩⟩, fun z hz => hwf z (List.mem_of_mem_take hz)⟩
    have hi : i < len0 := by have := (List.getElem?_eq_some_iff.1 h).1; simp at this; omega
    rw [List.getElem?_take_of_lt hi] at h
    rw [hcell i (by omega), List.getD_eq_getElem?_getD, h]; rfl
end Go.Proofs.YthkidoplmbekbaaDoor
