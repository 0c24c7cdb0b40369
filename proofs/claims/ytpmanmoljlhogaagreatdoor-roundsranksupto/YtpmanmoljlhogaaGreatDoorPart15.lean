/- Texts of this claim, joined: RoDHand, RoAlive, RoLawRank, RoLawAll, RoLawRanks. -/
import Derived.Test.YtpmanmoljlhogaaGreatDoorPart8
import Derived.Test.YtpmanmoljlhogaaGreatDoorPart6
import Derived.Test.YtpmanmoljlhogaaGreatDoorPart9
import Derived.Test.YtpmanmoljlhogaaGreatDoorPart11
import Derived.Test.YtpmanmoljlhogaaGreatDoorPart14
/- Contracts of what the document tells of a system that is none, and of the law's Light. -/
namespace Go.Proofs.YtpmanmoljlhogaaGreatDoor
open Go.RowKit Go.Maps
attribute [local go_sem ↓] Go.wp_at_zero Go.wp_at_succ
def rndB1 : ByteArray := ⟨#[114, 111, 117, 110, 100, 115, 32]⟩
def rndB2 : ByteArray := ⟨#[114, 111, 117, 110, 100, 115, 32, 115, 121, 115, 116, 101, 109, 32]⟩
theorem rnd_join1 : joinS ⟨#[]⟩ [rndB] = rndB1 := by decide
theorem rnd_join2 : joinS ⟨#[]⟩ [rndB, sysB] = rndB2 := by decide
/-- The document's error at a call of this layer. -/
def hndV (ok : Bool) : Value := if ok then .agg #[.int .i64 0, .int .i64 0, .int .i64 0, .string ⟨#[]⟩] else .agg #[.int .i64 14, .int .i64 0, .int .i64 0, .string rndB2]
set_option maxHeartbeats 1000000 in
theorem badRnd (k : Int) (w : World) : Calls Tryz.prog 18 #[.string ⟨#[114, 111, 117, 110, 100, 115]⟩, .int .i64 k] w fun e w' => e = .returned (.agg #[.int .i64 k, .int .i64 0, .int .i64 0, .string rndB1]) ∧ Below w.heap.size w w' := by
  have zs : (⟨#[114, 111, 117, 110, 100, 115]⟩ ++ ⟨#[32]⟩ : ByteArray) = rndB1 := by decide
  go_enter Tryz.func18, Tryz.ntmps18
  go_wp2
  exact bodyPost_ret (v := .agg #[.int .i64 k, .int .i64 0, .int .i64 0, .string rndB1]) (by simp [results, Tryz.results18, go_sem]) rfl ⟨rfl, (Below.refl _ _).alloc (Nat.le_refl _) _⟩
set_option maxRecDepth 100000 in
set_option maxHeartbeats 2000000 in
theorem on_rnd (ok : Bool) (w : World) : Calls Tryz.prog 29 #[.string ⟨#[114, 111, 117, 110, 100, 115]⟩, chkV ok] w fun e w' => e = .returned (hndV ok) ∧ Below w.heap.size w w' := by
  cases ok with
  | true =>
    show Calls Tryz.prog 29 #[.string ⟨#[114, 111, 117, 110, 100, 115]⟩, .agg #[.int .i64 0, .int .i64 0, .int .i64 0, .string ⟨#[]⟩]] w fun e w' => e = .returned (.agg #[.int .i64 0, .int .i64 0, .int .i64 0, .string ⟨#[]⟩]) ∧ Below w.heap.size w w'
    go_enter Tryz.func29, Tryz.ntmps29
    go_wp2
    refine bodyPost_ret (v := .agg #[.int .i64 0, .int .i64 0, .int .i64 0, .string ⟨#[]⟩]) (by simp [results, Tryz.results29, go_sem]) rfl ⟨rfl, ?_⟩
    first
      | exact ((Below.refl _ _).alloc (Nat.le_refl _) _).alloc (by simp) _
      | exact four_below (((Below.refl _ _).alloc (Nat.le_refl _) _).alloc (by simp) _) (by simp) _ _ _ _
  | false =>
    have zs : (⟨#[114, 111, 117, 110, 100, 115]⟩ ++ ⟨#[32]⟩ : ByteArray) = rndB1 := by decide
    have zt : rndB1 ++ sysB1 = rndB2 := by decide
    show Calls Tryz.prog 29 #[.string ⟨#[114, 111, 117, 110, 100, 115]⟩, .agg #[.int .i64 14, .int .i64 0, .int .i64 0, .string sysB1]] w fun e w' => e = .returned (.agg #[.int .i64 14, .int .i64 0, .int .i64 0, .string rndB2]) ∧ Below w.heap.size w w'
    go_enter Tryz.func29, Tryz.ntmps29
    go_wp2
    refine bodyPost_ret (v := .agg #[.int .i64 14, .int .i64 0, .int .i64 0, .string rndB2]) (by simp [results, Tryz.results29, go_sem]) rfl ⟨rfl, ?_⟩
    first
      | exact ((Below.refl _ _).alloc (Nat.le_refl _) _).alloc (by simp) _
      | exact (((Below.refl _ _).alloc (Nat.le_refl _) _).alloc (by simp) _).setCell (by simp) _
      | exact four_below (((((Below.refl _ _).alloc (Nat.le_refl _) _).alloc (by simp) _)).setCell (by simp) _) (by simp) _ _ _ _
set_option maxRecDepth 100000 in
set_option maxHeartbeats 2000000 in
theorem handed_rnd (n k s : Int) (v : Value) (es : List Sy.Ed) (w : World) (hv : BEdges.Has w v es) :
    Calls Tryz.prog 10 #[.string ⟨#[114, 111, 117, 110, 100, 115]⟩, sysV n k s v] w fun e w' => e = .returned (hndV (Sy.right n k s es)) ∧ Below w.heap.size w w' := by
  obtain ⟨w1, hw1⟩ : ∃ w1, w1 = (w.alloc (.cells #[.int .i64 n, .int .i64 k, .int .i64 s, v] 24)).alloc (.cells #[.int .i64 0, .int .i64 0, .int .i64 0, .string ⟨#[]⟩] 42) := ⟨_, rfl⟩
  have hb1 : Below w.heap.size w w1 := by rw [hw1]; exact ((Below.refl _ _).alloc (Nat.le_refl _) _).alloc (by simp) _
  have hR := refCheck_any n k s v es w1 (hv.below hb1)
  have hg : w1.heap[w.heap.size + 1]? = some (.cells #[.int .i64 0, .int .i64 0, .int .i64 0, .string ⟨#[]⟩] 42 (0, 0)) := by rw [hw1]; exact two_alloc w _ _
  obtain ⟨ok, hok⟩ : ∃ ok, ok = Sy.right n k s es := ⟨_, rfl⟩
  rw [← hok] at hR ⊢
  have H1 : Hid _ := And.intro hR (And.intro hb1 (And.intro hg hw1))
  obtain ⟨ao, cap, rfl, _⟩ := hv
  clear hR hb1 hg hw1 hok
  unfold sysV at H1 ⊢
  go_enter Tryz.func10, Tryz.ntmps10
  go_wp2_with fail
  rw [← H1.out.2.2.2]
  refine Calls.mono H1.out.1 ?_
  rintro e w2 ⟨rfl, hb2⟩
  have H2 : Hid (Below w1.heap.size w1 w2) := hb2
  clear hb2
  go_wp2_with fail
  refine Calls.mono (on_rnd ok w2) ?_
  rintro e w3 ⟨rfl, hb3⟩
  have hb13 := bel6 hb3 H2.out
  have hg2 := (hb13.block _ (t_lt H1.out.2.2.1)).trans H1.out.2.2.1
  obtain ⟨y0, y1, y2, y3⟩ := four_cells hg2
  have z0 := blk_free hg2 0
  have z1 := blk_free hg2 1
  have z2 := blk_free hg2 2
  have z3 := blk_free hg2 3
  have H3 : Hid _ := And.intro (bel6 hb13 H1.out.2.1) hg2
  clear hb3 hb13 hg2
  cases ok with
  | true =>
    rw [show hndV true = .agg #[.int .i64 0, .int .i64 0, .int .i64 0, .string ⟨#[]⟩] from rfl]
    go_wp2_with fail
    have hgf := four_set (a0 := .int .i64 0) (a1 := .int .i64 0) (a2 := .int .i64 0) (a3 := .string ⟨#[]⟩) H3.out.2
    have hbf := four_below H3.out.1 (b := w.heap.size + 1) (by omega) (.int .i64 0) (.int .i64 0) (.int .i64 0) (.string ⟨#[]⟩)
    generalize ((((w3.setCell ⟨w.heap.size + 1, 0, none⟩ (.int .i64 0)).setCell ⟨w.heap.size + 1, 1, none⟩ (.int .i64 0)).setCell ⟨w.heap.size + 1, 2, none⟩ (.int .i64 0)).setCell ⟨w.heap.size + 1, 3, none⟩ (.string ⟨#[]⟩)) = wf at hgf hbf ⊢
    obtain ⟨c0, c1, c2, c3⟩ := four_cells hgf
    exact bodyPost_ret (v := .agg #[.int .i64 0, .int .i64 0, .int .i64 0, .string ⟨#[]⟩]) (by simp [results, Tryz.results10, go_sem, c0, c1, c2, c3]) rfl ⟨rfl, hbf⟩
  | false =>
    rw [show hndV false = .agg #[.int .i64 14, .int .i64 0, .int .i64 0, .string rndB2] from rfl]
    go_wp2_with fail
    have hgf := four_set (a0 := .int .i64 14) (a1 := .int .i64 0) (a2 := .int .i64 0) (a3 := .string rndB2) H3.out.2
    have hbf := four_below H3.out.1 (b := w.heap.size + 1) (by omega) (.int .i64 14) (.int .i64 0) (.int .i64 0) (.string rndB2)
    generalize ((((w3.setCell ⟨w.heap.size + 1, 0, none⟩ (.int .i64 14)).setCell ⟨w.heap.size + 1, 1, none⟩ (.int .i64 0)).setCell ⟨w.heap.size + 1, 2, none⟩ (.int .i64 0)).setCell ⟨w.heap.size + 1, 3, none⟩ (.string rndB2)) = wf at hgf hbf ⊢
    obtain ⟨c0, c1, c2, c3⟩ := four_cells hgf
    exact bodyPost_ret (v := .agg #[.int .i64 14, .int .i64 0, .int .i64 0, .string rndB2]) (by simp [results, Tryz.results10, go_sem, c0, c1, c2, c3]) rfl ⟨rfl, hbf⟩
/-- Is a system light? -/
def lightB (n : Int) (m : Nat) (ok : Bool) : Bool := decide (n ≤ 200) && decide (m ≤ 1500) || !ok && decide (m ≤ 11000)
set_option maxRecDepth 100000 in
set_option maxHeartbeats 2000000 in
theorem light_any (n k s : Int) (v : Value) (es : List Sy.Ed) (w : World) (hv : BEdges.Has w v es) :
    Calls Tryz.prog 8 #[sysV n k s v] w fun e w' => e = .returned (.bool (lightB n es.length (Sy.right n k s es))) ∧ Below w.heap.size w w' := by
  obtain ⟨w1, hw1⟩ : ∃ w1, w1 = w.alloc (.cells #[.int .i64 n, .int .i64 k, .int .i64 s, v] 24) := ⟨_, rfl⟩
  have hb1 : Below w.heap.size w w1 := by rw [hw1]; exact (Below.refl _ _).alloc (Nat.le_refl _) _
  have hg1 : w1.heap[w.heap.size]? = some (.cells #[.int .i64 n, .int .i64 k, .int .i64 s, v] 24 (0, 0)) := by rw [hw1]; exact heap_alloc_new w _
  have hR := right_any n k s v es w1 (hv.below hb1)
  obtain ⟨ok, hok⟩ : ∃ ok, ok = Sy.right n k s es := ⟨_, rfl⟩
  obtain ⟨m, hm⟩ : ∃ m, m = es.length := ⟨_, rfl⟩
  obtain ⟨ao, cap, rfl, _⟩ := hv
  rw [← hok] at hR ⊢
  rw [← hm] at hR hw1 hg1 ⊢
  have H1 : Hid _ := And.intro hR (And.intro hb1 (And.intro hw1 hg1))
  obtain ⟨x0, x1, x2, x3⟩ := four_cells hg1
  clear hR hb1 hw1 hok hm hg1
  unfold sysV at H1 ⊢
  by_cases h1 : n ≤ 200
  · by_cases h2 : m ≤ 1500
    · have e1 : decide (n ≤ 200) = true := decide_eq_true h1
      have e2 : decide (m ≤ 1500) = true := decide_eq_true h2
      have e3 : decide ((m : Int) ≤ 1500) = true := by simp; omega
      have e4 : lightB n m ok = true := by unfold lightB; rw [e1, e2]; rfl
      rw [e4]
      clear h1 h2 e4
      go_enter Tryz.func8, Tryz.ntmps8
      go_upto_region 1 with fail
      rw [← H1.out.2.2.1]
      go_wp2_with fail
      go_ret
      exact ⟨rfl, H1.out.2.1⟩
    · have e1 : decide (n ≤ 200) = true := decide_eq_true h1
      have e2 : decide (m ≤ 1500) = false := decide_eq_false h2
      have e3 : decide ((m : Int) ≤ 1500) = false := by simp; omega
      cases ok with
      | true =>
        have e4 : lightB n m true = false := by unfold lightB; rw [e1, e2]; rfl
        rw [e4]
        clear h1 h2 e4
        go_enter Tryz.func8, Tryz.ntmps8
        go_upto_region 1 with fail
        rw [← H1.out.2.2.1]
        go_wp2_with fail
        refine Calls.mono H1.out.1 ?_
        rintro r w2 ⟨rfl, hb2⟩
        have HB : Hid (Below w1.heap.size w1 w2) := hb2
        clear hb2
        go_wp2_with fail
        go_ret
        exact ⟨rfl, bel6 HB.out H1.out.2.1⟩
      | false =>
        have e4 : lightB n m false = decide ((m : Int) ≤ 11000) := by unfold lightB; rw [e1, e2]; simp; omega
        rw [e4]
        clear h1 h2 e4
        go_enter Tryz.func8, Tryz.ntmps8
        go_upto_region 1 with fail
        rw [← H1.out.2.2.1]
        go_wp2_with fail
        refine Calls.mono H1.out.1 ?_
        rintro r w2 ⟨rfl, hb2⟩
        obtain ⟨y0, y1, y2, y3⟩ := four_cells (res_up6 hb2 H1.out.2.2.2)
        have HB : Hid (Below w1.heap.size w1 w2) := hb2
        clear hb2
        go_wp2_with fail
        go_ret
        exact ⟨rfl, bel6 HB.out H1.out.2.1⟩
  · have e1 : decide (n ≤ 200) = false := decide_eq_false h1
    have e2 : decide (m ≤ 1500) = decide (m ≤ 1500) := rfl
    have h2 : True := trivial
    cases ok with
    | true =>
      have e4 : lightB n m true = false := by unfold lightB; rw [e1]; simp
      rw [e4]
      clear h1 h2 e4
      go_enter Tryz.func8, Tryz.ntmps8
      go_upto_region 1 with fail
      rw [← H1.out.2.2.1]
      go_wp2_with fail
      refine Calls.mono H1.out.1 ?_
      rintro r w2 ⟨rfl, hb2⟩
      have HB : Hid (Below w1.heap.size w1 w2) := hb2
      clear hb2
      go_wp2_with fail
      go_ret
      exact ⟨rfl, bel6 HB.out H1.out.2.1⟩
    | false =>
      have e4 : lightB n m false = decide ((m : Int) ≤ 11000) := by unfold lightB; rw [e1]; simp; omega
      rw [e4]
      clear h1 h2 e4
      go_enter Tryz.func8, Tryz.ntmps8
      go_upto_region 1 with fail
      rw [← H1.out.2.2.1]
      go_wp2_with fail
      refine Calls.mono H1.out.1 ?_
      rintro r w2 ⟨rfl, hb2⟩
      obtain ⟨y0, y1, y2, y3⟩ := four_cells (res_up6 hb2 H1.out.2.2.2)
      have HB : Hid (Below w1.heap.size w1 w2) := hb2
      clear hb2
      go_wp2_with fail
      go_ret
      exact ⟨rfl, bel6 HB.out H1.out.2.1⟩
end Go.Proofs.YtpmanmoljlhogaaGreatDoor
/- Contract of the law's alive of chapter 10: first calls whose answers the document fixes. -/
namespace Go.Proofs.YtpmanmoljlhogaaGreatDoor
open Go.RowKit Go.Maps
attribute [local go_sem ↓] Go.wp_at_zero Go.wp_at_succ
def esT : List Sy.Ed := [(0, 1, 1), (1, 1, 2), (3, 1, 2)]
theorem esT_right : Sy.right ((4 : Nat) : Int) 2 0 esT = true := by decide
theorem esT_last : Ro.Last 4 (outOf 4 esT) 2 := by
  refine ⟨by decide, fun j hj => ?_⟩
  match j, hj with
  | 0, _ => decide
  | 1, _ => decide
theorem esT_rank : Ro.rank 4 (outOf 4 esT) 2 0 1 = 2 := by decide
theorem esT_has (w : World) : BEdges.Has (w.alloc (.cells #[.int .i64 0, .int .i64 1, .int .i64 1, .int .i64 1, .int .i64 1, .int .i64 2, .int .i64 3, .int .i64 1, .int .i64 2] 66)) (.slice (some ⟨w.heap.size, 0, none⟩) 3 3) esT := by
  refine ⟨some ⟨w.heap.size, 0, none⟩, 3, rfl, fun j u hj => ⟨_, rfl, ?_⟩⟩
  rw [addz]
  refine cell0_of (heap_alloc_new w _) ?_
  rw [← Array.getElem?_toList]
  exact hj
def PAl (w : World) : Prop := ∀ W, Below w.heap.size w W → Calls Tryz.prog 9 #[] W fun r w' => r = .returned (.bool true) ∧ Below W.heap.size W w'
set_option maxRecDepth 100000 in
set_option maxHeartbeats 4000000 in
theorem pAl (hS : SortOk 1000000) (e : Nat → Addr) (w : World) (hE0 : ErR w e) (hP0 : Pow w) : PAl w := fun W hb => by
  have hE := hE0.below hb
  have hP := hP0.below hb
  clear hE0 hP0 hb
  obtain ⟨w1, hw1⟩ : ∃ w1, w1 = W.alloc (.cells #[.int .i64 0, .int .i64 1, .int .i64 1, .int .i64 1, .int .i64 1, .int .i64 2, .int .i64 3, .int .i64 1, .int .i64 2] 66) := ⟨_, rfl⟩
  have hb1 : Below W.heap.size W w1 := by rw [hw1]; exact (Below.refl _ _).alloc (Nat.le_refl _) _
  have hv := esT_has W
  rw [← hw1] at hv
  obtain ⟨w2, hw2⟩ : ∃ w2, w2 = w1.alloc (.cells #[.int .i64 4, .int .i64 2, .int .i64 0, .slice (some ⟨W.heap.size, 0, none⟩) 3 3] 24) := ⟨_, rfl⟩
  have hb2 : Below w1.heap.size w1 w2 := by rw [hw2]; exact (Below.refl _ _).alloc (Nat.le_refl _) _
  have hg2 : w2.heap[w1.heap.size]? = some (.cells #[.int .i64 4, .int .i64 2, .int .i64 0, .slice (some ⟨W.heap.size, 0, none⟩) 3 3] 24 (0, 0)) := by rw [hw2]; exact heap_alloc_new w1 _
  have hbW := bel6 hb2 hb1
  have hAll := all_ok hS 4 2 0 (.slice (some ⟨W.heap.size, 0, none⟩) 3 3) esT (e 14) w2 ((hE.below hbW).s14 (by decide)) (hP.below hbW) (hv.below hb2) (by decide) esT_right
  unfold sysV at hAll
  have hsz : w1.heap.size = W.heap.size + 1 := by rw [hw1]; simp
  have H1 : Hid _ := And.intro hw2 (And.intro hw1 (And.intro hg2 (And.intro hAll (And.intro hbW (And.intro hE (And.intro hP (hv.below hb2)))))))
  obtain ⟨x0, x1, x2, x3⟩ := four_cells hg2
  clear hw1 hb1 hv hw2 hb2 hg2 hbW hAll hE hP
  go_enter Tryz.func9, Tryz.ntmps9
  go_upto_region 2 with fail
  rw [← H1.out.2.1, ← H1.out.1]
  rw [hsz] at x0 x1 x2 x3
  go_wp2_with fail
  refine Calls.mono H1.out.2.2.2.1 ?_
  rintro r w3 ⟨u3, xs, R, rfl, hR, hxl, hO3, hRw, hb3⟩
  obtain rfl : R = 2 := hR.unique esT_last
  obtain ⟨a3, c3, hu3⟩ := row_shape hO3
  rw [hxl] at hu3
  subst hu3
  have hbW3 := bel6 hb3 H1.out.2.2.2.2.1
  have hRk := rank_ok hS 4 0 1 2 0 (.slice (some ⟨W.heap.size, 0, none⟩) 3 3) esT e w3 (H1.out.2.2.2.2.2.1.below hbW3) (H1.out.2.2.2.2.2.2.1.below hbW3) (H1.out.2.2.2.2.2.2.2.below hb3) (by decide) esT_right (by decide) (by decide)
  unfold sysV at hRk
  have hg3 := res_up6 hb3 H1.out.2.2.1
  rw [hsz] at hg3
  have H3 : Hid _ := And.intro hRk hbW3
  clear x0 x1 x2 x3 hR hxl hO3 hRw hb3 hbW3 hRk
  obtain ⟨x0, x1, x2, x3⟩ := four_cells hg3
  clear hg3
  go_wp2_with fail
  refine Calls.mono H3.out.1 ?_
  rintro r w4 ⟨R, hR, rfl, hb4⟩
  obtain rfl : R = 2 := hR.unique esT_last
  rw [esT_rank]
  have H4 : Hid _ := bel6 hb4 H3.out.2
  clear hR hb4 x0 x1 x2 x3
  go_wp2_with fail
  go_ret
  exact ⟨rfl, H4.out⟩
end Go.Proofs.YtpmanmoljlhogaaGreatDoor
/- RoundsRank as a call: for every system and all states the statement answers true. -/
namespace Go.Proofs.YtpmanmoljlhogaaGreatDoor
open Go.RowKit Go.Maps
attribute [local go_sem ↓] Go.wp_at_zero Go.wp_at_succ
theorem box_new (w : World) (a0 a1 a2 a3 : Value) (t : TypeId) : Below w.heap.size w (w.alloc (.cells #[a0, a1, a2, a3] t)) := (Below.refl _ _).alloc (Nat.le_refl _) _
set_option maxRecDepth 100000 in
set_option maxHeartbeats 4000000 in
theorem lawRank_out (n k s p q : Int) (v : Value) (es : List Sy.Ed) (w : World) (hA : PAl w) (hv : HasE w v es) (hli : lightB n es.length (Sy.right n k s es) = false) :
    Calls Tryz.prog 4 #[sysV n k s v, .int .i64 p, .int .i64 q] w fun r w' => r = .returned (.bool true) ∧ Below w.heap.size w w' := by
  have hvs := hv
  obtain ⟨ao, cap, rfl, hcap, hH⟩ := hvs
  obtain ⟨L, hL⟩ : ∃ L, L = es.length := ⟨_, rfl⟩
  obtain ⟨w1, hw1⟩ : ∃ w1, w1 = w.alloc (.cells #[.int .i64 n, .int .i64 k, .int .i64 s, .slice ao L cap] 24) := ⟨_, rfl⟩
  have hb1 : Below w.heap.size w w1 := by rw [hw1]; exact (Below.refl _ _).alloc (Nat.le_refl _) _
  have hg1 : w1.heap[w.heap.size]? = some (.cells #[.int .i64 n, .int .i64 k, .int .i64 s, .slice ao L cap] 24 (0, 0)) := by rw [hw1]; exact heap_alloc_new w _
  have hLt := light_any n k s _ es w1 (hH.below hb1)
  rw [hli] at hLt
  rw [← hL] at hLt ⊢
  unfold sysV at hLt ⊢
  have H1 : Hid _ := And.intro hw1 (And.intro hb1 (And.intro hLt hA))
  obtain ⟨x0, x1, x2, x3⟩ := four_cells hg1
  clear hA hv hH hcap hL hw1 hb1 hg1 hLt hli
  go_enter Tryz.func4, Tryz.ntmps4
  go_upto_region 1 with fail
  rw [← H1.out.1]
  go_wp2_with fail
  refine Calls.mono H1.out.2.2.1 ?_
  rintro r w2 ⟨rfl, hb2⟩
  have H2 : Hid (Below w.heap.size w w2) := bel6 hb2 H1.out.2.1
  clear hb2
  go_wp2_with fail
  refine Calls.mono (H1.out.2.2.2 _ H2.out) ?_
  rintro r w3 ⟨rfl, hb3⟩
  have H3 : Hid (Below w.heap.size w w3) := bel6 hb3 H2.out
  clear hb3
  go_wp2_with fail
  go_ret
  exact ⟨rfl, H3.out⟩
set_option maxRecDepth 100000 in
set_option maxHeartbeats 8000000 in
theorem lawRank_bad (hS : SortOk 1000000) (n k s p q : Int) (v : Value) (es : List Sy.Ed) (e : Nat → Addr) (w : World) (hA : PAl w) (hE : Er 19 w e) (hv : HasE w v es) (hlen : es.length ≤ 11000) (hq : Sy.right n k s es = false) (hli : lightB n es.length (Sy.right n k s es) = true)  :
    Calls Tryz.prog 4 #[sysV n k s v, .int .i64 p, .int .i64 q] w fun r w' => r = .returned (.bool true) ∧ Below w.heap.size w w' := by
  have hvs := hv
  obtain ⟨ao, cap, rfl, hcap, hH⟩ := hvs
  obtain ⟨L, hL⟩ : ∃ L, L = es.length := ⟨_, rfl⟩
  obtain ⟨w1, hw1⟩ : ∃ w1, w1 = w.alloc (.cells #[.int .i64 n, .int .i64 k, .int .i64 s, .slice ao L cap] 24) := ⟨_, rfl⟩
  have hb1 : Below w.heap.size w w1 := by rw [hw1]; exact (Below.refl _ _).alloc (Nat.le_refl _) _
  have hg1 : w1.heap[w.heap.size]? = some (.cells #[.int .i64 n, .int .i64 k, .int .i64 s, .slice ao L cap] 24 (0, 0)) := by rw [hw1]; exact heap_alloc_new w _
  have hLt := light_any n k s _ es w1 (hH.below hb1)
  rw [hli] at hLt
  have hRk := fun W (hb : Below w1.heap.size w1 W) => rank_bad hS n k s p q _ es e W ((hE.below hb1).below hb) ((hH.below hb1).below hb) (by omega) hq
  have hHd := fun W (hb : Below w1.heap.size w1 W) => handed_rnd n k s _ es W ((hH.below hb1).below hb)
  rw [hq] at hHd
  rw [← hL] at hLt hRk hHd ⊢
  unfold sysV at hLt hRk hHd ⊢
  have H1 : Hid _ := And.intro hw1 (And.intro hb1 (And.intro hLt (And.intro hA (And.intro hRk (And.intro hHd (And.intro hE hg1))))))
  obtain ⟨x0, x1, x2, x3⟩ := four_cells hg1
  clear hA hE hv hH hcap hL hw1 hb1 hg1 hLt hRk hHd hli hq hlen
  go_enter Tryz.func4, Tryz.ntmps4
  go_upto_region 1 with fail
  rw [← H1.out.1]
  go_wp2_with fail
  refine Calls.mono H1.out.2.2.1 ?_
  rintro r w2 ⟨rfl, hb2⟩
  clear x0 x1 x2 x3
  obtain ⟨x0, x1, x2, x3⟩ := four_cells (res_up6 hb2 H1.out.2.2.2.2.2.2.2)
  have H2 : Hid (Below w1.heap.size w1 w2) := hb2
  clear hb2
  go_wp2_with fail
  refine Calls.mono (H1.out.2.2.2.2.1 _ H2.out) ?_
  rintro r w3 ⟨bx, rfl, hC3, hb3⟩
  have HC : Hid _ := And.intro hC3 trivial
  clear hC3
  have hb13 := bel6 hb3 H2.out
  clear x0 x1 x2 x3
  obtain ⟨x0, x1, x2, x3⟩ := four_cells (res_up6 hb13 H1.out.2.2.2.2.2.2.2)
  have H3 : Hid (Below w1.heap.size w1 w3) := hb13
  clear hb3 hb13
  go_wp2_with fail
  refine Calls.mono (H1.out.2.2.2.2.2.1 _ H3.out) ?_
  rintro r w4 ⟨rfl, hb4⟩
  have hb14 := bel6 hb4 H3.out
  rw [show hndV false = .agg #[.int .i64 14, .int .i64 0, .int .i64 0, .string rndB2] from rfl]
  have H4 : Hid _ := And.intro hb4 hb14
  clear hb4 hb14 x0 x1 x2 x3
  go_upto_region 5 with fail
  obtain ⟨w5, hw5⟩ : ∃ w5, w5 = w4.alloc (.cells #[.int .i64 14, .int .i64 0, .int .i64 0, .string rndB2] 42) := ⟨_, rfl⟩
  have hb5 : Below w4.heap.size w4 w5 := by rw [hw5]; exact box_new _ _ _ _ _ _
  have hg5 : w5.heap[w4.heap.size]? = some (.cells #[.int .i64 14, .int .i64 0, .int .i64 0, .string rndB2] 42 (0, 0)) := by rw [hw5]; exact heap_alloc_new w4 _
  rw [← hw5]
  obtain ⟨y0, y1, y2, y3⟩ := four_cells hg5
  obtain ⟨x0, x1, x2, x3⟩ := four_cells (res_up6 (bel6 hb5 H4.out.2) H1.out.2.2.2.2.2.2.2)
  have H5 : Hid _ := And.intro (bel6 hb5 H4.out.2) (And.intro (bel6 hb5 H4.out.1) hg5)
  clear hb5 hg5 hw5
  go_wp2_with fail
  refine Calls.mono (H1.out.2.2.2.1 _ (bel6 H5.out.1 H1.out.2.1)) ?_
  rintro r w6 ⟨rfl, hb6⟩
  have hb16 := bel6 hb6 H5.out.1
  have hT := told_chain 14 (by decide) (by decide) (by decide) _ _ 0 0 e w6 ((H1.out.2.2.2.2.2.2.1.below H1.out.2.1).below hb16) (HC.out.1.below (bel6 hb6 H5.out.2.1)) (by decide) (by decide)
  rw [rnd_join2] at hT
  clear x0 x1 x2 x3 y0 y1 y2 y3
  obtain ⟨y0, y1, y2, y3⟩ := four_cells (res_up6 hb6 H5.out.2.2)
  have H6 : Hid _ := And.intro hT hb16
  clear hT hb6 hb16
  go_wp2_with fail
  refine Calls.mono H6.out.1 ?_
  rintro r w7 ⟨rfl, hb7⟩
  have H7 : Hid (Below w.heap.size w w7) := bel6 (bel6 hb7 H6.out.2) H1.out.2.1
  clear hb7
  go_wp2_with fail
  go_ret
  exact ⟨rfl, H7.out⟩
set_option maxRecDepth 100000 in
set_option maxHeartbeats 8000000 in
theorem lawRank_idx (hS : SortOk 1000000) (m : Nat) (k s p q : Int) (v : Value) (es : List Sy.Ed) (e : Nat → Addr) (w : World) (hA : PAl w) (hE : Er 19 w e) (hv : HasE w v es) (hlen : es.length ≤ 11000) (hq : Sy.right m k s es = true) (hli : lightB m es.length (Sy.right m k s es) = true) (hno : min p q < 0 ∨ (m : Int) ≤ max p q) :
    Calls Tryz.prog 4 #[sysV m k s v, .int .i64 p, .int .i64 q] w fun r w' => r = .returned (.bool true) ∧ Below w.heap.size w w' := by
  have hvs := hv
  obtain ⟨ao, cap, rfl, hcap, hH⟩ := hvs
  obtain ⟨L, hL⟩ : ∃ L, L = es.length := ⟨_, rfl⟩
  obtain ⟨w1, hw1⟩ : ∃ w1, w1 = w.alloc (.cells #[.int .i64 m, .int .i64 k, .int .i64 s, .slice ao L cap] 24) := ⟨_, rfl⟩
  have hb1 : Below w.heap.size w w1 := by rw [hw1]; exact (Below.refl _ _).alloc (Nat.le_refl _) _
  have hg1 : w1.heap[w.heap.size]? = some (.cells #[.int .i64 m, .int .i64 k, .int .i64 s, .slice ao L cap] 24 (0, 0)) := by rw [hw1]; exact heap_alloc_new w _
  have hLt := light_any m k s _ es w1 (hH.below hb1)
  rw [hli] at hLt
  have hRk := fun W (hb : Below w1.heap.size w1 W) => rank_idx hS m k s p q _ es e W ((hE.below hb1).below hb) ((hH.below hb1).below hb) (by omega) hq hno
  have hHd := fun W (hb : Below w1.heap.size w1 W) => handed_rnd m k s _ es W ((hH.below hb1).below hb)
  rw [hq] at hHd
  rw [← hL] at hLt hRk hHd ⊢
  unfold sysV at hLt hRk hHd ⊢
  have H1 : Hid _ := And.intro hw1 (And.intro hb1 (And.intro hLt (And.intro hA (And.intro hRk (And.intro hHd (And.intro hE hg1))))))
  obtain ⟨x0, x1, x2, x3⟩ := four_cells hg1
  clear hA hE hv hH hcap hL hw1 hb1 hg1 hLt hRk hHd hli hq hlen
  go_enter Tryz.func4, Tryz.ntmps4
  go_upto_region 1 with fail
  rw [← H1.out.1]
  go_wp2_with fail
  refine Calls.mono H1.out.2.2.1 ?_
  rintro r w2 ⟨rfl, hb2⟩
  clear x0 x1 x2 x3
  obtain ⟨x0, x1, x2, x3⟩ := four_cells (res_up6 hb2 H1.out.2.2.2.2.2.2.2)
  have H2 : Hid (Below w1.heap.size w1 w2) := hb2
  clear hb2
  go_wp2_with fail
  refine Calls.mono (H1.out.2.2.2.2.1 _ H2.out) ?_
  rintro r w3 ⟨bx, rfl, hC3, hb3⟩
  have HC : Hid _ := And.intro hC3 trivial
  clear hC3
  have hb13 := bel6 hb3 H2.out
  clear x0 x1 x2 x3
  obtain ⟨x0, x1, x2, x3⟩ := four_cells (res_up6 hb13 H1.out.2.2.2.2.2.2.2)
  have H3 : Hid (Below w1.heap.size w1 w3) := hb13
  clear hb3 hb13
  go_wp2_with fail
  refine Calls.mono (H1.out.2.2.2.2.2.1 _ H3.out) ?_
  rintro r w4 ⟨rfl, hb4⟩
  have hb14 := bel6 hb4 H3.out
  rw [show hndV true = .agg #[.int .i64 0, .int .i64 0, .int .i64 0, .string ⟨#[]⟩] from rfl]
  have H4 : Hid _ := And.intro hb4 hb14
  clear hb4 hb14 x0 x1 x2 x3
  go_upto_region 5 with fail
  obtain ⟨w5, hw5⟩ : ∃ w5, w5 = w4.alloc (.cells #[.int .i64 0, .int .i64 0, .int .i64 0, .string ⟨#[]⟩] 42) := ⟨_, rfl⟩
  have hb5 : Below w4.heap.size w4 w5 := by rw [hw5]; exact box_new _ _ _ _ _ _
  have hg5 : w5.heap[w4.heap.size]? = some (.cells #[.int .i64 0, .int .i64 0, .int .i64 0, .string ⟨#[]⟩] 42 (0, 0)) := by rw [hw5]; exact heap_alloc_new w4 _
  rw [← hw5]
  obtain ⟨y0, y1, y2, y3⟩ := four_cells hg5
  obtain ⟨x0, x1, x2, x3⟩ := four_cells (res_up6 (bel6 hb5 H4.out.2) H1.out.2.2.2.2.2.2.2)
  have H5 : Hid _ := And.intro (bel6 hb5 H4.out.2) (And.intro (bel6 hb5 H4.out.1) hg5)
  clear hb5 hg5 hw5
  have z0 := blk_free H5.out.2.2 0
  have z1 := blk_free H5.out.2.2 1
  have z2 := blk_free H5.out.2.2 2
  have z3 := blk_free H5.out.2.2 3
  have hno2 : p < 0 ∨ (0 ≤ p ∧ (m : Int) ≤ p) ∨ (0 ≤ p ∧ p < (m : Int) ∧ q < 0) ∨ (0 ≤ p ∧ p < (m : Int) ∧ 0 ≤ q ∧ (m : Int) ≤ q) := by omega
  clear hno
  rcases hno2 with h1 | ⟨h1, h2⟩ | ⟨h1, h2, h3⟩ | ⟨h1, h2, h3, h4⟩
  · have g1 : decide (p < 0) = true := decide_eq_true h1
    clear h1
    go_wp2_with fail
    refine Calls.mono (badRnd 3 w5) ?_
    rintro r w8 ⟨rfl, hb8⟩
    have hg8 := res_up6 hb8 H5.out.2.2
    clear x0 x1 x2 x3 y0 y1 y2 y3 z0 z1 z2 z3
    have z0 := blk_free hg8 0
    have z1 := blk_free hg8 1
    have z2 := blk_free hg8 2
    have z3 := blk_free hg8 3
    obtain ⟨y0, y1, y2, y3⟩ := four_cells hg8
    have H8 : Hid _ := And.intro hb8 hg8
    clear hb8 hg8
    go_upto_region 7 with fail
    have hg9 := four_set (a0 := .int .i64 3) (a1 := .int .i64 0) (a2 := .int .i64 0) (a3 := .string rndB1) H8.out.2
    have hb9 := four_below (bel6 H8.out.1 H5.out.2.1) (b := w4.heap.size) H4.out.1.size (.int .i64 3) (.int .i64 0) (.int .i64 0) (.string rndB1)
    generalize ((((w8.setCell ⟨w4.heap.size, 0, none⟩ (.int .i64 3)).setCell ⟨w4.heap.size, 1, none⟩ (.int .i64 0)).setCell ⟨w4.heap.size, 2, none⟩ (.int .i64 0)).setCell ⟨w4.heap.size, 3, none⟩ (.string rndB1)) = w9 at hg9 hb9 ⊢
    clear y0 y1 y2 y3 z0 z1 z2 z3
    obtain ⟨y0, y1, y2, y3⟩ := four_cells hg9
    obtain ⟨x0, x1, x2, x3⟩ := four_cells (res_up6 (bel6 hb9 H3.out) H1.out.2.2.2.2.2.2.2)
    have H9 : Hid _ := And.intro hb9 hg9
    clear hb9 hg9
    go_wp2_with fail
    refine Calls.mono (H1.out.2.2.2.1 _ (bel6 (bel6 H9.out.1 H3.out) H1.out.2.1)) ?_
    rintro r w6 ⟨rfl, hb6⟩
    have hb16 := bel6 hb6 (bel6 H9.out.1 H3.out)
    have hT := told_chain 3 (by decide) (by decide) (by decide) _ _ 0 0 e w6 ((H1.out.2.2.2.2.2.2.1.below H1.out.2.1).below hb16) (HC.out.1.below (bel6 hb6 H9.out.1)) (by decide) (by decide)
    rw [rnd_join1] at hT
    clear x0 x1 x2 x3 y0 y1 y2 y3
    obtain ⟨y0, y1, y2, y3⟩ := four_cells (res_up6 hb6 H9.out.2)
    have H6 : Hid _ := And.intro hT hb16
    clear hT hb6 hb16
    go_wp2_with fail
    refine Calls.mono H6.out.1 ?_
    rintro r w7 ⟨rfl, hb7⟩
    have H7 : Hid (Below w.heap.size w w7) := bel6 (bel6 hb7 H6.out.2) H1.out.2.1
    clear hb7
    go_wp2_with fail
    go_ret
    exact ⟨rfl, H7.out⟩
  · have g1 : decide (p < 0) = false := decide_eq_false (by omega)
    have g2 : decide ((m : Int) ≤ p) = true := decide_eq_true h2
    clear h1 h2
    go_wp2_with fail
    refine Calls.mono (badRnd 3 w5) ?_
    rintro r w8 ⟨rfl, hb8⟩
    have hg8 := res_up6 hb8 H5.out.2.2
    clear x0 x1 x2 x3 y0 y1 y2 y3 z0 z1 z2 z3
    have z0 := blk_free hg8 0
    have z1 := blk_free hg8 1
    have z2 := blk_free hg8 2
    have z3 := blk_free hg8 3
    obtain ⟨y0, y1, y2, y3⟩ := four_cells hg8
    have H8 : Hid _ := And.intro hb8 hg8
    clear hb8 hg8
    go_upto_region 7 with fail
    have hg9 := four_set (a0 := .int .i64 3) (a1 := .int .i64 0) (a2 := .int .i64 0) (a3 := .string rndB1) H8.out.2
    have hb9 := four_below (bel6 H8.out.1 H5.out.2.1) (b := w4.heap.size) H4.out.1.size (.int .i64 3) (.int .i64 0) (.int .i64 0) (.string rndB1)
    generalize ((((w8.setCell ⟨w4.heap.size, 0, none⟩ (.int .i64 3)).setCell ⟨w4.heap.size, 1, none⟩ (.int .i64 0)).setCell ⟨w4.heap.size, 2, none⟩ (.int .i64 0)).setCell ⟨w4.heap.size, 3, none⟩ (.string rndB1)) = w9 at hg9 hb9 ⊢
    clear y0 y1 y2 y3 z0 z1 z2 z3
    obtain ⟨y0, y1, y2, y3⟩ := four_cells hg9
    obtain ⟨x0, x1, x2, x3⟩ := four_cells (res_up6 (bel6 hb9 H3.out) H1.out.2.2.2.2.2.2.2)
    have H9 : Hid _ := And.intro hb9 hg9
    clear hb9 hg9
    go_wp2_with fail
    refine Calls.mono (H1.out.2.2.2.1 _ (bel6 (bel6 H9.out.1 H3.out) H1.out.2.1)) ?_
    rintro r w6 ⟨rfl, hb6⟩
    have hb16 := bel6 hb6 (bel6 H9.out.1 H3.out)
    have hT := told_chain 3 (by decide) (by decide) (by decide) _ _ 0 0 e w6 ((H1.out.2.2.2.2.2.2.1.below H1.out.2.1).below hb16) (HC.out.1.below (bel6 hb6 H9.out.1)) (by decide) (by decide)
    rw [rnd_join1] at hT
    clear x0 x1 x2 x3 y0 y1 y2 y3
    obtain ⟨y0, y1, y2, y3⟩ := four_cells (res_up6 hb6 H9.out.2)
    have H6 : Hid _ := And.intro hT hb16
    clear hT hb6 hb16
    go_wp2_with fail
    refine Calls.mono H6.out.1 ?_
    rintro r w7 ⟨rfl, hb7⟩
    have H7 : Hid (Below w.heap.size w w7) := bel6 (bel6 hb7 H6.out.2) H1.out.2.1
    clear hb7
    go_wp2_with fail
    go_ret
    exact ⟨rfl, H7.out⟩
  · have g1 : decide (p < 0) = false := decide_eq_false (by omega)
    have g2 : decide ((m : Int) ≤ p) = false := decide_eq_false (by omega)
    have g3 : decide (q < 0) = true := decide_eq_true h3
    clear h1 h2 h3
    go_wp2_with fail
    refine Calls.mono (badRnd 3 w5) ?_
    rintro r w8 ⟨rfl, hb8⟩
    have hg8 := res_up6 hb8 H5.out.2.2
    clear x0 x1 x2 x3 y0 y1 y2 y3 z0 z1 z2 z3
    have z0 := blk_free hg8 0
    have z1 := blk_free hg8 1
    have z2 := blk_free hg8 2
    have z3 := blk_free hg8 3
    obtain ⟨y0, y1, y2, y3⟩ := four_cells hg8
    have H8 : Hid _ := And.intro hb8 hg8
    clear hb8 hg8
    go_upto_region 7 with fail
    have hg9 := four_set (a0 := .int .i64 3) (a1 := .int .i64 0) (a2 := .int .i64 0) (a3 := .string rndB1) H8.out.2
    have hb9 := four_below (bel6 H8.out.1 H5.out.2.1) (b := w4.heap.size) H4.out.1.size (.int .i64 3) (.int .i64 0) (.int .i64 0) (.string rndB1)
    generalize ((((w8.setCell ⟨w4.heap.size, 0, none⟩ (.int .i64 3)).setCell ⟨w4.heap.size, 1, none⟩ (.int .i64 0)).setCell ⟨w4.heap.size, 2, none⟩ (.int .i64 0)).setCell ⟨w4.heap.size, 3, none⟩ (.string rndB1)) = w9 at hg9 hb9 ⊢
    clear y0 y1 y2 y3 z0 z1 z2 z3
    obtain ⟨y0, y1, y2, y3⟩ := four_cells hg9
    obtain ⟨x0, x1, x2, x3⟩ := four_cells (res_up6 (bel6 hb9 H3.out) H1.out.2.2.2.2.2.2.2)
    have H9 : Hid _ := And.intro hb9 hg9
    clear hb9 hg9
    go_wp2_with fail
    refine Calls.mono (H1.out.2.2.2.1 _ (bel6 (bel6 H9.out.1 H3.out) H1.out.2.1)) ?_
    rintro r w6 ⟨rfl, hb6⟩
    have hb16 := bel6 hb6 (bel6 H9.out.1 H3.out)
    have hT := told_chain 3 (by decide) (by decide) (by decide) _ _ 0 0 e w6 ((H1.out.2.2.2.2.2.2.1.below H1.out.2.1).below hb16) (HC.out.1.below (bel6 hb6 H9.out.1)) (by decide) (by decide)
    rw [rnd_join1] at hT
    clear x0 x1 x2 x3 y0 y1 y2 y3
    obtain ⟨y0, y1, y2, y3⟩ := four_cells (res_up6 hb6 H9.out.2)
    have H6 : Hid _ := And.intro hT hb16
    clear hT hb6 hb16
    go_wp2_with fail
    refine Calls.mono H6.out.1 ?_
    rintro r w7 ⟨rfl, hb7⟩
    have H7 : Hid (Below w.heap.size w w7) := bel6 (bel6 hb7 H6.out.2) H1.out.2.1
    clear hb7
    go_wp2_with fail
    go_ret
    exact ⟨rfl, H7.out⟩
  · have g1 : decide (p < 0) = false := decide_eq_false (by omega)
    have g2 : decide ((m : Int) ≤ p) = false := decide_eq_false (by omega)
    have g3 : decide (q < 0) = false := decide_eq_false (by omega)
    have g4 : decide ((m : Int) ≤ q) = true := decide_eq_true h4
    clear h1 h2 h3 h4
    go_wp2_with fail
    refine Calls.mono (badRnd 3 w5) ?_
    rintro r w8 ⟨rfl, hb8⟩
    have hg8 := res_up6 hb8 H5.out.2.2
    clear x0 x1 x2 x3 y0 y1 y2 y3 z0 z1 z2 z3
    have z0 := blk_free hg8 0
    have z1 := blk_free hg8 1
    have z2 := blk_free hg8 2
    have z3 := blk_free hg8 3
    obtain ⟨y0, y1, y2, y3⟩ := four_cells hg8
    have H8 : Hid _ := And.intro hb8 hg8
    clear hb8 hg8
    go_upto_region 7 with fail
    have hg9 := four_set (a0 := .int .i64 3) (a1 := .int .i64 0) (a2 := .int .i64 0) (a3 := .string rndB1) H8.out.2
    have hb9 := four_below (bel6 H8.out.1 H5.out.2.1) (b := w4.heap.size) H4.out.1.size (.int .i64 3) (.int .i64 0) (.int .i64 0) (.string rndB1)
    generalize ((((w8.setCell ⟨w4.heap.size, 0, none⟩ (.int .i64 3)).setCell ⟨w4.heap.size, 1, none⟩ (.int .i64 0)).setCell ⟨w4.heap.size, 2, none⟩ (.int .i64 0)).setCell ⟨w4.heap.size, 3, none⟩ (.string rndB1)) = w9 at hg9 hb9 ⊢
    clear y0 y1 y2 y3 z0 z1 z2 z3
    obtain ⟨y0, y1, y2, y3⟩ := four_cells hg9
    obtain ⟨x0, x1, x2, x3⟩ := four_cells (res_up6 (bel6 hb9 H3.out) H1.out.2.2.2.2.2.2.2)
    have H9 : Hid _ := And.intro hb9 hg9
    clear hb9 hg9
    go_wp2_with fail
    refine Calls.mono (H1.out.2.2.2.1 _ (bel6 (bel6 H9.out.1 H3.out) H1.out.2.1)) ?_
    rintro r w6 ⟨rfl, hb6⟩
    have hb16 := bel6 hb6 (bel6 H9.out.1 H3.out)
    have hT := told_chain 3 (by decide) (by decide) (by decide) _ _ 0 0 e w6 ((H1.out.2.2.2.2.2.2.1.below H1.out.2.1).below hb16) (HC.out.1.below (bel6 hb6 H9.out.1)) (by decide) (by decide)
    rw [rnd_join1] at hT
    clear x0 x1 x2 x3 y0 y1 y2 y3
    obtain ⟨y0, y1, y2, y3⟩ := four_cells (res_up6 hb6 H9.out.2)
    have H6 : Hid _ := And.intro hT hb16
    clear hT hb6 hb16
    go_wp2_with fail
    refine Calls.mono H6.out.1 ?_
    rintro r w7 ⟨rfl, hb7⟩
    have H7 : Hid (Below w.heap.size w w7) := bel6 (bel6 hb7 H6.out.2) H1.out.2.1
    clear hb7
    go_wp2_with fail
    go_ret
    exact ⟨rfl, H7.out⟩
set_option maxRecDepth 100000 in
set_option maxHeartbeats 8000000 in
theorem lawRank_ok (hS : SortOk 1000000) (m p q : Nat) (k s : Int) (v : Value) (es : List Sy.Ed) (e : Nat → Addr) (w : World) (hA : PAl w) (hE : Er 19 w e) (hP : Pow w) (hv : HasE w v es) (hlen : es.length ≤ 11000) (hq : Sy.right m k s es = true) (hli : lightB m es.length (Sy.right m k s es) = true) (hp : p < m) (hq2 : q < m) :
    Calls Tryz.prog 4 #[sysV m k s v, .int .i64 p, .int .i64 q] w fun r w' => r = .returned (.bool true) ∧ Below w.heap.size w w' := by
  have hvs := hv
  obtain ⟨ao, cap, rfl, hcap, hH⟩ := hvs
  obtain ⟨L, hL⟩ : ∃ L, L = es.length := ⟨_, rfl⟩
  obtain ⟨w1, hw1⟩ : ∃ w1, w1 = w.alloc (.cells #[.int .i64 m, .int .i64 k, .int .i64 s, .slice ao L cap] 24) := ⟨_, rfl⟩
  have hb1 : Below w.heap.size w w1 := by rw [hw1]; exact (Below.refl _ _).alloc (Nat.le_refl _) _
  have hg1 : w1.heap[w.heap.size]? = some (.cells #[.int .i64 m, .int .i64 k, .int .i64 s, .slice ao L cap] 24 (0, 0)) := by rw [hw1]; exact heap_alloc_new w _
  have hLt := light_any m k s _ es w1 (hH.below hb1)
  rw [hli] at hLt
  have hRk := fun W (hb : Below w1.heap.size w1 W) => rank_ok hS m p q k s _ es e W ((hE.below hb1).below hb).toR ((hP.below hb1).below hb) ((hH.below hb1).below hb) (by omega) hq hp hq2
  have hHd := fun W (hb : Below w1.heap.size w1 W) => handed_rnd m k s _ es W ((hH.below hb1).below hb)
  rw [hq] at hHd
  have hRd := fun W (hb : Below w1.heap.size w1 W) => docRounds_any m k s _ es W ((hv.below hb1).below hb) hq
  rw [← hL] at hRd
  unfold sysV at hRd
  have HRd : Hid _ := And.intro hRd trivial
  have hm1 : m ≤ 1000 := by have := (right_parts hq).1; omega
  clear hRd
  rw [← hL] at hLt hRk hHd ⊢
  unfold sysV at hLt hRk hHd ⊢
  have H1 : Hid _ := And.intro hw1 (And.intro hb1 (And.intro hLt (And.intro hA (And.intro hRk (And.intro hHd (And.intro hE hg1))))))
  obtain ⟨x0, x1, x2, x3⟩ := four_cells hg1
  clear hA hE hP hv hH hcap hL hw1 hb1 hg1 hLt hRk hHd hli hq hlen
  go_enter Tryz.func4, Tryz.ntmps4
  go_upto_region 1 with fail
  rw [← H1.out.1]
  go_wp2_with fail
  refine Calls.mono H1.out.2.2.1 ?_
  rintro r w2 ⟨rfl, hb2⟩
  clear x0 x1 x2 x3
  obtain ⟨x0, x1, x2, x3⟩ := four_cells (res_up6 hb2 H1.out.2.2.2.2.2.2.2)
  have H2 : Hid (Below w1.heap.size w1 w2) := hb2
  clear hb2
  go_wp2_with fail
  refine Calls.mono (H1.out.2.2.2.2.1 _ H2.out) ?_
  rintro r w3 ⟨R, hRl, rfl, hb3⟩
  obtain ⟨rk, hrk⟩ : ∃ rk, rk = Ro.rank m (outOf m es) R p q := ⟨_, rfl⟩
  rw [← hrk]
  have HC : Hid _ := And.intro hRl hrk
  clear hRl hrk
  have hb13 := bel6 hb3 H2.out
  clear x0 x1 x2 x3
  obtain ⟨x0, x1, x2, x3⟩ := four_cells (res_up6 hb13 H1.out.2.2.2.2.2.2.2)
  have H3 : Hid (Below w1.heap.size w1 w3) := hb13
  clear hb3 hb13
  go_wp2_with fail
  refine Calls.mono (H1.out.2.2.2.2.2.1 _ H3.out) ?_
  rintro r w4 ⟨rfl, hb4⟩
  have hb14 := bel6 hb4 H3.out
  rw [show hndV true = .agg #[.int .i64 0, .int .i64 0, .int .i64 0, .string ⟨#[]⟩] from rfl]
  have H4 : Hid _ := And.intro hb4 hb14
  clear hb4 hb14 x0 x1 x2 x3
  go_upto_region 5 with fail
  obtain ⟨w5, hw5⟩ : ∃ w5, w5 = w4.alloc (.cells #[.int .i64 0, .int .i64 0, .int .i64 0, .string ⟨#[]⟩] 42) := ⟨_, rfl⟩
  have hb5 : Below w4.heap.size w4 w5 := by rw [hw5]; exact box_new _ _ _ _ _ _
  have hg5 : w5.heap[w4.heap.size]? = some (.cells #[.int .i64 0, .int .i64 0, .int .i64 0, .string ⟨#[]⟩] 42 (0, 0)) := by rw [hw5]; exact heap_alloc_new w4 _
  rw [← hw5]
  obtain ⟨y0, y1, y2, y3⟩ := four_cells hg5
  obtain ⟨x0, x1, x2, x3⟩ := four_cells (res_up6 (bel6 hb5 H4.out.2) H1.out.2.2.2.2.2.2.2)
  have H5 : Hid _ := And.intro (bel6 hb5 H4.out.2) (And.intro (bel6 hb5 H4.out.1) hg5)
  clear hb5 hg5 hw5
  have g1 : decide ((p : Int) < 0) = false := decide_eq_false (by omega)
  have g2 : decide ((m : Int) ≤ (p : Int)) = false := decide_eq_false (by omega)
  have g3 : decide ((q : Int) < 0) = false := decide_eq_false (by omega)
  have g4 : decide ((m : Int) ≤ (q : Int)) = false := decide_eq_false (by omega)
  have g5 : decide (m ≤ p) = false := decide_eq_false (by omega)
  have g6 : decide (m ≤ q) = false := decide_eq_false (by omega)
  have HPQ : Hid _ := And.intro hp hq2
  clear hp hq2
  go_wp2_with fail
  refine Calls.mono (H1.out.2.2.2.1 _ (bel6 H5.out.1 H1.out.2.1)) ?_
  rintro r w6 ⟨rfl, hb6⟩
  have hb16 := bel6 hb6 H5.out.1
  clear x0 x1 x2 x3 y0 y1 y2 y3
  obtain ⟨x0, x1, x2, x3⟩ := four_cells (res_up6 hb16 H1.out.2.2.2.2.2.2.2)
  have H6 : Hid (Below w1.heap.size w1 w6) := hb16
  clear hb6 hb16
  go_wp2_with fail
  refine Calls.mono (HRd.out.1 _ H6.out) ?_
  rintro r w7 ⟨u, xs, R2, rfl, hRl2, hxl, hO7, hW7, hb7⟩
  have hRe : R2 = R := hRl2.unique HC.out.1
  rw [hRe] at hxl
  have hDk := docRank_any m p q R (outOf m es) u xs _ _ w7 hm1 HC.out.1 hxl hO7 hW7 HPQ.out.1 HPQ.out.2
  rw [← HC.out.2] at hDk
  have H7 : Hid _ := And.intro hDk (bel6 hb7 H6.out)
  clear hDk hb7 hO7 hW7 hxl hRe hRl2 x0 x1 x2 x3
  have hee : (rk == rk) = true := by simp
  go_wp2_with fail
  refine Calls.mono H7.out.1 ?_
  rintro r w8 ⟨rfl, hb8⟩
  have H8 : Hid (Below w.heap.size w w8) := bel6 (bel6 hb8 H7.out.2) H1.out.2.1
  clear hb8
  go_wp2_with fail
  go_ret
  exact ⟨rfl, H8.out⟩
theorem lawRank_any (hS : SortOk 1000000) (n k s p q : Int) (v : Value) (es : List Sy.Ed) (e : Nat → Addr) (w : World) (hE : Er 19 w e) (hP : Pow w) (hv : HasE w v es) :
    Calls Tryz.prog 4 #[sysV n k s v, .int .i64 p, .int .i64 q] w fun r w' => r = .returned (.bool true) ∧ Below w.heap.size w w' := by
  have hA := pAl hS e w hE.toR hP
  cases hli : lightB n es.length (Sy.right n k s es) with
  | false => exact lawRank_out n k s p q v es w hA hv hli
  | true =>
    have hlen : es.length ≤ 11000 := by
      unfold lightB at hli
      simp only [Bool.or_eq_true, Bool.and_eq_true, decide_eq_true_eq] at hli
      omega
    cases hq : Sy.right n k s es with
    | false => exact lawRank_bad hS n k s p q v es e w hA hE hv hlen hq hli
    | true =>
      obtain ⟨m, rfl⟩ : ∃ m : Nat, n = (m : Int) := ⟨n.toNat, by have := (right_parts hq).1; omega⟩
      by_cases hno : min p q < 0 ∨ (m : Int) ≤ max p q
      · exact lawRank_idx hS m k s p q v es e w hA hE hv hlen hq hli hno
      · obtain ⟨p', rfl⟩ : ∃ p' : Nat, p = (p' : Int) := ⟨p.toNat, by omega⟩
        obtain ⟨q', rfl⟩ : ∃ q' : Nat, q = (q' : Int) := ⟨q.toNat, by omega⟩
        exact lawRank_ok hS m p' q' k s v es e w hA hE hP hv hlen hq hli (by omega) (by omega)
end Go.Proofs.YtpmanmoljlhogaaGreatDoor
/- RoundsAll as a call: for every system the statement answers true. -/
namespace Go.Proofs.YtpmanmoljlhogaaGreatDoor
open Go.RowKit Go.Maps
attribute [local go_sem ↓] Go.wp_at_zero Go.wp_at_succ
/-- What a call over a system answers from a world on: these rows, and an error that is told so. -/
def AnsR (f : Nat) (sv : Value) (D : List (List Int)) (ev : Value) (w : World) : Prop := ∀ W, Below w.heap.size w W → Calls Tryz.prog f #[sv] W fun r W' => ∃ u x, r = .returned (.tuple #[u, x]) ∧ WIR.RowsRows W' W.heap.size u D ∧ Below W.heap.size W W' ∧
  ∀ W2, Below W'.heap.size W' W2 → Calls Tryz.prog 13 #[x, ev] W2 fun r W3 => r = .returned (.bool true) ∧ Below W2.heap.size W2 W3
theorem ans_all_bad (hS : SortOk 1000000) (n k s : Int) (v : Value) (es : List Sy.Ed) (e : Nat → Addr) (w : World) (hE : Er 19 w e) (hH : BEdges.Has w v es) (hlen : es.length ≤ 11000) (hq : Sy.right n k s es = false) : AnsR 12 (sysV n k s v) [] (hndV false) w := fun W hb => by
  refine (all_bad hS n k s v es (e 14) W ((hE.below hb).s14 (by decide)) (hH.below hb) (by omega) hq).mono ?_
  rintro r W' ⟨b, rfl, hC, hb'⟩
  refine ⟨_, _, rfl, rows_nil _ _, hb', fun W2 hb2 => ?_⟩
  have hT := told_chain 14 (by decide) (by decide) (by decide) _ _ 0 0 e W2 (((hE.below hb).below hb').below hb2) (hC.below hb2) (by decide) (by decide)
  rw [rnd_join2] at hT
  exact hT
theorem ans_all_ok (hS : SortOk 1000000) (m : Nat) (k s : Int) (v : Value) (es : List Sy.Ed) (a : Addr) (w : World) (R : Nat) (hR : Ro.Last m (outOf m es) R) (hA : Sent w 14 a) (hP : Pow w) (hH : BEdges.Has w v es) (hlen : es.length ≤ 11000) (hq : Sy.right m k s es = true) : AnsR 12 (sysV m k s v) (roundsD m (outOf m es) R) (hndV true) w := fun W hb => by
  refine (all_ok hS m k s v es a W (hA.below hb) (hP.below hb) (hH.below hb) (by omega) hq).mono ?_
  rintro r W' ⟨u, xs, R', rfl, hL, hl, hO, hRw, hb'⟩
  obtain rfl := hL.unique hR
  have hm : m ≤ 1000 := by have := (right_parts hq).1; omega
  exact ⟨u, _, rfl, rows_rounds hm hl hO hRw, hb', fun W2 _ => told_none 0 0 _ W2⟩
/-- What is in memory while the statement runs: the book, the lists that the document tells, its error. -/
structure AlT (wB wr : World) (eb : Nat) (ev : Array Value) (wv : Value) (D : List (List Int)) (X : Nat → Prop) : Prop where
  bk : WIR.E wB wr (fun b => b < wr.heap.size) (fun b => b < wr.heap.size) X
  wx : ∀ b, wv.ownBlock = some b → X b
  rw : WIR.RowsRows wr wB.heap.size wv D
  er : wr.heap[eb]? = some (.cells ev 42 (0, 0))
theorem AlT.start {wB w5 w6 : World} {eb : Nat} {ev : Array Value} {u : Value} {D : List (List Int)} (hE : WIR.E wB w5 (fun _ => False) (fun _ => False) (fun _ => False)) (hb : Below w5.heap.size w5 w6) (hR : WIR.RowsRows w6 w5.heap.size u D) (hB : wB.heap.size ≤ w5.heap.size) (he : w5.heap[eb]? = some (.cells ev 42 (0, 0))) : AlT wB w6 eb ev u D (fun b => False ∨ u.ownBlock = some b) :=
  ⟨(hE.moreRows hb fun b hb => RowsRows.lt hR b hb).mono (fun _ _ h => h.elim) (fun _ _ h => h.elim), fun _ hb => .inr hb, RowsRows.base hR hB, res_up6 hb he⟩
theorem AlT.sys {wB wr : World} {eb : Nat} {ev : Array Value} {wv : Value} {D : List (List Int)} {X : Nat → Prop} (h : AlT wB wr eb ev wv D X) {b : Nat} {o : Obj} (hs : wB.heap[b]? = some o) : wr.heap[b]? = some o := (h.bk.bw.block b (t_lt hs)).trans hs
theorem AlT.next {wB wr w2 w3 : World} {eb : Nat} {ev : Array Value} {wv : Value} {D : List (List Int)} {X Y Z : Nat → Prop} (h : AlT wB wr eb ev wv D X) (hb : Below wr.heap.size wr w2) (hZ : ∀ b, X b → Z b) (hE : WIR.E wB w3 (fun b => b < w3.heap.size) (fun b => b < w3.heap.size) (fun b => Z b ∨ Y b)) (hF : WIR.Fr Z w2 w3) : AlT wB w3 eb ev wv D (fun b => Z b ∨ Y b) :=
  ⟨hE, fun b hb => .inl (hZ b (h.wx b hb)), RowsRows.fr (RowsRows.below h.rw hb) hF (fun b hb => hZ b (h.wx b hb)), hF.2 eb ev _ (res_up6 hb h.er) (by decide) (.inl (by decide)) (by decide)⟩
theorem hndV_form (ok : Bool) : ∃ ck cx, hndV ok = .agg #[.int .i64 ck, .int .i64 0, .int .i64 0, .string cx] ∧ (ok = true ∧ ck = 0 ∨ ok = false ∧ ck = 14) := by
  cases ok
  · exact ⟨14, rndB2, rfl, .inr ⟨rfl, rfl⟩⟩
  · exact ⟨0, ⟨#[]⟩, rfl, .inl ⟨rfl, rfl⟩⟩
set_option maxRecDepth 100000 in
set_option maxHeartbeats 16000000 in
theorem lawAll_of (n k s : Int) (v : Value) (es : List Sy.Ed) (w : World) (ok : Bool) (D : List (List Int)) (hA : PAl w) (hv : HasE w v es) (hq : Sy.right n k s es = ok) (hli : lightB n es.length (Sy.right n k s es) = true)
    (hD : D.length ≤ 1000000) (hDr : ∀ r ∈ D, r.length ≤ 1000000) (hD0 : ok = false → D = [])
    (hN : AnsR 12 (sysV n k s v) D (hndV ok) w) (hW : ok = true → ∀ W, Below w.heap.size w W → Calls Tryz.prog 11 #[sysV n k s v] W fun r W' => ∃ u, r = .returned u ∧ WIR.RowsRows W' W.heap.size u D ∧ Below W.heap.size W W') :
    Calls Tryz.prog 3 #[sysV n k s v] w fun r w' => r = .returned (.bool true) ∧ Below w.heap.size w w' := by
  have hvs := hv
  obtain ⟨ao, cap, rfl, hcap, hH⟩ := hvs
  obtain ⟨L, hL⟩ : ∃ L, L = es.length := ⟨_, rfl⟩
  obtain ⟨w1, hw1⟩ : ∃ w1, w1 = w.alloc (.cells #[.int .i64 n, .int .i64 k, .int .i64 s, .slice ao L cap] 24) := ⟨_, rfl⟩
  have hb1 : Below w.heap.size w w1 := by rw [hw1]; exact (Below.refl _ _).alloc (Nat.le_refl _) _
  have hg1 : w1.heap[w.heap.size]? = some (.cells #[.int .i64 n, .int .i64 k, .int .i64 s, .slice ao L cap] 24 (0, 0)) := by rw [hw1]; exact heap_alloc_new w _
  have hLt := light_any n k s _ es w1 (hH.below hb1)
  rw [hli] at hLt
  have hHd := fun W (hb : Below w1.heap.size w1 W) => handed_rnd n k s _ es W ((hH.below hb1).below hb)
  rw [hq] at hHd
  rw [← hL] at hLt hHd hN hW ⊢
  unfold sysV at hLt hHd hN hW ⊢
  have H1 : Hid _ := And.intro hw1 (And.intro hb1 (And.intro hLt (And.intro hA (And.intro hHd (And.intro hg1 (And.intro hN (And.intro hW (And.intro hD (And.intro hDr hD0)))))))))
  obtain ⟨x0, x1, x2, x3⟩ := four_cells hg1
  clear hA hv hH hcap hL hw1 hb1 hg1 hLt hHd hli hq hN hW hD hDr hD0
  go_enter Tryz.func3, Tryz.ntmps3
  go_upto_region 1 with fail
  rw [← H1.out.1]
  go_wp2_with fail
  refine Calls.mono H1.out.2.2.1 ?_
  rintro r wB ⟨rfl, hb2⟩
  have hbB := bel6 hb2 H1.out.2.1
  have hgB := res_up6 hb2 H1.out.2.2.2.2.2.1
  have H2 : Hid _ := And.intro hb2 (And.intro hbB hgB)
  clear hb2 hbB hgB x0 x1 x2 x3
  go_upto_region 4 with fail
  obtain ⟨w3, hw3⟩ : ∃ w3, w3 = wB.alloc (.cells WIR.bookZ 40) := ⟨_, rfl⟩
  have hE3 := WIR.new wB
  rw [← hw3] at hE3
  have hb3 : Below wB.heap.size wB w3 := by rw [hw3]; exact (Below.refl _ _).alloc (Nat.le_refl _) _
  have hw3' : wB.alloc (.cells #[.slice none 0 0, .slice none 0 0, .slice none 0 0, .slice none 0 0, .slice none 0 0, .slice none 0 0, .slice none 0 0, .slice none 0 0, .slice none 0 0, .slice none 0 0, .slice none 0 0, .slice none 0 0, .slice none 0 0, .slice none 0 0, .slice none 0 0, .slice none 0 0, .slice none 0 0, .slice none 0 0, .slice none 0 0, .slice none 0 0, .slice none 0 0, .slice none 0 0] 40) = w3 := by rw [hw3]; rfl
  rw [hw3']
  obtain ⟨x0, x1, x2, x3⟩ := four_cells (res_up6 hb3 H2.out.2.2)
  have H3 : Hid _ := And.intro hE3 hb3
  clear hE3 hb3 hw3 hw3'
  go_wp2_with fail
  refine Calls.mono (H1.out.2.2.2.2.1 _ (bel6 H3.out.2 H2.out.1)) ?_
  rintro r w4 ⟨rfl, hb4⟩
  obtain ⟨ck, cx, hcv, hck⟩ := hndV_form ok
  rw [hcv]
  have H4 : Hid _ := And.intro hb4 (And.intro hcv hck)
  clear hb4 hcv hck x0 x1 x2 x3
  go_upto_region 6 with fail
  obtain ⟨w5, hw5⟩ : ∃ w5, w5 = w4.alloc (.cells #[.int .i64 ck, .int .i64 0, .int .i64 0, .string cx] 42) := ⟨_, rfl⟩
  have hb5 : Below w4.heap.size w4 w5 := by rw [hw5]; exact box_new _ _ _ _ _ _
  have hg5 : w5.heap[w4.heap.size]? = some (.cells #[.int .i64 ck, .int .i64 0, .int .i64 0, .string cx] 42 (0, 0)) := by rw [hw5]; exact heap_alloc_new w4 _
  rw [← hw5]
  have hB5 := bel6 hb5 (bel6 H4.out.1 H3.out.2)
  have hE5 := (H3.out.1.below H4.out.1).below hb5
  have H5 : Hid _ := And.intro hB5 (And.intro hE5 (And.intro hg5 (bel6 hB5 H2.out.2.1)))
  obtain ⟨x0, x1, x2, x3⟩ := four_cells (res_up6 hB5 H2.out.2.2)
  obtain ⟨y0, y1, y2, y3⟩ := four_cells hg5
  clear hb5 hg5 hB5 hE5 hw5
  go_upto_if 19 with fail
  go_cut [5] (fun v5 wx => ∃ X, AlT wB wx w4.heap.size #[.int .i64 ck, .int .i64 0, .int .i64 0, .string cx] v5 D X)
  case first =>
    rcases H4.out.2.2 with ⟨hok, hck⟩ | ⟨hok, hck⟩
    · have e1 : (ck == 0) = true := by simp [hck]
      have HK : Hid _ := And.intro hok hck
      clear hok hck
      go_wp2_with fail
      refine Calls.mono (H1.out.2.2.2.2.2.2.2.1 HK.out.1 _ H5.out.2.2.2) ?_
      rintro r w6 ⟨u, rfl, hR6, hb6⟩
      have hT : ∃ X, AlT wB w6 w4.heap.size #[.int .i64 ck, .int .i64 0, .int .i64 0, .string cx] u D X := ⟨_, AlT.start H5.out.2.1 hb6 hR6 H5.out.1.size H5.out.2.2.1⟩
      have HT : Hid _ := hT
      clear hR6 hb6 hT
      go_wp2_with fail
      go_meet
      case rel => exact HT.out
    · have e1 : (ck == 0) = false := by simp [hck]
      have HK : Hid _ := And.intro hok hck
      clear hok hck
      go_wp2_with fail
      go_meet
      case rel => exact ⟨_, AlT.start H5.out.2.1 (Below.refl _ _) (by rw [H1.out.2.2.2.2.2.2.2.2.2.2 HK.out.1]; exact rows_nil _ _) H5.out.1.size H5.out.2.2.1⟩
  case rest =>
    obtain ⟨X, hT⟩ := hcut
    have HT : Hid _ := hT
    clear hT x0 x1 x2 x3 y0 y1 y2 y3
    go_wp2_with fail
    go_loopg [6] 2 (fun z kv wr => ∃ (j : Nat) (X : Nat → Prop), z = 2 - j ∧ j ≤ 2 ∧ kv = .int .i64 j ∧ AlT wB wr w4.heap.size #[.int .i64 ck, .int .i64 0, .int .i64 0, .string cx] u5 D X)
    case atStart => exact ⟨0, X, rfl, by omega, rfl, HT.out⟩
    case round =>
      obtain ⟨j, Y, rfl, hj, rfl, hT⟩ := hrel
      by_cases hlt : j < 2
      · have q1 : (j : Int) < 2 := by omega
        obtain ⟨x0, x1, x2, x3⟩ := four_cells (hT.sys H2.out.2.2)
        have hbW := bel6 hT.bk.bw H2.out.2.1
        have HT2 : Hid _ := And.intro hT hbW
        clear hT hbW
        go_wp2_with fail
        refine Calls.mono (H1.out.2.2.2.2.2.2.1 _ HT2.out.2) ?_
        rintro r w7 ⟨u, ev, rfl, hR7, hb7, hTd⟩
        obtain ⟨y0, y1, y2, y3⟩ := four_cells (res_up6 hb7 HT2.out.1.er)
        have hTd0 := hTd w7 (Below.refl _ _)
        rw [H4.out.2.1] at hTd0
        have H7 : Hid _ := And.intro hR7 (And.intro hb7 hTd0)
        clear hR7 hb7 hTd hTd0 x0 x1 x2 x3
        go_wp2_with fail
        refine Calls.mono H7.out.2.2 ?_
        rintro r w8 ⟨rfl, hb8⟩
        have H8 : Hid _ := And.intro hb8 (And.intro (RowsRows.below H7.out.1 hb8) (bel6 hb8 H7.out.2.1))
        clear hb8 y0 y1 y2 y3
        go_wp2_with fail
        refine Calls.mono (sameRows_any u u5 D w8 H1.out.2.2.2.2.2.2.2.2.1 H1.out.2.2.2.2.2.2.2.2.2.1 (RowsRows.has H8.out.2.1) (RowsRows.has (RowsRows.below HT2.out.1.rw H8.out.2.2))) ?_
        rintro r w9 ⟨rfl, hb9⟩
        have hb79 := bel6 hb9 H8.out.2.2
        have H9 : Hid _ := And.intro (RowsRows.below H8.out.2.1 hb9) hb79
        clear hb9 hb79
        go_wp2_with fail
        have hE9 := HT2.out.1.bk.moreRows H9.out.2 (Y := fun b => u.ownBlock = some b) (fun b hb => RowsRows.lt H9.out.1 b hb)
        refine Calls.mono (hE9.manyRows u D wr.heap.size H9.out.1 HT2.out.1.bk.bw.size (fun b hb => hb) (fun b hb => hb) (fun b hb => .inr hb) H1.out.2.2.2.2.2.2.2.2.1 H1.out.2.2.2.2.2.2.2.2.2.1) ?_
        rintro r w10 ⟨rfl, ⟨Z, hE10⟩, hF10⟩
        have hT10 := HT2.out.1.next H9.out.2 (fun b hb => .inl hb) hE10 hF10
        have H10 : Hid _ := hT10
        clear hE9 hE10 hF10 hT10
        go_wp2_with fail
        go_roundg (2 - (j + 1))
        case measure => omega
        case rel => exact ⟨j + 1, _, rfl, by omega, by go_num, H10.out⟩
      · have q1 : ¬ (j : Int) < 2 := by omega
        have HT2 : Hid _ := And.intro hT (bel6 hT.bk.bw H2.out.2.1)
        clear hT
        go_wp2_with fail
        refine Calls.mono (H1.out.2.2.2.1 _ HT2.out.2) ?_
        rintro r w7 ⟨rfl, hb7⟩
        have H7 : Hid _ := And.intro (HT2.out.1.bk.below hb7) trivial
        clear hb7
        go_wp2_with fail
        refine Calls.mono H7.out.1.apart ?_
        rintro r w8 ⟨rfl, hb8⟩
        have H8 : Hid _ := bel6 hb8 H2.out.2.1
        clear hb8
        go_wp2_with fail
        go_ret
        exact ⟨rfl, H8.out⟩
set_option maxRecDepth 100000 in
set_option maxHeartbeats 4000000 in
theorem lawAll_out (n k s : Int) (v : Value) (es : List Sy.Ed) (w : World) (hA : PAl w) (hv : HasE w v es) (hli : lightB n es.length (Sy.right n k s es) = false) :
    Calls Tryz.prog 3 #[sysV n k s v] w fun r w' => r = .returned (.bool true) ∧ Below w.heap.size w w' := by
  have hvs := hv
  obtain ⟨ao, cap, rfl, hcap, hH⟩ := hvs
  obtain ⟨L, hL⟩ : ∃ L, L = es.length := ⟨_, rfl⟩
  obtain ⟨w1, hw1⟩ : ∃ w1, w1 = w.alloc (.cells #[.int .i64 n, .int .i64 k, .int .i64 s, .slice ao L cap] 24) := ⟨_, rfl⟩
  have hb1 : Below w.heap.size w w1 := by rw [hw1]; exact (Below.refl _ _).alloc (Nat.le_refl _) _
  have hg1 : w1.heap[w.heap.size]? = some (.cells #[.int .i64 n, .int .i64 k, .int .i64 s, .slice ao L cap] 24 (0, 0)) := by rw [hw1]; exact heap_alloc_new w _
  have hLt := light_any n k s _ es w1 (hH.below hb1)
  rw [hli] at hLt
  rw [← hL] at hLt ⊢
  unfold sysV at hLt ⊢
  have H1 : Hid _ := And.intro hw1 (And.intro hb1 (And.intro hLt hA))
  obtain ⟨x0, x1, x2, x3⟩ := four_cells hg1
  clear hA hv hH hcap hL hw1 hb1 hg1 hLt hli
  go_enter Tryz.func3, Tryz.ntmps3
  go_upto_region 1 with fail
  rw [← H1.out.1]
  go_wp2_with fail
  refine Calls.mono H1.out.2.2.1 ?_
  rintro r w2 ⟨rfl, hb2⟩
  have H2 : Hid (Below w.heap.size w w2) := bel6 hb2 H1.out.2.1
  clear hb2
  go_wp2_with fail
  refine Calls.mono (H1.out.2.2.2 _ H2.out) ?_
  rintro r w3 ⟨rfl, hb3⟩
  have H3 : Hid (Below w.heap.size w w3) := bel6 hb3 H2.out
  clear hb3
  go_wp2_with fail
  go_ret
  exact ⟨rfl, H3.out⟩
theorem lawAll_any (hS : SortOk 1000000) (n k s : Int) (v : Value) (es : List Sy.Ed) (e : Nat → Addr) (w : World) (hE : Er 19 w e) (hP : Pow w) (hv : HasE w v es) :
    Calls Tryz.prog 3 #[sysV n k s v] w fun r w' => r = .returned (.bool true) ∧ Below w.heap.size w w' := by
  have hA := pAl hS e w hE.toR hP
  cases hli : lightB n es.length (Sy.right n k s es) with
  | false => exact lawAll_out n k s v es w hA hv hli
  | true =>
    have hlen : es.length ≤ 11000 := by
      unfold lightB at hli
      simp only [Bool.or_eq_true, Bool.and_eq_true, decide_eq_true_eq] at hli
      omega
    have hH : BEdges.Has w v es := by obtain ⟨ao, cap, rfl, _, h⟩ := hv; exact h
    cases hq : Sy.right n k s es with
    | false => exact lawAll_of n k s v es w false [] hA hv hq hli (by simp) (fun r h => by simp at h) (fun _ => rfl) (ans_all_bad hS n k s v es e w hE hH hlen hq) (fun h => by cases h)
    | true =>
      obtain ⟨m, rfl⟩ : ∃ m : Nat, n = (m : Int) := ⟨n.toNat, by have := (right_parts hq).1; omega⟩
      have hm : m ≤ 1000 := by have := (right_parts hq).1; omega
      obtain ⟨R, hR⟩ := Ro.exists_last m (outOf m es)
      have hRm := hR.lt
      refine lawAll_of m k s v es w true (roundsD m (outOf m es) R) hA hv hq hli (by rw [roundsD_len]; omega) (fun r h => ?_) (fun h => by cases h) (ans_all_ok hS m k s v es (e 14) w R hR (hE.s14 (by decide)) hP hH hlen hq) (fun _ W hb => ?_)
      · obtain ⟨i, hi⟩ := List.mem_iff_getElem?.1 h
        obtain ⟨_, rfl⟩ := roundsD_at hi
        rw [natI_len, Ro.rnd_len]; omega
      · refine (docRounds_any m k s v es W (hv.below hb) hq).mono ?_
        rintro r W' ⟨u, xs, R', rfl, hL, hl, hO, hRw, hb'⟩
        obtain rfl := hL.unique hR
        exact ⟨u, rfl, rows_rounds hm hl hO hRw, hb'⟩
end Go.Proofs.YtpmanmoljlhogaaGreatDoor
/- RoundsRanks as a call: for every system the statement answers true. -/
namespace Go.Proofs.YtpmanmoljlhogaaGreatDoor
open Go.RowKit Go.Maps
attribute [local go_sem ↓] Go.wp_at_zero Go.wp_at_succ
theorem rnd_join1' : joinS ⟨#[]⟩ [rndB] = rndB1 := by decide
theorem hndV_form2 (ok : Bool) : ∃ ck cx, hndV ok = .agg #[.int .i64 ck, .int .i64 0, .int .i64 0, .string cx] ∧ (ok = true ∧ ck = 0 ∧ cx = ⟨#[]⟩ ∨ ok = false ∧ ck = 14 ∧ cx = rndB2) := by
  cases ok
  · exact ⟨14, rndB2, rfl, .inr ⟨rfl, rfl, rfl⟩⟩
  · exact ⟨0, ⟨#[]⟩, rfl, .inl ⟨rfl, rfl, rfl⟩⟩
/-- The document's error at too many states. -/
def lngV : Value := .agg #[.int .i64 2, .int .i64 0, .int .i64 0, .string rndB1]
theorem ans_ranks_bad (hS : SortOk 1000000) (n k s : Int) (v : Value) (es : List Sy.Ed) (e : Nat → Addr) (w : World) (hE : Er 19 w e) (hH : BEdges.Has w v es) (hlen : es.length ≤ 11000) (hq : Sy.right n k s es = false) : AnsR 21 (sysV n k s v) [] (hndV false) w := fun W hb => by
  refine (ranks_bad hS n k s v es (e 14) W ((hE.below hb).s14 (by decide)) (hH.below hb) (by omega) hq).mono ?_
  rintro r W' ⟨b, rfl, hC, hb'⟩
  refine ⟨_, _, rfl, rows_nil _ _, hb', fun W2 hb2 => ?_⟩
  have hT := told_chain 14 (by decide) (by decide) (by decide) _ _ 0 0 e W2 (((hE.below hb).below hb').below hb2) (hC.below hb2) (by decide) (by decide)
  rw [rnd_join2] at hT
  exact hT
theorem ans_ranks_long (hS : SortOk 1000000) (m : Nat) (k s : Int) (v : Value) (es : List Sy.Ed) (e : Nat → Addr) (w : World) (hE : Er 19 w e) (hH : BEdges.Has w v es) (hlen : es.length ≤ 11000) (hq : Sy.right m k s es = true) (h3 : 300 < m) : AnsR 21 (sysV m k s v) [] lngV w := fun W hb => by
  refine (ranks_long hS m k s v es (e 14) (e 2) W ((hE.below hb).s14 (by decide)) ((hE.below hb).s2 (by decide)) (hH.below hb) (by omega) hq h3).mono ?_
  rintro r W' ⟨b, rfl, hC, hb'⟩
  refine ⟨_, _, rfl, rows_nil _ _, hb', fun W2 hb2 => ?_⟩
  have hT := told_chain 2 (by decide) (by decide) (by decide) _ _ 0 0 e W2 (((hE.below hb).below hb').below hb2) (hC.below hb2) (by decide) (by decide)
  rw [rnd_join1'] at hT
  exact hT
theorem ans_ranks_ok (hS : SortOk 1000000) (m : Nat) (k s : Int) (v : Value) (es : List Sy.Ed) (a : Addr) (w : World) (R : Nat) (hR : Ro.Last m (outOf m es) R) (hA : Sent w 14 a) (hP : Pow w) (hH : BEdges.Has w v es) (hlen : es.length ≤ 11000) (hq : Sy.right m k s es = true) (h3 : m ≤ 300) : AnsR 21 (sysV m k s v) (ranksD m (outOf m es) R) (hndV true) w := fun W hb => by
  refine (ranks_ok2 hS m k s v es a W (hA.below hb) (hP.below hb) (hH.below hb) (by omega) hq h3).mono ?_
  rintro r W' ⟨T, rb, R', rfl, hL, hRk, hb', ⟨cs, hc, hs⟩, hT, hr⟩
  obtain rfl := hL.unique hR
  exact ⟨_, _, rfl, rows_ranks (by omega) hRk hc hs hT hr, hb', fun W2 _ => told_none 0 0 _ W2⟩
theorem errbox_set {w : World} {b : Nat} {a0 a1 a2 a3 b0 b1 b2 b3 : Value} {t : TypeId} (h : w.heap[b]? = some (.cells #[a0, a1, a2, a3] t (0, 0))) : ((((w.setCell ⟨b, 0, none⟩ b0).setCell ⟨b, 1, none⟩ b1).setCell ⟨b, 2, none⟩ b2).setCell ⟨b, 3, none⟩ b3).heap[b]? = some (.cells #[b0, b1, b2, b3] t (0, 0)) := four_set h
set_option maxRecDepth 100000 in
set_option maxHeartbeats 16000000 in
theorem lawRanks_of (n k s : Int) (v : Value) (es : List Sy.Ed) (w : World) (ok lg : Bool) (ck : Int) (cx : ByteArray) (D : List (List Int)) (hA : PAl w) (hv : HasE w v es) (hq : Sy.right n k s es = ok) (hlen : es.length ≤ 11000) (hlg : lg = decide (300 < n)) (hn40 : lg = false → n ≤ 40)
    (hcase : ok = false ∧ ck = 14 ∧ cx = rndB2 ∧ D = [] ∨ ok = true ∧ lg = true ∧ ck = 2 ∧ cx = rndB1 ∧ D = [] ∨ ok = true ∧ lg = false ∧ ck = 0 ∧ cx = ⟨#[]⟩)
    (hD : D.length ≤ 1000000) (hDr : ∀ r ∈ D, r.length ≤ 1000000)
    (hN : AnsR 21 (sysV n k s v) D (.agg #[.int .i64 ck, .int .i64 0, .int .i64 0, .string cx]) w) (hW : ck = 0 → ∀ W, Below w.heap.size w W → Calls Tryz.prog 20 #[sysV n k s v] W fun r W' => ∃ u, r = .returned u ∧ WIR.RowsRows W' W.heap.size u D ∧ Below W.heap.size W W') :
    Calls Tryz.prog 5 #[sysV n k s v] w fun r w' => r = .returned (.bool true) ∧ Below w.heap.size w w' := by
  have hvs := hv
  obtain ⟨ao, cap, rfl, hcap, hH⟩ := hvs
  obtain ⟨L, hL⟩ : ∃ L, L = es.length := ⟨_, rfl⟩
  obtain ⟨w1, hw1⟩ : ∃ w1, w1 = w.alloc (.cells #[.int .i64 n, .int .i64 k, .int .i64 s, .slice ao L cap] 24) := ⟨_, rfl⟩
  have hb1 : Below w.heap.size w w1 := by rw [hw1]; exact (Below.refl _ _).alloc (Nat.le_refl _) _
  have hg1 : w1.heap[w.heap.size]? = some (.cells #[.int .i64 n, .int .i64 k, .int .i64 s, .slice ao L cap] 24 (0, 0)) := by rw [hw1]; exact heap_alloc_new w _
  have hHd := fun W (hb : Below w1.heap.size w1 W) => handed_rnd n k s _ es W ((hH.below hb1).below hb)
  rw [hq] at hHd
  rw [← hL] at hHd hN hW hlen ⊢
  unfold sysV at hHd hN hW ⊢
  have H1 : Hid _ := And.intro hw1 (And.intro hb1 (And.intro hHd (And.intro hA (And.intro hg1 (And.intro hN (And.intro hW (And.intro hD (And.intro hDr hcase))))))))
  obtain ⟨x0, x1, x2, x3⟩ := four_cells hg1
  have g3 : decide ((11000 : Int) < (L : Int)) = false := decide_eq_false (by omega)
  have g4 : decide (11000 < L) = false := decide_eq_false (by omega)
  have g5 : ¬ (11000 : Int) < (L : Int) := by omega
  have g6 : decide ((300 : Int) < n) = lg := hlg.symm
  have HG : Hid _ := And.intro hlg hn40
  clear hA hv hH hcap hL hw1 hb1 hg1 hHd hq hN hW hD hDr hcase hlen hlg hn40
  go_enter Tryz.func5, Tryz.ntmps5
  go_upto_region 1 with fail
  rw [← H1.out.1]
  go_cut [22] (fun v22 wx => v22 = .bool false ∧ wx = w1)
  case first =>
    cases lg with
    | false =>
      have h40 := HG.out.2 rfl
      have a1 : decide (n ≤ (300 : Int)) = true := decide_eq_true (by omega)
      have a2 : decide ((40 : Int) < n) = false := decide_eq_false (by omega)
      clear h40 g6
      go_wp2_with fail
      go_meet
      case rel => exact ⟨rfl, rfl⟩
    | true =>
      have h30 := of_decide_eq_true HG.out.1.symm
      have a1 : decide (n ≤ (300 : Int)) = false := decide_eq_false (by omega)
      clear h30 g6
      go_wp2_with fail
      go_meet
      case rel => exact ⟨rfl, rfl⟩
  case rest =>
    obtain ⟨rfl, hwx⟩ := hcut
    obtain rfl := hwx.symm
    clear hwx g3 g4 g5
    go_wp2_with fail
    refine Calls.mono (H1.out.2.2.1 _ (Below.refl _ _)) ?_
    rintro r w4 ⟨rfl, hb4⟩
    obtain ⟨c0, x00, hcv, hck⟩ := hndV_form2 ok
    rw [hcv]
    have H4 : Hid _ := And.intro hb4 (And.intro hcv hck)
    clear hb4 hcv hck x0 x1 x2 x3
    go_upto_region 4 with fail
    obtain ⟨w5, hw5⟩ : ∃ w5, w5 = w4.alloc (.cells #[.int .i64 c0, .int .i64 0, .int .i64 0, .string x00] 42) := ⟨_, rfl⟩
    have hb5 : Below w4.heap.size w4 w5 := by rw [hw5]; exact box_new _ _ _ _ _ _
    have hg5 : w5.heap[w4.heap.size]? = some (.cells #[.int .i64 c0, .int .i64 0, .int .i64 0, .string x00] 42 (0, 0)) := by rw [hw5]; exact heap_alloc_new w4 _
    rw [← hw5]
    have hB5 := bel6 hb5 H4.out.1
    have hgs := res_up6 hB5 H1.out.2.2.2.2.1
    have H5 : Hid _ := And.intro hB5 (And.intro hg5 hgs)
    obtain ⟨x0, x1, x2, x3⟩ := four_cells hgs
    obtain ⟨y0, y1, y2, y3⟩ := four_cells hg5
    have hnw : ¬ w4.heap.size = w.heap.size := by have := t_lt (res_up6 H4.out.1 H1.out.2.2.2.2.1); omega
    clear hb5 hg5 hB5 hw5 hgs
    obtain ⟨bb, hbb⟩ : ∃ bb, bb = (ok && lg) := ⟨_, rfl⟩
    have HBB : Hid (bb = (ok && lg)) := hbb
    clear hbb
    go_cut [33] (fun v33 wx => v33 = .bool bb ∧ wx = w5)
    case first =>
      rcases H4.out.2.2 with ⟨hok, hc0, hx0⟩ | ⟨hok, hc0, hx0⟩
      · have e1 : (c0 == 0) = true := by simp [hc0]
        have HK : Hid (ok = true) := hok
        clear hok hc0 hx0
        go_wp2_with fail
        go_meet
        case rel => exact ⟨by rw [HBB.out, HK.out, Bool.true_and], rfl⟩
      · have e1 : (c0 == 0) = false := by simp [hc0]
        have HK : Hid (ok = false) := hok
        clear hok hc0 hx0
        go_wp2_with fail
        go_meet
        case rel => exact ⟨by rw [HBB.out, HK.out, Bool.false_and], rfl⟩
    case rest =>
      obtain ⟨rfl, hwx⟩ := hcut
      obtain rfl := hwx.symm
      clear hwx g6
      go_upto_if 33 with fail
      go_cut [3] (fun v3 wx => v3 = .pointer (some ⟨w4.heap.size, 0, none⟩) ∧ wx.heap[w4.heap.size]? = some (.cells #[.int .i64 ck, .int .i64 0, .int .i64 0, .string cx] 42 (0, 0)) ∧ Below w1.heap.size w1 wx)
      case first =>
        rcases H1.out.2.2.2.2.2.2.2.2.2 with ⟨hok, hck, hcx, hD0⟩ | ⟨hok, hlg, hck, hcx, hD0⟩ | ⟨hok, hlg, hck, hcx⟩
        · obtain rfl : bb = false := by rw [HBB.out, hok]; rfl
          have HV : Hid _ := And.intro hok (And.intro hck hcx)
          clear hok hck hcx hD0
          go_wp2_with fail
          go_meet
          case rel =>
            refine ⟨rfl, ?_, H5.out.1⟩
            rcases H4.out.2.2 with ⟨h, _, _⟩ | ⟨_, h1, h2⟩
            · rw [HV.out.1] at h; cases h
            · have h9 := H5.out.2.1
              rw [h1, h2] at h9
              rw [HV.out.2.1, HV.out.2.2]; exact h9
        · obtain rfl : bb = true := by rw [HBB.out, hok, hlg]; rfl
          have HV : Hid _ := And.intro hok (And.intro hck hcx)
          clear hok hck hcx hD0 hlg y0 y1 y2 y3
          go_wp2_with fail
          refine Calls.mono (badRnd 2 w5) ?_
          rintro r w6 ⟨rfl, hb6⟩
          have hg6 := res_up6 hb6 H5.out.2.1
          obtain ⟨y0, y1, y2, y3⟩ := four_cells hg6
          have z0 := blk_free hg6 0
          have z1 := blk_free hg6 1
          have z2 := blk_free hg6 2
          have z3 := blk_free hg6 3
          have H6 : Hid _ := And.intro hg6 (bel6 hb6 H5.out.1)
          clear hg6 hb6
          go_wp2_with fail
          go_meet
          case rel =>
            refine ⟨rfl, ?_, four_below H6.out.2 (by have := t_lt (res_up6 H4.out.1 H1.out.2.2.2.2.1); have := H4.out.1.size; omega) _ _ _ _⟩
            rw [HV.out.2.1, HV.out.2.2]
            exact four_set H6.out.1
        · obtain rfl : bb = false := by rw [HBB.out, hok, hlg]; rfl
          have HV : Hid _ := And.intro hok (And.intro hck hcx)
          clear hok hck hcx hlg
          go_wp2_with fail
          go_meet
          case rel =>
            refine ⟨rfl, ?_, H5.out.1⟩
            rcases H4.out.2.2 with ⟨_, h1, h2⟩ | ⟨h, _, _⟩
            · have h9 := H5.out.2.1
              rw [h1, h2] at h9
              rw [HV.out.2.1, HV.out.2.2]; exact h9
            · rw [HV.out.1] at h; cases h
      case rest =>
        obtain ⟨rfl, hge, hbe⟩ := hcut
        obtain ⟨w6, hw6⟩ : ∃ w6, w6 = wc := ⟨_, rfl⟩
        rw [← hw6] at hge hbe ⊢
        have hgs := res_up6 hbe H1.out.2.2.2.2.1
        have H6 : Hid _ := And.intro hge (And.intro hbe (And.intro hgs (bel6 hbe H1.out.2.1)))
        clear hw6 x0 x1 x2 x3 y0 y1 y2 y3
        obtain ⟨x0, x1, x2, x3⟩ := four_cells hgs
        obtain ⟨y0, y1, y2, y3⟩ := four_cells hge
        clear hge hbe hgs
        go_upto_if 37 with fail
        go_cut [4] (fun v4 wx => WIR.RowsRows wx w6.heap.size v4 D ∧ Below w6.heap.size w6 wx)
        case first =>
          by_cases hz : ck = 0
          · have e1 : (ck == 0) = true := by simp [hz]
            have HZ : Hid (ck = 0) := hz
            clear hz
            go_wp2_with fail
            refine Calls.mono (H1.out.2.2.2.2.2.2.1 HZ.out _ H6.out.2.2.2) ?_
            rintro r w7 ⟨u, rfl, hR7, hb7⟩
            have H7 : Hid _ := And.intro hR7 hb7
            clear hR7 hb7
            go_wp2_with fail
            go_meet
            case rel => exact H7.out
          · have e1 : (ck == 0) = false := by simp [hz]
            have HZ : Hid (¬ ck = 0) := hz
            clear hz
            go_wp2_with fail
            go_meet
            case rel =>
              refine ⟨?_, Below.refl _ _⟩
              have hDn : D = [] := by
                rcases H1.out.2.2.2.2.2.2.2.2.2 with ⟨_, _, _, h⟩ | ⟨_, _, _, _, h⟩ | ⟨_, _, h, _⟩
                · exact h
                · exact h
                · exact absurd h HZ.out
              rw [hDn]
              exact rows_nil _ _
        case rest =>
          obtain ⟨hRw, hbw⟩ := hcut
          obtain ⟨wB, hwB⟩ : ∃ wB, wB = wc := ⟨_, rfl⟩
          rw [← hwB] at hRw hbw ⊢
          have H7 : Hid _ := And.intro hRw (And.intro (bel6 hbw H6.out.2.2.2) (And.intro (res_up6 hbw H6.out.1) (res_up6 hbw H6.out.2.2.1)))
          clear hRw hbw hwB x0 x1 x2 x3 y0 y1 y2 y3
          go_upto_region 10 with fail
          have hw3' : wB.alloc (.cells #[.slice none 0 0, .slice none 0 0, .slice none 0 0, .slice none 0 0, .slice none 0 0, .slice none 0 0, .slice none 0 0, .slice none 0 0, .slice none 0 0, .slice none 0 0, .slice none 0 0, .slice none 0 0, .slice none 0 0, .slice none 0 0, .slice none 0 0, .slice none 0 0, .slice none 0 0, .slice none 0 0, .slice none 0 0, .slice none 0 0, .slice none 0 0, .slice none 0 0] 40) = wB.alloc (.cells WIR.bookZ 40) := rfl
          rw [hw3']
          have hE3 : ∃ X, WIR.E wB (wB.alloc (.cells WIR.bookZ 40)) (fun b => b < (wB.alloc (.cells WIR.bookZ 40)).heap.size) (fun b => b < (wB.alloc (.cells WIR.bookZ 40)).heap.size) X := ⟨_, (WIR.new wB).mono (fun _ _ h => h.elim) (fun _ _ h => h.elim)⟩
          obtain ⟨w8, hw8⟩ : ∃ w8, w8 = wB.alloc (.cells WIR.bookZ 40) := ⟨_, rfl⟩
          rw [← hw8] at hE3 ⊢
          have H8 : Hid _ := hE3
          clear hE3 hw8 hw3'
          go_wp2_with fail
          go_loopg [6] 2 (fun z kv wr => ∃ (j : Nat) (X : Nat → Prop), z = 2 - j ∧ j ≤ 2 ∧ kv = .int .i64 j ∧ WIR.E wB wr (fun b => b < wr.heap.size) (fun b => b < wr.heap.size) X)
          case atStart => obtain ⟨X, hX⟩ := H8.out; exact ⟨0, X, rfl, by omega, rfl, hX⟩
          case round =>
            obtain ⟨j, Y, rfl, hj, rfl, hT⟩ := hrel
            by_cases hlt : j < 2
            · have q1 : (j : Int) < 2 := by omega
              obtain ⟨x0, x1, x2, x3⟩ := four_cells ((hT.bw.block _ (t_lt H7.out.2.2.2)).trans H7.out.2.2.2)
              have HT2 : Hid _ := And.intro hT (And.intro (bel6 hT.bw H7.out.2.1) ((hT.bw.block _ (t_lt H7.out.2.2.1)).trans H7.out.2.2.1))
              clear hT
              go_wp2_with fail
              refine Calls.mono (H1.out.2.2.2.2.2.1 _ HT2.out.2.1) ?_
              rintro r wa ⟨u, ev, rfl, hR7, hb7, hTd⟩
              obtain ⟨y0, y1, y2, y3⟩ := four_cells (res_up6 hb7 HT2.out.2.2)
              have HA7 : Hid _ := And.intro hR7 (And.intro hb7 (hTd wa (Below.refl _ _)))
              clear hR7 hb7 hTd x0 x1 x2 x3
              go_wp2_with fail
              refine Calls.mono HA7.out.2.2 ?_
              rintro r wb ⟨rfl, hb8⟩
              have HA8 : Hid _ := And.intro hb8 (And.intro (RowsRows.below HA7.out.1 hb8) (bel6 hb8 HA7.out.2.1))
              clear hb8 y0 y1 y2 y3
              go_wp2_with fail
              refine Calls.mono (sameRows_any u u4 D wb H1.out.2.2.2.2.2.2.2.1 H1.out.2.2.2.2.2.2.2.2.1 (RowsRows.has HA8.out.2.1) (RowsRows.has (RowsRows.below (RowsRows.below H7.out.1 HT2.out.1.bw) HA8.out.2.2))) ?_
              rintro r wd ⟨rfl, hb9⟩
              have HA9 : Hid _ := And.intro (RowsRows.below HA8.out.2.1 hb9) (bel6 hb9 HA8.out.2.2)
              clear hb9
              go_wp2_with fail
              have hE9 := HT2.out.1.moreRows HA9.out.2 (Y := fun b => u.ownBlock = some b) (fun b hb => RowsRows.lt HA9.out.1 b hb)
              refine Calls.mono (hE9.manyRows u D wr.heap.size HA9.out.1 HT2.out.1.bw.size (fun b hb => hb) (fun b hb => hb) (fun b hb => .inr hb) H1.out.2.2.2.2.2.2.2.1 H1.out.2.2.2.2.2.2.2.2.1) ?_
              rintro r w10 ⟨rfl, ⟨Z, hE10⟩, _⟩
              have H10 : Hid _ := And.intro hE10 trivial
              clear hE9 hE10
              go_wp2_with fail
              go_roundg (2 - (j + 1))
              case measure => omega
              case rel => exact ⟨j + 1, _, rfl, by omega, by go_num, H10.out.1⟩
            · have q1 : ¬ (j : Int) < 2 := by omega
              have HT2 : Hid _ := And.intro hT (bel6 hT.bw H7.out.2.1)
              clear hT
              go_wp2_with fail
              refine Calls.mono (H1.out.2.2.2.1 _ HT2.out.2) ?_
              rintro r wa ⟨rfl, hb7⟩
              have HA7 : Hid _ := And.intro (HT2.out.1.below hb7) trivial
              clear hb7
              go_wp2_with fail
              refine Calls.mono HA7.out.1.apart ?_
              rintro r wb ⟨rfl, hb8⟩
              have HA8 : Hid _ := bel6 hb8 H7.out.2.1
              clear hb8
              go_wp2_with fail
              go_ret
              exact ⟨rfl, HA8.out⟩
set_option maxRecDepth 100000 in
set_option maxHeartbeats 4000000 in
theorem lawRanks_out (n k s : Int) (v : Value) (es : List Sy.Ed) (w : World) (hA : PAl w) (hv : HasE w v es) (hout : n ≤ 300 ∧ 40 < n ∨ 11000 < es.length) :
    Calls Tryz.prog 5 #[sysV n k s v] w fun r w' => r = .returned (.bool true) ∧ Below w.heap.size w w' := by
  have hvs := hv
  obtain ⟨ao, cap, rfl, hcap, hH⟩ := hvs
  obtain ⟨L, hL⟩ : ∃ L, L = es.length := ⟨_, rfl⟩
  obtain ⟨w1, hw1⟩ : ∃ w1, w1 = w.alloc (.cells #[.int .i64 n, .int .i64 k, .int .i64 s, .slice ao L cap] 24) := ⟨_, rfl⟩
  have hb1 : Below w.heap.size w w1 := by rw [hw1]; exact (Below.refl _ _).alloc (Nat.le_refl _) _
  have hg1 : w1.heap[w.heap.size]? = some (.cells #[.int .i64 n, .int .i64 k, .int .i64 s, .slice ao L cap] 24 (0, 0)) := by rw [hw1]; exact heap_alloc_new w _
  rw [← hL] at hout ⊢
  unfold sysV
  have H1 : Hid _ := And.intro hw1 (And.intro hb1 hA)
  obtain ⟨x0, x1, x2, x3⟩ := four_cells hg1
  clear hA hv hH hcap hL hw1 hb1 hg1
  go_enter Tryz.func5, Tryz.ntmps5
  go_upto_region 1 with fail
  rw [← H1.out.1]
  go_cut [22] (fun v22 wx => v22 = .bool true ∧ wx = w1)
  case first =>
    by_cases h1 : n ≤ 300
    · by_cases h2 : 40 < n
      · have a1 : decide (n ≤ (300 : Int)) = true := decide_eq_true h1
        have a2 : decide ((40 : Int) < n) = true := decide_eq_true h2
        clear h1 h2 hout
        go_wp2_with fail
        go_meet
        case rel => exact ⟨rfl, rfl⟩
      · have a1 : decide (n ≤ (300 : Int)) = true := decide_eq_true h1
        have a2 : decide ((40 : Int) < n) = false := decide_eq_false h2
        have a3 : decide ((11000 : Int) < (L : Int)) = true := decide_eq_true (by omega)
        have a4 : decide (11000 < L) = true := decide_eq_true (by omega)
        clear h1 h2 hout
        go_wp2_with fail
        go_meet
        case rel => exact ⟨rfl, rfl⟩
    · have a1 : decide (n ≤ (300 : Int)) = false := decide_eq_false h1
      have a3 : decide ((11000 : Int) < (L : Int)) = true := decide_eq_true (by omega)
      have a4 : decide (11000 < L) = true := decide_eq_true (by omega)
      clear h1 hout
      go_wp2_with fail
      go_meet
      case rel => exact ⟨rfl, rfl⟩
  case rest =>
    obtain ⟨rfl, hwx⟩ := hcut
    obtain rfl := hwx.symm
    clear hwx hout
    go_wp2_with fail
    refine Calls.mono (H1.out.2.2 _ H1.out.2.1) ?_
    rintro r w3 ⟨rfl, hb3⟩
    have H3 : Hid (Below w.heap.size w w3) := bel6 hb3 H1.out.2.1
    clear hb3
    go_wp2_with fail
    go_ret
    exact ⟨rfl, H3.out⟩
theorem lawRanks_any (hS : SortOk 1000000) (n k s : Int) (v : Value) (es : List Sy.Ed) (e : Nat → Addr) (w : World) (hE : Er 19 w e) (hP : Pow w) (hv : HasE w v es) :
    Calls Tryz.prog 5 #[sysV n k s v] w fun r w' => r = .returned (.bool true) ∧ Below w.heap.size w w' := by
  have hA := pAl hS e w hE.toR hP
  by_cases hout : n ≤ 300 ∧ 40 < n ∨ 11000 < es.length
  · exact lawRanks_out n k s v es w hA hv hout
  · have hlen : es.length ≤ 11000 := by omega
    have hH : BEdges.Has w v es := by obtain ⟨ao, cap, rfl, _, h⟩ := hv; exact h
    cases hq : Sy.right n k s es with
    | false => exact lawRanks_of n k s v es w false (decide (300 < n)) 14 rndB2 [] hA hv hq hlen rfl (fun h => by have := of_decide_eq_false h; omega) (.inl ⟨rfl, rfl, rfl, rfl⟩) (by simp) (fun r h => by simp at h) (ans_ranks_bad hS n k s v es e w hE hH hlen hq) (fun h => by cases h)
    | true =>
      obtain ⟨m, rfl⟩ : ∃ m : Nat, n = (m : Int) := ⟨n.toNat, by have := (right_parts hq).1; omega⟩
      have hm : m ≤ 1000 := by have := (right_parts hq).1; omega
      by_cases h3 : 300 < m
      · exact lawRanks_of m k s v es w true true 2 rndB1 [] hA hv hq hlen (decide_eq_true (by omega)).symm (fun h => by cases h) (.inr (.inl ⟨rfl, rfl, rfl, rfl, rfl⟩)) (by simp) (fun r h => by simp at h) (ans_ranks_long hS m k s v es e w hE hH hlen hq h3) (fun h => by cases h)
      · obtain ⟨R, hR⟩ := Ro.exists_last m (outOf m es)
        refine lawRanks_of m k s v es w true false 0 ⟨#[]⟩ (ranksD m (outOf m es) R) hA hv hq hlen (decide_eq_false (by omega)).symm (fun _ => by omega) (.inr (.inr ⟨rfl, rfl, rfl, rfl⟩)) (by rw [ranksD_len]; omega) (fun r h => ?_) (ans_ranks_ok hS m k s v es (e 14) w R hR (hE.s14 (by decide)) hP hH hlen hq (by omega)) (fun _ W hb => ?_)
        · obtain ⟨i, hi⟩ := List.mem_iff_getElem?.1 h
          obtain ⟨_, rfl⟩ := ranksD_at hi
          simp; omega
        · refine (docRanks_any m k s v es W (hv.below hb) hq).mono ?_
          rintro r W' ⟨g, us, R', rfl, hL, hAr, hOs⟩
          obtain rfl := hL.unique hR
          exact ⟨_, rfl, rows_docRanks hm hAr hOs, hAr.bl⟩
end Go.Proofs.YtpmanmoljlhogaaGreatDoor
