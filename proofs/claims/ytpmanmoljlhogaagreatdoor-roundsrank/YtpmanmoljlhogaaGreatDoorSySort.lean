/- Contracts of the document's less and Sorted of edges. -/
import Derived.Test.YtpmanmoljlhogaaGreatDoorPart3
import Derived.Deep.DeepCutAuto
import Derived.Deep.RegionHeld3
import Derived.Deep.RegionLaw
namespace Go.Proofs.YtpmanmoljlhogaaGreatDoor
open Go.RowKit Go.Maps
attribute [local go_sem ↓] Go.wp_at_zero Go.wp_at_succ
def edV (a : Sy.Ed) : Value := .agg #[.int .i64 a.1, .int .i64 a.2.1, .int .i64 a.2.2]
set_option maxRecDepth 100000 in
set_option maxHeartbeats 2000000 in
theorem refLess_any (a b : Sy.Ed) (w : World) : Calls Tryz.prog 128 #[edV a, edV b] w fun e w' => e = .returned (.bool (Sy.lt a b)) ∧ Below w.heap.size w w' := by
  unfold edV
  have hne : ¬ w.heap.size + 1 = w.heap.size := by omega
  have hB : Below w.heap.size w ((w.alloc (.cells #[.int .i64 a.1, .int .i64 a.2.1, .int .i64 a.2.2] 66)).alloc (.cells #[.int .i64 b.1, .int .i64 b.2.1, .int .i64 b.2.2] 66)) := ((Below.refl _ _).alloc (Nat.le_refl _) _).alloc (by simp) _
  have HB : Hid _ := hB
  clear hB
  by_cases h1 : a.1 = b.1
  · have e1 : (a.1 != b.1) = false := by simpa using h1
    by_cases h2 : a.2.1 = b.2.1
    · have e2 : (a.2.1 != b.2.1) = false := by simpa using h2
      have HL : Hid (Sy.lt a b = decide (a.2.2 < b.2.2)) := (by unfold Sy.lt; rw [e1, e2]; rfl : Sy.lt a b = decide (a.2.2 < b.2.2))
      clear h1 h2
      go_enter Tryz.func128, Tryz.ntmps128
      go_wp2
      go_ret
      exact ⟨by rw [HL.out]; rfl, HB.out⟩
    · have e2 : (a.2.1 != b.2.1) = true := by simpa using h2
      have HL : Hid (Sy.lt a b = decide (a.2.1 < b.2.1)) := (by unfold Sy.lt; rw [e1, e2]; rfl : Sy.lt a b = decide (a.2.1 < b.2.1))
      clear h1 h2
      go_enter Tryz.func128, Tryz.ntmps128
      go_wp2
      go_ret
      exact ⟨by rw [HL.out]; rfl, HB.out⟩
  · have e1 : (a.1 != b.1) = true := by simpa using h1
    have HL : Hid (Sy.lt a b = decide (a.1 < b.1)) := (by unfold Sy.lt; rw [e1]; rfl : Sy.lt a b = decide (a.1 < b.1))
    clear h1
    go_enter Tryz.func128, Tryz.ntmps128
    go_wp2
    go_ret
    exact ⟨by rw [HL.out]; rfl, HB.out⟩
/-- A list of edges that is read, with room for all of them. -/
def HasE (w : World) (v : Value) (es : List Sy.Ed) : Prop := ∃ ao cap, v = .slice ao es.length cap ∧ es.length ≤ cap ∧ BEdges.Has w v es
theorem HasE.below {w w' : World} {v : Value} {es : List Sy.Ed} (h : HasE w v es) (hb : Below w.heap.size w w') : HasE w' v es := by
  obtain ⟨ao, cap, h1, h2, h3⟩ := h
  exact ⟨ao, cap, h1, h2, h3.below hb⟩
theorem HasE.of_own {w : World} {B : Nat} {v : Value} {es : List Sy.Ed} (h : BEdges.Own w B v es) : HasE w v es := by
  have h3 := BEdges.Own.has h
  rcases h.2 with ⟨rfl, h0⟩ | ⟨g, cap, cur, rfl, _, _, hc, _⟩
  · exact ⟨none, 0, by rw [h0], by omega, h3⟩
  · exact ⟨_, cap, rfl, hc, h3⟩
theorem hasE_take {w : World} {ao : Option Addr} {n cap : Nat} {es : List Sy.Ed} (h : HasE w (.slice ao n cap) es) (k : Nat) (hk : k ≤ es.length) : HasE w (.slice ao k cap) (es.take k) := by
  obtain ⟨ao', cap', hv, hc, h3⟩ := h
  injection hv with e1 e2 e3
  subst e1; subst e2; subst e3
  have hl : (es.take k).length = k := by rw [List.length_take]; omega
  obtain ⟨ao2, cap2, hv2, h4⟩ := h3
  injection hv2 with f1 f2 f3
  subst f1; subst f3
  refine ⟨ao, cap, by rw [hl], by omega, ao, cap, by rw [hl], fun j u hj => ?_⟩
  refine h4 j u ?_
  have e : BEdges.C es = BEdges.C (es.take k) ++ BEdges.C (es.drop k) := by rw [← BEdges.C_app, List.take_append_drop]
  rw [e, List.getElem?_append_left (List.getElem?_eq_some_iff.1 hj).1]
  exact hj
theorem hasE_drop {w : World} {a : Addr} {n cap : Nat} {es : List Sy.Ed} (h : HasE w (.slice (some a) n cap) es) (k : Nat) (hk : k ≤ es.length) : HasE w (.slice (some (a.add (k * 3))) (n - k) (cap - k)) (es.drop k) := by
  obtain ⟨ao', cap', hv, hc, h3⟩ := h
  injection hv with e1 e2 e3
  subst e1; subst e2; subst e3
  have hl : (es.drop k).length = es.length - k := List.length_drop
  obtain ⟨ao2, cap2, hv2, h4⟩ := h3
  injection hv2 with f1 f2 f3
  subst f1; subst f3
  refine ⟨_, _, by rw [hl], by omega, _, _, by rw [hl], fun j u hj => ⟨_, rfl, ?_⟩⟩
  have e : BEdges.C es = BEdges.C (es.take k) ++ BEdges.C (es.drop k) := by rw [← BEdges.C_app, List.take_append_drop]
  have hcl : (BEdges.C (es.take k)).length = k * 3 := by rw [BEdges.C_len, List.length_take, Nat.min_eq_left hk]
  obtain ⟨a2, ha2, hc2⟩ := h4 (k * 3 + j) u (by rw [e, List.getElem?_append_right (by omega), hcl, Nat.add_sub_cancel_left]; exact hj)
  cases ha2
  rw [BEdges.add_q]
  exact hc2
end Go.Proofs.YtpmanmoljlhogaaGreatDoor
