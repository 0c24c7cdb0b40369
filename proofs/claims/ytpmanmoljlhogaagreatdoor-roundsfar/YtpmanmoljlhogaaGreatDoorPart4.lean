/- Texts of this claim, joined: SyRight, SySort. -/
import Derived.Test.YtpmanmoljlhogaaGreatDoorPart0
import Derived.Test.YtpmanmoljlhogaaGreatDoorPart3
import Derived.Deep.DeepCutAuto
import Derived.Deep.RegionHeld3
import Derived.Deep.RegionLaw
/- Contracts of the document's Right and Check of systems. -/
namespace Go.Proofs.YtpmanmoljlhogaaGreatDoor
open Go.RowKit Go.Maps
attribute [local go_sem ↓] Go.wp_at_zero Go.wp_at_succ
/-- A system as a value. -/
def sysV (n k s : Int) (v : Value) : Value := .agg #[.int .i64 n, .int .i64 k, .int .i64 s, v]
theorem four_cells {w : World} {b : Nat} {x0 x1 x2 x3 : Value} {t : TypeId} (h : w.heap[b]? = some (.cells #[x0, x1, x2, x3] t (0, 0))) : w.cell? ⟨b, 0, none⟩ = some x0 ∧ w.cell? ⟨b, 1, none⟩ = some x1 ∧ w.cell? ⟨b, 2, none⟩ = some x2 ∧ w.cell? ⟨b, 3, none⟩ = some x3 := by
  simp [World.cell?, h]
set_option maxRecDepth 100000 in
set_option maxHeartbeats 4000000 in
theorem right_a (n k s : Int) (ao : Option Addr) (m cap : Nat) (w : World) (h : ¬ (0 ≤ n ∧ n ≤ 1000 ∧ 1 ≤ k ∧ k ≤ 201 ∧ m ≤ 10000)) :
    Calls Tryz.prog 28 #[sysV n k s (.slice ao m cap)] w fun e w' => e = .returned (.bool false) ∧ Below w.heap.size w w' := by
  unfold sysV
  have hc : n < 0 ∨ ¬ n < 0 ∧ (1000 < n ∨ ¬ 1000 < n ∧ (k < 1 ∨ ¬ k < 1 ∧ (201 < k ∨ ¬ 201 < k ∧ (10000 : Int) < (m : Int)))) := by omega
  rcases hc with h1 | ⟨h1, h2 | ⟨h2, h3 | ⟨h3, h4 | ⟨h4, h5⟩⟩⟩⟩
  all_goals
    clear h
    go_enter Tryz.func28, Tryz.ntmps28
    go_wp2
    go_ret
    exact ⟨rfl, (Below.refl _ _).alloc (Nat.le_refl _) _⟩
set_option maxRecDepth 100000 in
set_option maxHeartbeats 4000000 in
theorem right_b (n k s : Int) (ao : Option Addr) (m cap : Nat) (w : World) (h : 0 ≤ n ∧ n ≤ 1000 ∧ 1 ≤ k ∧ k ≤ 201 ∧ m ≤ 10000) (hs : ¬ ((n = 0 → s = 0) ∧ (0 < n → 0 ≤ s ∧ s < n))) :
    Calls Tryz.prog 28 #[sysV n k s (.slice ao m cap)] w fun e w' => e = .returned (.bool false) ∧ Below w.heap.size w w' := by
  unfold sysV
  obtain ⟨h1, h2, h3, h4, h5⟩ := h
  have g1 : ¬ n < 0 := by omega
  have g2 : ¬ 1000 < n := by omega
  have g3 : ¬ k < 1 := by omega
  have g4 : ¬ 201 < k := by omega
  have g5 : ¬ (10000 : Int) < (m : Int) := by omega
  have hc : (n == 0) = true ∧ (s != 0) = true ∨ (n == 0) = false ∧ 0 < n ∧ (s < 0 ∨ ¬ s < 0 ∧ n ≤ s) := by
    by_cases e : n = 0
    · left; simp [e]; intro e2; exact hs ⟨fun _ => e2, fun h => by omega⟩
    · right
      refine ⟨by simpa using e, by omega, ?_⟩
      by_cases e2 : s < 0
      · exact .inl e2
      · exact .inr ⟨e2, by
          by_cases e3 : n ≤ s
          · exact e3
          · exact absurd ⟨fun h => absurd h e, fun _ => ⟨by omega, by omega⟩⟩ hs⟩
  clear hs h1 h2 h3 h4 h5
  rcases hc with ⟨e1, e2⟩ | ⟨e1, e2, e3 | ⟨e3, e4⟩⟩
  all_goals
    go_enter Tryz.func28, Tryz.ntmps28
    go_wp2
    go_ret
    exact ⟨rfl, (Below.refl _ _).alloc (Nat.le_refl _) _⟩
/-- An edge's cells in a list that is read. -/
theorem edge_at {w : World} {ao : Option Addr} {n cap : Nat} {es : List BEdges.El} (h : BEdges.Has w (.slice ao n cap) es) {j : Nat} {z : BEdges.El} (hz : es[j]? = some z) :
    ∃ a, ao = some a ∧ w.cell? (a.add (j * 3)) = some (.int .i64 z.1) ∧ w.cell? ⟨(a.add (j * 3)).block, (a.add (j * 3)).off + 1, none⟩ = some (.int .i64 z.2.1) ∧ w.cell? ⟨(a.add (j * 3)).block, (a.add (j * 3)).off + 2, none⟩ = some (.int .i64 z.2.2) := by
  obtain ⟨ao', cap', hv, hc⟩ := h
  injection hv with e1 e2 e3
  subst e1
  obtain ⟨a, rfl, c0⟩ := hc (j * 3 + 0) _ ((BEdges.C_at es j z hz 0 (by decide)).trans rfl)
  obtain ⟨a1, e1, c1⟩ := hc (j * 3 + 1) _ ((BEdges.C_at es j z hz 1 (by decide)).trans rfl)
  cases e1
  obtain ⟨a2, e2, c2⟩ := hc (j * 3 + 2) _ ((BEdges.C_at es j z hz 2 (by decide)).trans rfl)
  cases e2
  refine ⟨a, rfl, by simpa using c0, ?_, ?_⟩
  · rw [← BEdges.add_q] at c1; exact c1
  · rw [← BEdges.add_q] at c2; exact c2
def edgeOk (n k : Int) (e : Sy.Ed) : Bool := decide (0 ≤ e.1 ∧ e.1 < n ∧ 0 ≤ e.2.2 ∧ e.2.2 < n ∧ 0 ≤ e.2.1 ∧ e.2.1 < k)
set_option maxRecDepth 100000 in
set_option maxHeartbeats 8000000 in
theorem right_c (n k s : Int) (v : Value) (es : List Sy.Ed) (w : World) (hv : BEdges.Has w v es) (h : 0 ≤ n ∧ n ≤ 1000 ∧ 1 ≤ k ∧ k ≤ 201 ∧ es.length ≤ 10000) (hs : (n = 0 → s = 0) ∧ (0 < n → 0 ≤ s ∧ s < n)) :
    Calls Tryz.prog 28 #[sysV n k s v] w fun e w' => e = .returned (.bool (es.all (edgeOk n k))) ∧ Below w.heap.size w w' := by
  unfold sysV
  obtain ⟨ao, cap, rfl, _⟩ := _root_.id hv
  obtain ⟨m, hm⟩ : ∃ m, m = es.length := ⟨_, rfl⟩
  have HV : Hid _ := And.intro hv hm
  rw [← hm] at h ⊢
  obtain ⟨h1, h2, h3, h4, h5⟩ := h
  have g1 : ¬ n < 0 := by omega
  have g2 : ¬ 1000 < n := by omega
  have g3 : ¬ k < 1 := by omega
  have g4 : ¬ 201 < k := by omega
  have g5 : ¬ (10000 : Int) < (m : Int) := by omega
  have hc : (n == 0) = true ∧ (s != 0) = false ∧ ¬ 0 < n ∨ (n == 0) = false ∧ 0 < n ∧ ¬ s < 0 ∧ ¬ n ≤ s := by
    by_cases e : n = 0
    · left; simp [e, hs.1 e]
    · right; have := hs.2 (by omega); exact ⟨by simpa using e, by omega, by omega, by omega⟩
  clear hv hm hs
  rcases hc with ⟨c1, c2, c3⟩ | ⟨c1, c2, c3, c4⟩
  all_goals
    go_enter Tryz.func28, Tryz.ntmps28
    go_wp2_with fail
    go_loopg [3] m (fun q iv wr => ∃ i : Nat, q = m - i ∧ i ≤ m ∧ iv = .int .i64 i ∧ Below w.heap.size w wr ∧ wr.heap[w.heap.size]? = some (.cells #[.int .i64 n, .int .i64 k, .int .i64 s, .slice ao m cap] 24 (0, 0)) ∧ (es.take i).all (edgeOk n k) = true)
    case atStart => exact ⟨0, rfl, Nat.zero_le _, rfl, (Below.refl _ _).alloc (Nat.le_refl _) _, heap_alloc_new w _, by simp⟩
    case round =>
      obtain ⟨i, rfl, hi, rfl, hb, hB, hall⟩ := hrel
      obtain ⟨b0, b1, b2, b3⟩ := four_cells hB
      have n2 : w.heap.size < wr.heap.size := t_lt hB
      have n1 : ¬ w.heap.size = wr.heap.size := by omega
      have HB : Hid _ := And.intro hb (And.intro hB hall)
      clear hb hB hall
      by_cases hlt : i < m
      · obtain ⟨z, hz⟩ : ∃ z, es[i]? = some z := ⟨es[i]'(by have := HV.out.2; omega), List.getElem?_eq_getElem _⟩
        obtain ⟨a, rfl, z0, z1, z2⟩ := edge_at (HV.out.1.below HB.out.1) hz
        have q0 : (0 : Int) ≤ (i : Int) := by omega
        have q1 : (i : Int) < (m : Int) := by omega
        have HZ : Hid (es[i]? = some z) := hz
        clear hz
        by_cases hok : edgeOk n k z = true
        · have hk := of_decide_eq_true hok
          obtain ⟨k1, k2, k3, k4, k5, k6⟩ := hk
          have r1 : ¬ z.1 < 0 := by omega
          have r2 : ¬ n ≤ z.1 := by omega
          have r3 : ¬ z.2.2 < 0 := by omega
          have r4 : ¬ n ≤ z.2.2 := by omega
          have r5 : ¬ z.2.1 < 0 := by omega
          have r6 : ¬ k ≤ z.2.1 := by omega
          have HOK : Hid (edgeOk n k z = true) := hok
          clear hok k1 k2 k3 k4 k5 k6
          first
            | (exfalso; omega)
            | (go_wp2
               go_roundg (m - (i + 1))
               case measure => omega
               case rel => exact ⟨i + 1, rfl, by omega, by go_num, HB.out.1.alloc HB.out.1.size _, by rw [Below.heap_alloc wr _ _ (t_lt HB.out.2.1)]; exact HB.out.2.1, by rw [take_succ_of HZ.out, List.all_append, HB.out.2.2]; simp [HOK.out]⟩)
        · have hk : z.1 < 0 ∨ ¬ z.1 < 0 ∧ (n ≤ z.1 ∨ ¬ n ≤ z.1 ∧ (z.2.2 < 0 ∨ ¬ z.2.2 < 0 ∧ (n ≤ z.2.2 ∨ ¬ n ≤ z.2.2 ∧ (z.2.1 < 0 ∨ ¬ z.2.1 < 0 ∧ k ≤ z.2.1)))) := by
            have : ¬ (0 ≤ z.1 ∧ z.1 < n ∧ 0 ≤ z.2.2 ∧ z.2.2 < n ∧ 0 ≤ z.2.1 ∧ z.2.1 < k) := fun h => hok (decide_eq_true h)
            omega
          have HF : Hid (es.all (edgeOk n k) = false) := (by
            rw [List.all_eq_false]
            exact ⟨z, List.mem_of_getElem? HZ.out, hok⟩ : es.all (edgeOk n k) = false)
          clear hok
          rcases hk with r1 | ⟨r1, r2 | ⟨r2, r3 | ⟨r3, r4 | ⟨r4, r5 | ⟨r5, r6⟩⟩⟩⟩⟩
          all_goals
            first
              | (exfalso; omega)
              | (go_wp2; go_ret; exact ⟨by rw [HF.out]; rfl, HB.out.1.alloc HB.out.1.size _⟩)
      · obtain rfl : i = m := by omega
        have q1 : ¬ (i : Int) < (i : Int) := by omega
        go_wp2
        go_ret
        refine ⟨?_, HB.out.1⟩
        have h9 := HB.out.2.2
        rw [List.take_of_length_le (by have := HV.out.2; omega)] at h9
        rw [h9]
        rfl
theorem right_any (n k s : Int) (v : Value) (es : List Sy.Ed) (w : World) (hv : BEdges.Has w v es) :
    Calls Tryz.prog 28 #[sysV n k s v] w fun e w' => e = .returned (.bool (Sy.right n k s es)) ∧ Below w.heap.size w w' := by
  unfold Sy.right
  by_cases h1 : 0 ≤ n ∧ n ≤ 1000 ∧ 1 ≤ k ∧ k ≤ 201 ∧ es.length ≤ 10000
  · by_cases h2 : (n = 0 → s = 0) ∧ (0 < n → 0 ≤ s ∧ s < n)
    · rw [decide_eq_true h1, decide_eq_true h2]
      exact right_c n k s v es w hv h1 h2
    · rw [decide_eq_false h2, Bool.and_false, Bool.false_and]
      obtain ⟨ao, cap, rfl, _⟩ := hv
      exact right_b n k s ao es.length cap w h1 h2
  · rw [decide_eq_false h1, Bool.false_and, Bool.false_and]
    obtain ⟨ao, cap, rfl, _⟩ := hv
    exact right_a n k s ao es.length cap w h1
end Go.Proofs.YtpmanmoljlhogaaGreatDoor
/- Contracts of the document's less and Sorted of edges. -/
namespace Go.Proofs.YtpmanmoljlhogaaGreatDoor
open Go.RowKit Go.Maps
attribute [local go_sem ↓] Go.wp_at_zero Go.wp_at_succ
def edV (a : Sy.Ed) : Value := .agg #[.int .i64 a.1, .int .i64 a.2.1, .int .i64 a.2.2]
set_option maxRecDepth 100000 in
set_option maxHeartbeats 2000000 in
theorem refLess_any (a b : Sy.Ed) (w : World) : Calls Tryz.prog 128 #[edV a, edV b] w fun e w' => e = .returned (.bool (Sy.lt a b)) ∧ Below w.heap.size w w' := by
  unfold edV
  have hne : ¬ w.heap.size + 1 = w.heap.size := by omega
  have hB : Below w.heap.size w ((w.alloc (.cells #[.int .i64 a.1, .int .i64 a.2.1, .int .i64 a.2.2] 66)).alloc (.cells #[.int .i64 b.1, .int .i64 b.2.1, .int .i64 b.2.2] 66)) := ((Below.refl _ _).alloc (Nat.le_refl _) _).alloc (by simp) _
  have HB : Hid _ := hB
  clear hB
  by_cases h1 : a.1 = b.1
  · have e1 : (a.1 != b.1) = false := by simpa using h1
    by_cases h2 : a.2.1 = b.2.1
    · have e2 : (a.2.1 != b.2.1) = false := by simpa using h2
      have HL : Hid (Sy.lt a b = decide (a.2.2 < b.2.2)) := (by unfold Sy.lt; rw [e1, e2]; rfl : Sy.lt a b = decide (a.2.2 < b.2.2))
      clear h1 h2
      go_enter Tryz.func128, Tryz.ntmps128
      go_wp2
      go_ret
      exact ⟨by rw [HL.out]; rfl, HB.out⟩
    · have e2 : (a.2.1 != b.2.1) = true := by simpa using h2
      have HL : Hid (Sy.lt a b = decide (a.2.1 < b.2.1)) := (by unfold Sy.lt; rw [e1, e2]; rfl : Sy.lt a b = decide (a.2.1 < b.2.1))
      clear h1 h2
      go_enter Tryz.func128, Tryz.ntmps128
      go_wp2
      go_ret
      exact ⟨by rw [HL.out]; rfl, HB.out⟩
  · have e1 : (a.1 != b.1) = true := by simpa using h1
    have HL : Hid (Sy.lt a b = decide (a.1 < b.1)) := (by unfold Sy.lt; rw [e1]; rfl : Sy.lt a b = decide (a.1 < b.1))
    clear h1
    go_enter Tryz.func128, Tryz.ntmps128
    go_wp2
    go_ret
    exact ⟨by rw [HL.out]; rfl, HB.out⟩
/-- A list of edges that is read, with room for all of them. -/
def HasE (w : World) (v : Value) (es : List Sy.Ed) : Prop := ∃ ao cap, v = .slice ao es.length cap ∧ es.length ≤ cap ∧ BEdges.Has w v es
theorem HasE.below {w w' : World} {v : Value} {es : List Sy.Ed} (h : HasE w v es) (hb : Below w.heap.size w w') : HasE w' v es := by
  obtain ⟨ao, cap, h1, h2, h3⟩ := h
  exact ⟨ao, cap, h1, h2, h3.below hb⟩
theorem HasE.of_own {w : World} {B : Nat} {v : Value} {es : List Sy.Ed} (h : BEdges.Own w B v es) : HasE w v es := by
  have h3 := BEdges.Own.has h
  rcases h.2 with ⟨rfl, h0⟩ | ⟨g, cap, cur, rfl, _, _, hc, _⟩
  · exact ⟨none, 0, by rw [h0], by omega, h3⟩
  · exact ⟨_, cap, rfl, hc, h3⟩
theorem hasE_take {w : World} {ao : Option Addr} {n cap : Nat} {es : List Sy.Ed} (h : HasE w (.slice ao n cap) es) (k : Nat) (hk : k ≤ es.length) : HasE w (.slice ao k cap) (es.take k) := by
  obtain ⟨ao', cap', hv, hc, h3⟩ := h
  injection hv with e1 e2 e3
  subst e1; subst e2; subst e3
  have hl : (es.take k).length = k := by rw [List.length_take]; omega
  obtain ⟨ao2, cap2, hv2, h4⟩ := h3
  injection hv2 with f1 f2 f3
  subst f1; subst f3
  refine ⟨ao, cap, by rw [hl], by omega, ao, cap, by rw [hl], fun j u hj => ?_⟩
  refine h4 j u ?_
  have e : BEdges.C es = BEdges.C (es.take k) ++ BEdges.C (es.drop k) := by rw [← BEdges.C_app, List.take_append_drop]
  rw [e, List.getElem?_append_left (List.getElem?_eq_some_iff.1 hj).1]
  exact hj
theorem hasE_drop {w : World} {a : Addr} {n cap : Nat} {es : List Sy.Ed} (h : HasE w (.slice (some a) n cap) es) (k : Nat) (hk : k ≤ es.length) : HasE w (.slice (some (a.add (k * 3))) (n - k) (cap - k)) (es.drop k) := by
  obtain ⟨ao', cap', hv, hc, h3⟩ := h
  injection hv with e1 e2 e3
  subst e1; subst e2; subst e3
  have hl : (es.drop k).length = es.length - k := List.length_drop
  obtain ⟨ao2, cap2, hv2, h4⟩ := h3
  injection hv2 with f1 f2 f3
  subst f1; subst f3
  refine ⟨_, _, by rw [hl], by omega, _, _, by rw [hl], fun j u hj => ⟨_, rfl, ?_⟩⟩
  have e : BEdges.C es = BEdges.C (es.take k) ++ BEdges.C (es.drop k) := by rw [← BEdges.C_app, List.take_append_drop]
  have hcl : (BEdges.C (es.take k)).length = k * 3 := by rw [BEdges.C_len, List.length_take, Nat.min_eq_left hk]
  obtain ⟨a2, ha2, hc2⟩ := h4 (k * 3 + j) u (by rw [e, List.getElem?_append_right (by omega), hcl, Nat.add_sub_cancel_left]; exact hj)
  cases ha2
  rw [BEdges.add_q]
  exact hc2
end Go.Proofs.YtpmanmoljlhogaaGreatDoor
