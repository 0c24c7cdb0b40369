/- Plain facts on renamings; and the statement ActRenames where its arguments are none. -/
import Derived.Test.YtebeimjgppidcacDoorRename
import Derived.Test.YtebeimjgppidcacDoorLawCo
import Derived.Test.YtebeimjgppidcacDoorAlive2
namespace Go.Proofs.YtebeimjgppidcacDoor
open Go.RowKit
namespace Ac
theorem pairs_facts : ∀ (ps : List (Int × Int)) (last : Int), pairs last ps = true → ps.Pairwise (fun a b => a.1 < b.1) ∧ ∀ p ∈ ps, last < p.1 ∧ isN p.2 = true
  | [], _, _ => ⟨List.Pairwise.nil, by simp⟩
  | p :: r, last, h => by
    unfold pairs at h
    split at h
    · cases h
    · rename_i hc
      simp only [not_or, Bool.not_eq_false] at hc
      obtain ⟨h1, h2⟩ := pairs_facts r p.1 h
      refine ⟨List.pairwise_cons.2 ⟨fun q hq => (h2 q hq).1, h1⟩, fun q hq => ?_⟩
      rcases List.mem_cons.1 hq with rfl | hq
      · exact ⟨by omega, hc.2.2⟩
      · exact ⟨by have := (h2 q hq).1; omega, (h2 q hq).2⟩
theorem rise_unique {ps : List (Int × Int)} (h : ps.Pairwise (fun a b => a.1 < b.1)) {i j : Nat} {p q : Int × Int} (hi : ps[i]? = some p) (hj : ps[j]? = some q) (he : p.1 = q.1) : i = j := by
  obtain ⟨hi', rfl⟩ := List.getElem?_eq_some_iff.1 hi
  obtain ⟨hj', rfl⟩ := List.getElem?_eq_some_iff.1 hj
  rcases Nat.lt_trichotomy i j with h1 | h1 | h1
  · have := List.pairwise_iff_getElem.1 h i j hi' hj' h1; omega
  · exact h1
  · have := List.pairwise_iff_getElem.1 h j i hj' hi' h1; omega
theorem find_none : ∀ (ps : List (Int × Int)) (n : Int), (∀ (k : Nat) (p : Int × Int), ps[k]? = some p → p.1 ≠ n) → find ps n = none
  | [], _, _ => rfl
  | p :: r, n, h => by
    have h0 := h 0 p rfl
    show (if p.1 = n then some 0 else (find r n).map (· + 1)) = none
    rw [if_neg h0, find_none r n (fun k q hq => h (k + 1) q (by simpa using hq))]; rfl
theorem find_hit {ps : List (Int × Int)} (hr : ps.Pairwise (fun a b => a.1 < b.1)) {j : Nat} {p : Int × Int} (hj : ps[j]? = some p) : find ps p.1 = some j := by
  cases e : find ps p.1 with
  | none =>
    exfalso
    have h1 := find_step ps p.1 j (fun k q hk hq he => by have := rise_unique hr hq hj he; omega)
    rw [e, drop_at hj] at h1
    have h2 : find (p :: ps.drop (j + 1)) p.1 = some 0 := by show (if p.1 = p.1 then some 0 else _) = some 0; rw [if_pos rfl]
    rw [h2] at h1
    cases h1
  | some i =>
    obtain ⟨q, hq, he⟩ := find_some ps p.1 i e
    rw [rise_unique hr hq hj he]
theorem rename_hit {ps : List (Int × Int)} {l : Int} (hr : ps.Pairwise (fun a b => a.1 < b.1)) (hnm : named l = true) {j : Nat} {p : Int × Int} (hj : ps[j]? = some p) (he : p.1 = nameN l) (hy : isN p.2 = true) : rename ps l = label p.2 (nameC l) := by
  unfold rename
  rw [hnm, ← he, find_hit hr hj]
  simp [hj, hy]
theorem rename_miss {ps : List (Int × Int)} {l : Int} (h : ∀ (k : Nat) (p : Int × Int), ps[k]? = some p → p.1 ≠ nameN l) : rename ps l = l := by
  unfold rename
  rw [find_none ps _ h]; split <;> rfl
theorem rename_zero (ps : List (Int × Int)) : rename ps 0 = 0 := rfl
end Ac
theorem co_parts (l : Int) (h0 : 0 < l) (h1 : l < 201) : Ac.named (Ac.co l) = true ∧ Ac.nameN (Ac.co l) = Ac.nameN l ∧ Ac.nameC (Ac.co l) = !Ac.nameC l ∧ 0 < Ac.co l ∧ Ac.co l < 201 := by
  rw [co_pos l h0 h1, nameN_in l h0 h1]
  by_cases h : l % 2 = 0
  · rw [if_pos h, nameC_even l h0 h1 h]
    exact ⟨named_in _ (by omega) (by omega), by rw [nameN_in _ (by omega) (by omega)]; omega, by rw [nameC_odd _ (by omega)]; rfl, by omega, by omega⟩
  · rw [if_neg h, nameC_odd l h]
    exact ⟨named_in _ (by omega) (by omega), by rw [nameN_in _ (by omega) (by omega)]; omega, by rw [nameC_even _ (by omega) (by omega) (by omega)]; rfl, by omega, by omega⟩
theorem co_label (y : Int) (h0 : 0 ≤ y) (h1 : y < 100) (c : Bool) : Ac.co (Ac.label y c) = Ac.label y (!c) ∧ 0 < Ac.label y c ∧ Ac.nameN (Ac.label y c) = y := by
  cases c with
  | true =>
    rw [label_t y h0 h1, Bool.not_true, label_f y h0 h1]
    exact ⟨co_t y h0 h1, by omega, by rw [nameN_in _ (by omega) (by omega)]; omega⟩
  | false =>
    rw [label_f y h0 h1, Bool.not_false, label_t y h0 h1]
    exact ⟨co_f y h0 h1, by omega, by rw [nameN_in _ (by omega) (by omega)]; omega⟩
theorem isN_in {y : Int} (h : Ac.isN y = true) : 0 ≤ y ∧ y < 100 := by simpa [Ac.isN] using h
/-- A renaming renames a co-label as it does the label, and leaves none but Tau as Tau. -/
theorem rename_co (ps : List (Int × Int)) (l : Int) (hv : Ac.pairs (-1) ps = true) (h0 : 0 ≤ l) (h1 : l < 201) : Ac.rename ps (Ac.co l) = Ac.co (Ac.rename ps l) ∧ ((Ac.rename ps l == 0) = (l == 0)) := by
  obtain ⟨hr, hall⟩ := Ac.pairs_facts ps (-1) hv
  by_cases hz : l = 0
  · subst hz
    rw [co_zero, Ac.rename_zero, co_zero]; exact ⟨rfl, rfl⟩
  · obtain ⟨c1, c2, c3, c4, c5⟩ := co_parts l (by omega) h1
    have hl0 : (l == 0) = false := by simpa using hz
    by_cases hm : ∃ (j : Nat) (p : Int × Int), ps[j]? = some p ∧ p.1 = Ac.nameN l
    · obtain ⟨j, p, hj, he⟩ := hm
      have hy := (hall p (List.mem_of_getElem? hj)).2
      obtain ⟨y0, y1⟩ := isN_in hy
      obtain ⟨k1, k2, _⟩ := co_label p.2 y0 y1 (Ac.nameC l)
      rw [Ac.rename_hit hr c1 hj (by rw [c2]; exact he) hy, Ac.rename_hit hr (named_in l (by omega) h1) hj he hy, c3, k1, hl0]
      exact ⟨rfl, by simp; omega⟩
    · have hno : ∀ (k : Nat) (p : Int × Int), ps[k]? = some p → p.1 ≠ Ac.nameN l := fun k p hk he => hm ⟨k, p, hk, he⟩
      rw [Ac.rename_miss (l := Ac.co l) (by rw [c2]; exact hno), Ac.rename_miss hno]
      exact ⟨rfl, rfl⟩
set_option maxRecDepth 100000 in
set_option maxHeartbeats 2000000 in
/-- Arguments that are no renaming, or no label, or too many. -/
theorem lawRenames_out (v : Value) (ps : List (Int × Int)) (l : Int) (a : Addr) (w : World) (hH : HasP w v ps) (hn : ps.length ≤ maxLen) (h : Ac.pairs (-1) ps = false ∨ l < 0 ∨ 201 ≤ l ∨ 300 < ps.length) (hU : w.cell? ⟨3, 0, none⟩ = some (.iface 103 (.pointer (some a)))) :
    Calls Tryd.prog 7 #[v, .int .i64 l] w fun e w' => e = .returned (.bool true) ∧ Below w.heap.size w w' := by
  have hP := pairs_any v ps w hH hn
  have hul := World.block_lt_of_cell? w _ hU
  obtain ⟨ao, cap, rfl, _⟩ := hH
  cases hp : Ac.pairs (-1) ps with
  | false =>
    rw [hp] at hP
    clear h
    go_enter Tryd.func7, Tryd.ntmps7
    go_wp2_with fail
    refine hP.mono ?_
    rintro r w1 ⟨rfl, hb1⟩
    have hU1 := (hb1.cell hul).trans hU
    have HB1 : Hid (Below w.heap.size w w1) := hb1
    clear hb1
    go_wp2_with (go_at_call 9; refine (alive2_any a w1 hU1).mono ?_; rintro r w' ⟨rfl, hb⟩)
    go_ret
    exact ⟨rfl, HB1.out.trans (hb.mono HB1.out.size)⟩
  | true =>
    rw [hp] at hP
    have h' : l < 0 ∨ 201 ≤ l ∨ 300 < ps.length := h.resolve_left (by rw [hp]; simp)
    clear h hp
    obtain ⟨n, hN⟩ : ∃ n, n = ps.length := ⟨_, rfl⟩
    rw [← hN] at hP h' ⊢
    clear hN hn
    rcases (show l < 0 ∨ (0 ≤ l ∧ 201 ≤ l) ∨ (0 ≤ l ∧ l < 201 ∧ 300 < n) from by omega) with h | ⟨h0, h⟩ | ⟨h0, h1, h⟩
    · clear h'
      go_enter Tryd.func7, Tryd.ntmps7
      go_wp2_with fail
      refine hP.mono ?_
      rintro r w1 ⟨rfl, hb1⟩
      have hU1 := (hb1.cell hul).trans hU
      have HB1 : Hid (Below w.heap.size w w1) := hb1
      clear hb1
      go_wp2_with (go_at_call 9; refine (alive2_any a w1 hU1).mono ?_; rintro r w' ⟨rfl, hb⟩)
      go_ret
      exact ⟨rfl, HB1.out.trans (hb.mono HB1.out.size)⟩
    · clear h'
      go_enter Tryd.func7, Tryd.ntmps7
      go_wp2_with fail
      refine hP.mono ?_
      rintro r w1 ⟨rfl, hb1⟩
      have hU1 := (hb1.cell hul).trans hU
      have HB1 : Hid (Below w.heap.size w w1) := hb1
      clear hb1
      go_wp2_with (go_at_call 9; refine (alive2_any a w1 hU1).mono ?_; rintro r w' ⟨rfl, hb⟩)
      go_ret
      exact ⟨rfl, HB1.out.trans (hb.mono HB1.out.size)⟩
    · have h9 : (300 : Int) < (n : Int) := by omega
      clear h'
      go_enter Tryd.func7, Tryd.ntmps7
      go_wp2_with fail
      refine hP.mono ?_
      rintro r w1 ⟨rfl, hb1⟩
      have hU1 := (hb1.cell hul).trans hU
      have HB1 : Hid (Below w.heap.size w w1) := hb1
      clear hb1
      go_wp2_with (go_at_call 9; refine (alive2_any a w1 hU1).mono ?_; rintro r w' ⟨rfl, hb⟩)
      go_ret
      exact ⟨rfl, HB1.out.trans (hb.mono HB1.out.size)⟩
end Go.Proofs.YtebeimjgppidcacDoor
