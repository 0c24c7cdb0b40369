/- Contracts of slices.Index, slices.Contains, act.In, and of the document's own In and Rename. -/
import Derived.Test.YtebeimjgppidcacDoorInts
import Derived.Test.YtebeimjgppidcacDoorRename
namespace Go.Proofs.YtebeimjgppidcacDoor
open Go.RowKit
namespace Ac
def isIn (zs : List Int) (l : Int) : Bool := named l && zs.contains (nameN l)
end Ac
theorem contains_yes {zs : List Int} {j : Nat} {z : Int} (h : zs[j]? = some z) : zs.contains z = true := by
  simpa using List.mem_of_getElem? h
theorem contains_no {zs : List Int} {x : Int} {n : Nat} (hn : n = zs.length) (h : ∀ (k : Nat) (z : Int), k < n → zs[k]? = some z → z ≠ x) : zs.contains x = false := by
  cases e : zs.contains x with
  | false => rfl
  | true =>
    have hm : x ∈ zs := by simpa using e
    obtain ⟨k, hk, rfl⟩ := List.getElem_of_mem hm
    exact absurd rfl (h k _ (by omega) (List.getElem?_eq_getElem hk))
set_option maxRecDepth 100000 in
set_option maxHeartbeats 1000000 in
theorem index_any (v : Value) (zs : List Int) (x : Int) (w : World) (hH : HasI w v zs) (hn : zs.length ≤ 1000000) :
    Calls Tryd.prog 50 #[v, .int .i64 x] w fun e w' => ∃ k : Int, e = .returned (.int .i64 k) ∧ decide (0 ≤ k) = zs.contains x ∧ w' = w := by
  obtain ⟨ao, cap, rfl, hcells⟩ := hH
  obtain ⟨n, hN⟩ : ∃ n, n = zs.length := ⟨_, rfl⟩
  have HH : Hid ((∀ (i : Nat) (z : Int), zs[i]? = some z → ∃ a, ao = some a ∧ w.cell? (a.add i) = some (.int .i64 z)) ∧ n = zs.length) := ⟨hcells, hN⟩
  rw [← hN] at hn ⊢
  clear hcells hN
  go_enter Tryd.func50, Tryd.ntmps50
  go_wp2_with fail
  go_loopg [8] n (fun g i wr => ∃ (j : Nat), g = n - j ∧ j ≤ n ∧ i = .int .i64 j ∧ (∀ (k : Nat) (z : Int), k < j → zs[k]? = some z → z ≠ x) ∧ w = wr)
  case atStart => exact ⟨0, rfl, Nat.zero_le _, rfl, fun k p h => by omega, rfl⟩
  case round =>
    obtain ⟨j, rfl, hj, rfl, hR, rfl⟩ := hrel
    have HB : Hid (∀ (k : Nat) (z : Int), k < j → zs[k]? = some z → z ≠ x) := hR
    clear hR
    by_cases hlt : j < n
    · obtain ⟨z, hz⟩ : ∃ z, zs[j]? = some z := ⟨zs[j]'(by have := HH.out.2; omega), List.getElem?_eq_getElem _⟩
      obtain ⟨a, rfl, c0⟩ := HH.out.1 j z hz
      have HZ : Hid (zs[j]? = some z) := hz
      have q0 : (0 : Int) ≤ (j : Int) := by omega
      have q1 : (j : Int) < (n : Int) := by omega
      clear hz
      by_cases hx : x = z
      · have e1 : (x == z) = true := by simpa using hx
        have HF : Hid (zs.contains x = true) := (by rw [hx]; exact contains_yes HZ.out : zs.contains x = true)
        clear hx
        go_wp2_with fail
        go_ret
        exact ⟨(j : Int), rfl, by have h := HF.out; simp at h; simp [h], rfl⟩
      · have e1 : (x == z) = false := by simpa using hx
        have HX : Hid (x ≠ z) := hx
        clear hx
        go_wp2_with fail
        go_roundg (n - (j + 1))
        case measure => omega
        case rel => exact ⟨j + 1, rfl, by omega, by go_num, fun k y hk hy => by
          rcases Nat.lt_or_ge k j with h | h
          · exact HB.out k y h hy
          · obtain rfl : k = j := by omega
            rw [HZ.out] at hy
            cases hy
            exact fun e => HX.out e.symm, rfl⟩
    · have q1 : ¬ (j : Int) < (n : Int) := by omega
      have HF : Hid (zs.contains x = false) := contains_no HH.out.2 fun k z hk hz => HB.out k z (by omega) hz
      go_wp2_with fail
      go_ret
      exact ⟨-1, rfl, by have h := HF.out; simp at h; simp [h], rfl⟩
set_option maxRecDepth 100000 in
set_option maxHeartbeats 1000000 in
theorem in_any (v : Value) (zs : List Int) (l : Int) (w : World) (hH : HasI w v zs) (hn : zs.length ≤ 1000000) :
    Calls Tryd.prog 13 #[v, .int .i64 l] w fun e w' => e = .returned (.bool (Ac.isIn zs l)) ∧ w' = w := by
  have hC := nameOf_any l w
  have hK : Calls Tryd.prog 37 #[v, .int .i64 (Ac.nameN l)] w fun e w' => e = .returned (.bool (zs.contains (Ac.nameN l))) ∧ w' = w := by
    have hI := index_any v zs (Ac.nameN l) w hH hn
    generalize Ac.nameN l = x at hI
    generalize zs.contains x = c at hI
    obtain ⟨ao, cap, rfl, _⟩ := hH
    go_enter Tryd.func37, Tryd.ntmps37
    go_wp2_with fail
    refine hI.mono ?_
    rintro r w' ⟨k, rfl, hk, hw⟩
    obtain rfl := hw.symm
    go_wp2_with fail
    go_ret
    exact ⟨by first | rfl | rw [← hk]; rfl, rfl⟩
  obtain ⟨ao, cap, rfl, _⟩ := hH
  cases hnm : Ac.named l with
  | false =>
    have HF : Hid (Ac.isIn zs l = false) := (by unfold Ac.isIn; rw [hnm]; rfl : Ac.isIn zs l = false)
    rw [hnm] at hC
    clear hnm hK
    go_enter Tryd.func13, Tryd.ntmps13
    go_wp2_with (go_at_call 32; refine hC.mono ?_; rintro r w' ⟨rfl, hw⟩; obtain rfl := hw.symm)
    go_ret
    exact ⟨by rw [HF.out]; rfl, rfl⟩
  | true =>
    have HF : Hid (Ac.isIn zs l = zs.contains (Ac.nameN l)) := (by unfold Ac.isIn; rw [hnm]; rfl : Ac.isIn zs l = zs.contains (Ac.nameN l))
    rw [hnm] at hC
    clear hnm
    generalize Ac.nameN l = x at hC hK HF
    generalize zs.contains x = c at hK HF
    go_enter Tryd.func13, Tryd.ntmps13
    go_wp2_with (first | (go_at_call 32; refine hC.mono ?_; rintro r w' ⟨rfl, hw⟩; obtain rfl := hw.symm) | (go_at_call 37; refine hK.mono ?_; rintro r w' ⟨rfl, hw⟩; obtain rfl := hw.symm))
    go_ret
    exact ⟨by rw [HF.out]; rfl, rfl⟩
end Go.Proofs.YtebeimjgppidcacDoor
