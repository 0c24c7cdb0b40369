/- Contracts of the document's own In and Rename. -/
import Derived.Test.YtebeimjgppidcacDoorInSets
import Derived.Test.YtebeimjgppidcacDoorRefLab
namespace Go.Proofs.YtebeimjgppidcacDoor
open Go.RowKit
theorem isN_eq' (z : Int) : Ac.isN z = false ↔ z < 0 ∨ 100 ≤ z := by simp [Ac.isN]; omega
set_option maxRecDepth 100000 in
set_option maxHeartbeats 1000000 in
theorem refIn_any (v : Value) (zs : List Int) (l : Int) (w : World) (hH : HasI w v zs) (hn : zs.length ≤ 1000000) :
    Calls Tryd.prog 14 #[v, .int .i64 l] w fun e w' => e = .returned (.bool (Ac.isIn zs l)) ∧ w' = w := by
  have hC := refNameOf_any l w
  obtain ⟨ao, cap, rfl, hcells⟩ := hH
  cases hnm : Ac.named l with
  | false =>
    have HF : Hid (Ac.isIn zs l = false) := (by unfold Ac.isIn; rw [hnm]; rfl : Ac.isIn zs l = false)
    rw [hnm] at hC
    clear hnm hcells
    go_enter Tryd.func14, Tryd.ntmps14
    go_wp2_with (go_at_call 38; refine hC.mono ?_; rintro r w' ⟨rfl, hw⟩; obtain rfl := hw.symm)
    go_ret
    exact ⟨by rw [HF.out]; rfl, rfl⟩
  | true =>
    have HF : Hid (Ac.isIn zs l = zs.contains (Ac.nameN l)) := (by unfold Ac.isIn; rw [hnm]; rfl : Ac.isIn zs l = zs.contains (Ac.nameN l))
    rw [hnm] at hC
    clear hnm
    generalize Ac.nameN l = x at hC HF
    obtain ⟨n, hN⟩ : ∃ n, n = zs.length := ⟨_, rfl⟩
    have HH : Hid ((∀ (i : Nat) (z : Int), zs[i]? = some z → ∃ a, ao = some a ∧ w.cell? (a.add i) = some (.int .i64 z)) ∧ n = zs.length) := ⟨hcells, hN⟩
    rw [← hN] at hn ⊢
    clear hcells hN
    go_enter Tryd.func14, Tryd.ntmps14
    go_wp2_with (go_at_call 38; refine hC.mono ?_; rintro r w' ⟨rfl, hw⟩; obtain rfl := hw.symm)
    go_loopg [8] n (fun g i wr => ∃ (j : Nat), g = n - j ∧ j ≤ n ∧ i = .int .i64 j ∧ (∀ (k : Nat) (z : Int), k < j → zs[k]? = some z → z ≠ x) ∧ w = wr)
    case atStart => exact ⟨0, rfl, Nat.zero_le _, rfl, fun k p h => by omega, rfl⟩
    case round =>
      obtain ⟨j, rfl, hj, rfl, hR, rfl⟩ := hrel
      have HB : Hid (∀ (k : Nat) (z : Int), k < j → zs[k]? = some z → z ≠ x) := hR
      clear hR
      by_cases hlt : j < n
      · obtain ⟨z, hz⟩ : ∃ z, zs[j]? = some z := ⟨zs[j]'(by have := HH.out.2; omega), List.getElem?_eq_getElem _⟩
        obtain ⟨a, rfl, c0⟩ := HH.out.1 j z hz
        have HZ : Hid (zs[j]? = some z) := hz
        have q0 : (0 : Int) ≤ (j : Int) := by omega
        have q1 : (j : Int) < (n : Int) := by omega
        clear hz
        by_cases hx : z = x
        · have e1 : (z == x) = true := by simpa using hx
          have HC : Hid (zs.contains x = true) := (by rw [← hx]; exact contains_yes HZ.out : zs.contains x = true)
          clear hx
          go_wp2_with fail
          go_ret
          exact ⟨by rw [HF.out, HC.out]; rfl, rfl⟩
        · have e1 : (z == x) = false := by simpa using hx
          have HX : Hid (z ≠ x) := hx
          clear hx
          go_wp2_with fail
          go_roundg (n - (j + 1))
          case measure => omega
          case rel => exact ⟨j + 1, rfl, by omega, by go_num, fun k y hk hy => by
            rcases Nat.lt_or_ge k j with h | h
            · exact HB.out k y h hy
            · obtain rfl : k = j := by omega
              rw [HZ.out] at hy
              cases hy
              exact HX.out, rfl⟩
      · have q1 : ¬ (j : Int) < (n : Int) := by omega
        have HC : Hid (zs.contains x = false) := contains_no HH.out.2 fun k z hk hz => HB.out k z (by omega) hz
        go_wp2_with fail
        go_ret
        exact ⟨by rw [HF.out, HC.out]; rfl, rfl⟩
set_option maxRecDepth 100000 in
set_option maxHeartbeats 1000000 in
theorem refRename_any (v : Value) (ps : List (Int × Int)) (l : Int) (w : World) (hH : HasP w v ps) (hn : ps.length ≤ 1000000) :
    Calls Tryd.prog 18 #[v, .int .i64 l] w fun e w' => e = .returned (.int .i64 (Ac.rename ps l)) ∧ w' = w := by
  have hC := refNameOf_any l w
  obtain ⟨ao, cap, rfl, hcells⟩ := hH
  cases hnm : Ac.named l with
  | false =>
    have HF : Hid (Ac.rename ps l = l) := (by unfold Ac.rename; rw [hnm]; rfl : Ac.rename ps l = l)
    rw [hnm] at hC
    clear hnm hcells
    go_enter Tryd.func18, Tryd.ntmps18
    go_wp2_with (go_at_call 38; refine hC.mono ?_; rintro r w' ⟨rfl, hw⟩; obtain rfl := hw.symm)
    go_ret
    exact ⟨by rw [HF.out]; rfl, rfl⟩
  | true =>
    have HF : Hid (Ac.rename ps l = match Ac.find ps (Ac.nameN l) with
      | none => l
      | some i => match ps[i]? with
        | none => l
        | some p => if Ac.isN p.2 then Ac.label p.2 (Ac.nameC l) else l) := (by unfold Ac.rename; rw [hnm]; rfl)
    rw [hnm] at hC
    clear hnm
    generalize Ac.nameN l = x at hC HF
    generalize Ac.nameC l = c at hC HF
    obtain ⟨n, hN⟩ : ∃ n, n = ps.length := ⟨_, rfl⟩
    have HH : Hid ((∀ (i : Nat) (p : Int × Int), ps[i]? = some p → ∃ a, ao = some a ∧ w.cell? (a.add (i * 2)) = some (.int .i64 p.1) ∧ w.cell? (a.add (i * 2 + 1)) = some (.int .i64 p.2)) ∧ n = ps.length) := ⟨hcells, hN⟩
    rw [← hN] at hn ⊢
    clear hcells hN
    go_enter Tryd.func18, Tryd.ntmps18
    go_wp2_with (go_at_call 38; refine hC.mono ?_; rintro r w' ⟨rfl, hw⟩; obtain rfl := hw.symm)
    go_loopg [8] n (fun g i wr => ∃ (j : Nat), g = n - j ∧ j ≤ n ∧ i = .int .i64 j ∧ (∀ (k : Nat) (p : Int × Int), k < j → ps[k]? = some p → p.1 ≠ x) ∧ w = wr)
    case atStart => exact ⟨0, rfl, Nat.zero_le _, rfl, fun k p h => by omega, rfl⟩
    case round =>
      obtain ⟨j, rfl, hj, rfl, hR, rfl⟩ := hrel
      have HB : Hid (∀ (k : Nat) (p : Int × Int), k < j → ps[k]? = some p → p.1 ≠ x) := hR
      clear hR
      by_cases hlt : j < n
      · obtain ⟨p, hp⟩ : ∃ p, ps[j]? = some p := ⟨ps[j]'(by have := HH.out.2; omega), List.getElem?_eq_getElem _⟩
        obtain ⟨a, rfl, c0, c1⟩ := HH.out.1 j p hp
        obtain ⟨y, z⟩ := p
        have HZ : Hid (ps[j]? = some (y, z)) := hp
        have d2 : w.cell? ((a.add (j * 2)).add 1) = some (.int .i64 z) := by rw [add_two]; exact c1
        have d3 : w.cell? ⟨(a.add (j * 2)).block, (a.add (j * 2)).off + 1, none⟩ = some (.int .i64 z) := by rw [← d2]; rfl
        have q0 : (0 : Int) ≤ (j : Int) := by omega
        have q1 : (j : Int) < (n : Int) := by omega
        clear hp
        by_cases hx : y = x
        · have e1 : (y == x) = true := by simpa using hx
          have HM : Hid (Ac.rename ps l = if Ac.isN z then Ac.label z c else l) := (by
            have hf : Ac.find ps x = some j := by
              rw [Ac.find_step ps x j HB.out, drop_at HZ.out]
              show Option.map (· + j) (if y = x then some 0 else _) = _
              rw [if_pos hx]; simp
            rw [HF.out, hf]
            simp only [HZ.out] : Ac.rename ps l = if Ac.isN z then Ac.label z c else l)
          clear hx
          by_cases h1 : z < 0
          · have HM2 : Hid (Ac.rename ps l = l) := (by rw [HM.out, (isN_eq' z).2 (.inl h1)]; rfl : Ac.rename ps l = l)
            go_wp2_with fail
            go_ret
            exact ⟨by rw [HM2.out]; rfl, rfl⟩
          · by_cases h2 : 100 ≤ z
            · have HM2 : Hid (Ac.rename ps l = l) := (by rw [HM.out, (isN_eq' z).2 (.inr h2)]; rfl : Ac.rename ps l = l)
              go_wp2_with fail
              go_ret
              exact ⟨by rw [HM2.out]; rfl, rfl⟩
            · have hz : Ac.isN z = true := by unfold Ac.isN; exact decide_eq_true ⟨by omega, by omega⟩
              have HM2 : Hid (Ac.rename ps l = Ac.label z c) := (by rw [HM.out, hz]; rfl : Ac.rename ps l = Ac.label z c)
              clear hz
              go_wp2_with (go_at_call 41; refine (refLabel_any _ _ _).mono ?_; rintro r w' ⟨rfl, hw⟩; obtain rfl := hw.symm)
              go_ret
              exact ⟨by rw [HM2.out]; rfl, rfl⟩
        · have e1 : (y == x) = false := by simpa using hx
          have HX : Hid (y ≠ x) := hx
          clear hx
          go_wp2_with fail
          go_roundg (n - (j + 1))
          case measure => omega
          case rel => exact ⟨j + 1, rfl, by omega, by go_num, fun k p hk hp => by
            rcases Nat.lt_or_ge k j with h | h
            · exact HB.out k p h hp
            · obtain rfl : k = j := by omega
              rw [HZ.out] at hp
              cases hp
              exact HX.out, rfl⟩
      · have q1 : ¬ (j : Int) < (n : Int) := by omega
        have HM : Hid (Ac.rename ps l = l) := (by
          have hf : Ac.find ps x = none := by
            rw [Ac.find_step ps x j HB.out, List.drop_eq_nil_of_le (by have := HH.out.2; omega)]; rfl
          rw [HF.out, hf] : Ac.rename ps l = l)
        go_wp2_with fail
        go_ret
        exact ⟨by rw [HM.out]; rfl, rfl⟩
end Go.Proofs.YtebeimjgppidcacDoor
