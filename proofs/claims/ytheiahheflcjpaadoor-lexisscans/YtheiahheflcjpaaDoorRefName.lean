/- Contracts of the document's own IsName and IsConst. -/
import Derived.Test.YtheiahheflcjpaaDoorNames
namespace Go.Proofs.YtheiahheflcjpaaDoor
open Go.RowKit
theorem small_of (c : Int) : Lx.smallZ c = (Lx.letterZ c && decide (97 ≤ c)) := by
  unfold Lx.letterZ Lx.smallZ Lx.greatZ
  rw [Bool.eq_iff_iff]
  simp
  omega
theorem great_of (c : Int) : Lx.greatZ c = (Lx.letterZ c && !decide (97 ≤ c)) := by
  unfold Lx.letterZ Lx.smallZ Lx.greatZ
  rw [Bool.eq_iff_iff]
  simp
  omega
set_option maxHeartbeats 1000000 in
theorem refName_no (s : ByteArray) (small : Bool) (w : World) (hs : s.size ≤ maxLen) (h : s.size = 0 ∨ 32 < s.size) :
    Calls Tryd.prog 39 #[.string s, .bool small] w fun e w' => e = .returned (.bool false) ∧ w' = w := by
  unfold maxLen at hs
  rcases h with h | h
  · have z0 : ((s.size : Int) == 0) = true := by rw [h]; rfl
    go_enter Tryd.func39, Tryd.ntmps39
    go_wp2
    go_ret
    exact ⟨rfl, rfl⟩
  · have z0 : ((s.size : Int) == 0) = false := beq_eq_false_iff_ne.2 (by omega)
    have z1 : (32 : Int) < (s.size : Int) := by omega
    go_enter Tryd.func39, Tryd.ntmps39
    go_wp2
    go_ret
    exact ⟨rfl, rfl⟩
set_option maxHeartbeats 1000000 in
theorem refName_head (s : ByteArray) (small : Bool) (w : World) (h0 : 0 < s.size) (h1 : s.size ≤ 32) (h : Lx.letterZ (s[0].toNat : Int) = false ∨ (Lx.letterZ (s[0].toNat : Int) = true ∧ (small == decide ((97 : Int) ≤ ((s[0].toNat : Nat) : Int))) = false)) :
    Calls Tryd.prog 39 #[.string s, .bool small] w fun e w' => e = .returned (.bool false) ∧ w' = w := by
  have z0 : ((s.size : Int) == 0) = false := beq_eq_false_iff_ne.2 (by omega)
  have z1 : ¬ (32 : Int) < (s.size : Int) := by omega
  rcases h with h | ⟨h, hb⟩
  · go_enter Tryd.func39, Tryd.ntmps39
    go_wp2_with (go_at_call 33; refine (letter_any _ _).mono ?_; rintro e w' ⟨rfl, rfl⟩)
    go_ret
    exact ⟨rfl, rfl⟩
  · go_enter Tryd.func39, Tryd.ntmps39
    go_wp2_with (go_at_call 33; refine (letter_any _ _).mono ?_; rintro e w' ⟨rfl, rfl⟩)
    go_ret
    exact ⟨rfl, rfl⟩
set_option maxHeartbeats 1000000 in
theorem refName_run (s : ByteArray) (small : Bool) (w : World) (h0 : 0 < s.size) (h1 : s.size ≤ 32) (h : Lx.letterZ (s[0].toNat : Int) = true) (hb : (small == decide ((97 : Int) ≤ ((s[0].toNat : Nat) : Int))) = true) :
    Calls Tryd.prog 39 #[.string s, .bool small] w fun e w' => e = .returned (.bool (Lx.allGo s.data.toList)) ∧ w' = w := by
  have z0 : ((s.size : Int) == 0) = false := beq_eq_false_iff_ne.2 (by omega)
  have z1 : ¬ (32 : Int) < (s.size : Int) := by omega
  have HLEN : Hid (s.data.toList.length = s.size) := (by simp : s.data.toList.length = s.size)
  go_enter Tryd.func39, Tryd.ntmps39
  go_wp2_with (go_at_call 33; refine (letter_any _ _).mono ?_; rintro e w' ⟨rfl, rfl⟩)
  go_loop [5] (fun i => ∃ j : Nat, j ≤ s.size ∧ i = .int .i64 j ∧ ∀ k (hk : k < s.data.toList.length), k < j → Lx.goB (s.data.toList[k].toNat : Int) = true) (fun i => s.size - (intOf i).toNat)
  case atStart => exact ⟨0, Nat.zero_le _, rfl, fun k _ h => by omega⟩
  case round =>
    obtain ⟨j, hj, rfl, hr⟩ := hrel
    have HR : Hid (∀ k (hk : k < s.data.toList.length), k < j → Lx.goB (s.data.toList[k].toNat : Int) = true) := hr
    clear hr
    by_cases hlt : j < s.size
    · have hl : j < s.data.toList.length := by have := HLEN.out; omega
      cases hg : Lx.goB (s[j].toNat : Int) with
      | true =>
        go_wp2_with (go_at_call 32; refine (inner_any _ _).mono ?_; rintro e w' ⟨rfl, rfl⟩)
        go_round
        case rel => exact ⟨j + 1, by omega, by go_num, fun k hk h => by
          rcases Nat.lt_or_ge k j with h' | h'
          · exact HR.out k hk h'
          · obtain rfl : k = j := by omega
            exact hg⟩
        case measure => simp [intOf]; omega
      | false =>
        have HF : Hid (Lx.allGo s.data.toList = false) := Lx.not_allGo _ j hl hg
        go_wp2_with (go_at_call 32; refine (inner_any _ _).mono ?_; rintro e w' ⟨rfl, rfl⟩)
        go_ret
        exact ⟨ret_bool HF.out.symm, rfl⟩
    · have HF : Hid (Lx.allGo s.data.toList = true) := Lx.allGo_of _ fun k hk => HR.out k hk (by have := HLEN.out; omega)
      go_wp2
      go_ret
      exact ⟨ret_bool HF.out.symm, rfl⟩
theorem refName_any (s : ByteArray) (small : Bool) (w : World) (hs : s.size ≤ maxLen) :
    Calls Tryd.prog 39 #[.string s, .bool small] w fun e w' => e = .returned (.bool (Lx.nameZ small s)) ∧ w' = w := by
  by_cases h : s.size = 0 ∨ 32 < s.size
  · have hz : Lx.nameZ small s = false := by
      rcases h with h | h
      · simp [Lx.nameZ, h]
      · have : decide (s.size ≤ 32) = false := by simp; omega
        unfold Lx.nameZ
        split
        · rw [this]; rfl
        · rfl
    rw [hz]
    exact refName_no s small w hs h
  · have h0 : 0 < s.size := by omega
    have h1 : s.size ≤ 32 := by omega
    have d1 : decide (s.size ≤ 32) = true := by simpa using h1
    rw [nameZ_eq _ _ h0, d1, Bool.true_and]
    cases hl : Lx.letterZ (s[0].toNat : Int) with
    | false =>
      have hz : (if small = true then Lx.smallZ (s[0].toNat : Int) else Lx.greatZ (s[0].toNat : Int)) = false := by
        rw [small_of, great_of, hl]; simp
      rw [hz, Bool.and_false]
      exact refName_head s small w h0 h1 (.inl hl)
    | true =>
      cases hb : (small == decide ((97 : Int) ≤ ((s[0].toNat : Nat) : Int))) with
      | false =>
        have hz : (if small = true then Lx.smallZ (s[0].toNat : Int) else Lx.greatZ (s[0].toNat : Int)) = false := by
          rw [small_of, great_of, hl]
          cases small <;> simp_all
        rw [hz, Bool.and_false]
        exact refName_head s small w h0 h1 (.inr ⟨hl, hb⟩)
      | true =>
        have hz : (if small = true then Lx.smallZ (s[0].toNat : Int) else Lx.greatZ (s[0].toNat : Int)) = true := by
          rw [small_of, great_of, hl]
          cases small <;> simp_all
        rw [hz, Bool.and_true]
        exact refName_run s small w h0 h1 hl hb
theorem refIsName_any (s : ByteArray) (w : World) (hs : s.size ≤ maxLen) :
    Calls Tryd.prog 17 #[.string s] w fun e w' => e = .returned (.bool (Lx.nameZ true s)) ∧ w' = w := by
  have hC := refName_any s true w hs
  go_enter Tryd.func17, Tryd.ntmps17
  go_wp2_with (go_at_call 39; refine hC.mono ?_; rintro e w' ⟨rfl, rfl⟩)
  go_ret
  exact ⟨rfl, rfl⟩
theorem refIsConst_any (s : ByteArray) (w : World) (hs : s.size ≤ maxLen) :
    Calls Tryd.prog 19 #[.string s] w fun e w' => e = .returned (.bool (Lx.nameZ false s)) ∧ w' = w := by
  have hC := refName_any s false w hs
  go_enter Tryd.func19, Tryd.ntmps19
  go_wp2_with (go_at_call 39; refine hC.mono ?_; rintro e w' ⟨rfl, rfl⟩)
  go_ret
  exact ⟨rfl, rfl⟩
end Go.Proofs.YtheiahheflcjpaaDoor
