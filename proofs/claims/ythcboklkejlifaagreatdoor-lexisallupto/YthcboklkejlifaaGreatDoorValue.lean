/- Contract of lexis.value: a number's value, or api's error against it. -/
import Derived.Test.YthcboklkejlifaaGreatDoorRun
namespace Go.Proofs.YthcboklkejlifaaGreatDoor
open Go.RowKit
/-- What value answers, of a number's value and code. -/
def numOut (eL eW : Value) (r : Nat × Nat) : Value := .tuple #[.int .i64 (r.1 : Int), if r.2 = 0 then .nilIface else if r.2 = 4 then eW else eL]
theorem out_ok {eL eW : Value} {r : Nat × Nat} {v : Nat} {x : Int} (h : r = (v, 0)) (hx : x = (v : Int)) : Ending.returned (.tuple #[.int .i64 x, .nilIface]) = .returned (numOut eL eW r) := by subst h; subst hx; rfl
theorem out_word {eL eW : Value} {r : Nat × Nat} (h : r = (0, 4)) : Ending.returned (.tuple #[.int .i64 0, eW]) = .returned (numOut eL eW r) := by subst h; rfl
theorem out_long {eL eW : Value} {r : Nat × Nat} (h : r = (0, 2)) : Ending.returned (.tuple #[.int .i64 0, eL]) = .returned (numOut eL eW r) := by subst h; rfl
theorem ret_pair {k : IntKind} {a b : Int} {x : Value} (h : a = b) : Ending.returned (.tuple #[.int k a, x]) = .returned (.tuple #[.int k b, x]) := by rw [h]
theorem toList_data (s : ByteArray) : s.toList = s.data.toList := ByteArray.toList_eq s
theorem head_of (s : ByteArray) (hp : 0 < s.size) : s.data.toList.head? = some s[0] := by
  have h : 0 < s.data.toList.length := by simpa using hp
  cases e : s.data.toList with
  | nil => rw [e] at h; simp at h
  | cons c r =>
    have : s.data.toList[0]'h = s[0] := rfl
    simp only [e] at this
    simp at this
    simp [this]
theorem num_head (s : ByteArray) (hp : 0 < s.size) (h : (s[0].toNat : Int) = 48) (h9 : (s.data.toList == [48]) = false) : Lx.numR s.data.toList = (0, 4) := by
  have h1 : s[0] = 48 := UInt8.toNat_inj.1 (by have : s[0].toNat = 48 := Int.ofNat.inj h; rw [this]; rfl)
  have h2 : Lx.badHead s.data.toList = true := by
    unfold Lx.badHead
    rw [head_of s hp, h1]
    have : (s.data.toList != [48]) = true := by rw [bne, h9]; rfl
    simp [this]
  simp [Lx.numR, h2]
theorem bad_not (s : ByteArray) (hp : 0 < s.size) (h : ¬ (s[0].toNat : Int) = 48 ∨ (s.data.toList == [48]) = true) : Lx.badHead s.data.toList = false := by
  unfold Lx.badHead
  rw [head_of s hp]
  have hne : (s.data.toList == []) = false := by
    cases e : s.data.toList with
    | nil => have h7 : s.size = 0 := by
               show s.data.size = 0
               simpa using congrArg List.length e
             omega
    | cons c r => rfl
  rw [hne]
  rcases h with h | h
  · have : (some s[0] == some (48 : UInt8)) = false := by
      simp only [Option.some_beq_some, beq_eq_false_iff_ne, ne_eq]
      intro h'; apply h; rw [h']; rfl
    rw [this]; rfl
  · have : (s.data.toList != [48]) = false := by rw [bne, h]; rfl
    rw [this]; simp
theorem num_long {l : List UInt8} (h1 : Lx.badHead l = false) (h2 : Lx.allDig l = true) (h3 : Lx.foldN 0 l = none) : Lx.numR l = (0, 2) := by simp [Lx.numR, h1, h2, h3]
theorem num_ok {l : List UInt8} {n : Nat} (h1 : Lx.badHead l = false) (h2 : Lx.allDig l = true) (h3 : Lx.foldN 0 l = some n) : Lx.numR l = (n, 0) := by simp [Lx.numR, h1, h2, h3]
set_option maxHeartbeats 1000000 in
theorem value_any (s : ByteArray) (eL eW : Value) (w : World) (hs : s.size ≤ maxLen) (hL : w.cell? ⟨0, 0, none⟩ = some eL) (hW : w.cell? ⟨1, 0, none⟩ = some eW) :
    Calls Tryz.prog 83 #[.string s] w fun e w' => e = .returned (numOut eL eW (Lx.numR s.data.toList)) ∧ ∃ n, w' = w.drewN n := by
  unfold maxLen at hs
  by_cases h0 : s.size = 0
  · obtain rfl : s = ⟨#[]⟩ := by apply ByteArray.ext; exact Array.eq_empty_of_size_eq_zero h0
    go_enter Tryz.func83, Tryz.ntmps83
    go_wp2
    go_quiet (fail)
    go_wp2
    go_ret2
    exact ⟨out_word rfl, _, rfl⟩
  · have hp : 0 < s.size := by omega
    have e0 : s.toList = s.data.toList := toList_data s
    have e1 : ¬ s.toList = [] := by
      rw [e0]; intro h; have h := congrArg List.length h; simp at h; exact h0 (by rw [h]; rfl)
    have e2 : s.toList.isEmpty = false := by simpa using e1
    by_cases hh : (s[0].toNat : Int) = 48 ∧ (s.toList == [48]) = false
    · obtain ⟨h48, h9⟩ := hh
      have HF : Hid (Lx.numR s.data.toList = (0, 4)) := num_head s hp h48 (by rw [← e0]; exact h9)
      clear e0
      go_enter Tryz.func83, Tryz.ntmps83
      go_wp2
      go_quiet (fail)
      go_wp2
      go_ret2
      exact ⟨out_word HF.out, _, rfl⟩
    · have HH : Hid (Lx.badHead s.data.toList = false) := bad_not s hp (by
        by_cases h48 : (s[0].toNat : Int) = 48
        · exact .inr (by rw [← e0]; cases h9 : (s.toList == [48]) with
            | true => rfl
            | false => exact absurd ⟨h48, h9⟩ hh)
        · exact .inl h48)
      have hk : ¬ (s[0].toNat : Int) = 48 ∨ ((s[0].toNat : Int) = 48 ∧ (s.toList == [48]) = true) := by
        by_cases h48 : (s[0].toNat : Int) = 48
        · exact .inr ⟨h48, by cases h9 : (s.toList == [48]) with
            | true => rfl
            | false => exact absurd ⟨h48, h9⟩ hh⟩
        · exact .inl h48
      clear e0 hh
      rcases hk with hk | ⟨hk, hk9⟩
      all_goals
        go_enter Tryz.func83, Tryz.ntmps83
        go_wp2
        go_loop [22] (fun i => ∃ j : Nat, j ≤ s.size ∧ i = .int .i64 j ∧ ∀ k (hk : k < s.data.toList.length), k < j → Lx.digitZ (s.data.toList[k].toNat : Int) = true) (fun i => s.size - (intOf i).toNat)
        case atStart => exact ⟨0, Nat.zero_le _, rfl, fun k _ h => by omega⟩
        case round =>
          obtain ⟨j, hj, rfl, hr⟩ := hrel
          have HR : Hid (∀ k (hk : k < s.data.toList.length), k < j → Lx.digitZ (s.data.toList[k].toNat : Int) = true) := hr
          clear hr
          by_cases hlt : j < s.size
          · have hl : j < s.data.toList.length := by simpa using hlt
            cases hg : Lx.digitZ (s[j].toNat : Int) with
            | true =>
              go_wp2_with (go_at_call 125; refine (isDigit_any _ _).mono ?_; rintro e w' ⟨rfl, rfl⟩)
              go_round
              case rel => exact ⟨j + 1, by omega, by go_num, fun k hk h => by
                rcases Nat.lt_or_ge k j with h' | h'
                · exact HR.out k hk h'
                · obtain rfl : k = j := by omega
                  exact hg⟩
              case measure => simp [intOf]; omega
            | false =>
              have HF : Hid (Lx.numR s.data.toList = (0, 4)) := (by simp [Lx.numR, Lx.not_allDig _ j hl hg] : Lx.numR s.data.toList = (0, 4))
              go_wp2_with (go_at_call 125; refine (isDigit_any _ _).mono ?_; rintro e w' ⟨rfl, rfl⟩)
              go_quiet (fail)
              go_wp2
              go_ret2
              exact ⟨out_word HF.out, _, rfl⟩
          · have hlen : s.data.toList.length = s.size := by simp
            have HD : Hid (Lx.allDig s.data.toList = true) := Lx.allDig_of _ fun k hk => HR.out k hk (by omega)
            clear HR
            go_wp2
            go_loop [5, 34] (fun nv i => ∃ j n : Nat, j ≤ s.size ∧ i = .int .i64 j ∧ nv = .int .i64 n ∧ n ≤ 1073741824 ∧ Lx.foldN n (s.data.toList.drop j) = Lx.foldN 0 s.data.toList) (fun _ i => s.size - (intOf i).toNat)
            case atStart => exact ⟨0, 0, Nat.zero_le _, rfl, rfl, by omega, rfl⟩
            case round =>
              obtain ⟨j, n, hj, rfl, rfl, hn, hr⟩ := hrel
              have HR : Hid (Lx.foldN n (s.data.toList.drop j) = Lx.foldN 0 s.data.toList) := hr
              clear hr
              by_cases hlt : j < s.size
              · have hl : j < s.data.toList.length := by omega
                have hdg := Lx.allDig_at _ HD.out j hl
                have hb1 : (48 : Int) ≤ (s[j].toNat : Int) := by
                  have : Lx.digitZ (s[j].toNat : Int) = true := hdg
                  simp [Lx.digitZ] at this; omega
                have hb2 : (s[j].toNat : Int) ≤ 57 := by
                  have : Lx.digitZ (s[j].toNat : Int) = true := hdg
                  simp [Lx.digitZ] at this; omega
                clear hdg
                by_cases hgt : (1073741824 - ((s[j].toNat : Int) - 48)) / 10 < (n : Int)
                · have HF : Hid (Lx.numR s.data.toList = (0, 2)) := num_long HH.out HD.out (by rw [← HR.out]; exact Lx.foldN_stop _ _ _ hl (by rw [list_at s j hlt]; omega))
                  go_wp2
                  go_quiet (fail)
                  go_wp2
                  go_ret2
                  exact ⟨out_long HF.out, _, rfl⟩
                · go_wp2
                  go_round
                  case rel => exact ⟨j + 1, 10 * n + (s[j].toNat - 48), by omega, by go_num, by congr 1; omega, by omega, by rw [← HR.out]; exact (Lx.foldN_step _ _ _ hl (by rw [list_at s j hlt]; omega)).symm⟩
                  case measure => simp [intOf]; omega
              · have HF : Hid (Lx.numR s.data.toList = (n, 0)) := num_ok HH.out HD.out (by rw [← HR.out, List.drop_of_length_le (by omega)]; rfl)
                go_wp2
                go_ret2
                exact ⟨out_ok HF.out rfl, 0, rfl⟩
end Go.Proofs.YthcboklkejlifaaGreatDoor
