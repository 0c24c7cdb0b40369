/- Contract of the document's own Number: a number's value and the code of what is wrong. -/
import Derived.Test.YthcboklkejlifaaGreatDoorValue
namespace Go.Proofs.YthcboklkejlifaaGreatDoor
open Go.RowKit
theorem ref_ok {r : Nat × Nat} {n : Nat} {x : Int} (h : r = (n, 0)) (hx : x = (n : Int)) : Ending.returned (.tuple #[.int .i64 x, .int .i64 0]) = .returned (.tuple #[.int .i64 (r.1 : Int), .int .i64 (r.2 : Int)]) := by subst h; subst hx; rfl
theorem ref_bad {r : Nat × Nat} {k : Nat} {x : Int} (h : r = (0, k)) (hx : x = (k : Int)) : Ending.returned (.tuple #[.int .i64 0, .int .i64 x]) = .returned (.tuple #[.int .i64 (r.1 : Int), .int .i64 (r.2 : Int)]) := by subst h; subst hx; rfl
theorem one_of (s : ByteArray) (hp : 0 < s.size) (h : (s[0].toNat : Int) = 48) (h1 : s.size = 1) : (s.data.toList == [48]) = true := by
  have hl : s.data.toList.length = 1 := by simpa using h1
  match e : s.data.toList, hl with
  | [c], _ =>
    have hh := head_of s hp
    rw [e] at hh
    simp at hh
    have : c = 48 := by
      rw [hh]; exact UInt8.toNat_inj.1 (by have : s[0].toNat = 48 := Int.ofNat.inj h; rw [this]; rfl)
    rw [this]; rfl
theorem more_of (s : ByteArray) (h1 : 1 < s.size) : (s.data.toList == [48]) = false := by
  cases h : (s.data.toList == [48]) with
  | false => rfl
  | true =>
    have := congrArg List.length (eq_of_beq h)
    have hl : s.data.toList.length = s.size := by simp
    simp at this
    rw [hl] at *
    omega
set_option maxHeartbeats 1000000 in
theorem refNumber_any (s : ByteArray) (w : World) (hs : s.size ≤ maxLen) :
    Calls Tryz.prog 26 #[.string s] w fun e w' => e = .returned (.tuple #[.int .i64 ((Lx.numR s.data.toList).1 : Nat), .int .i64 ((Lx.numR s.data.toList).2 : Nat)]) ∧ w' = w := by
  unfold maxLen at hs
  have hlen : s.data.toList.length = s.size := by simp
  by_cases h0 : s.size = 0
  · obtain rfl : s = ⟨#[]⟩ := by apply ByteArray.ext; exact Array.eq_empty_of_size_eq_zero h0
    go_enter Tryz.func26, Tryz.ntmps26
    go_wp2
    go_ret2
    exact ⟨rfl, rfl⟩
  · have hp : 0 < s.size := by omega
    have z0 : ((s.size : Int) == 0) = false := beq_eq_false_iff_ne.2 (by omega)
    by_cases hh : (s[0].toNat : Int) = 48 ∧ 1 < s.size
    · obtain ⟨h48, h9⟩ := hh
      have HF : Hid (Lx.numR s.data.toList = (0, 4)) := num_head s hp h48 (more_of s h9)
      have z1 : ((s[0].toNat : Int) == 48) = true := by simpa using h48
      have z2 : (1 : Int) < (s.size : Int) := by omega
      clear hlen
      go_enter Tryz.func26, Tryz.ntmps26
      go_wp2
      go_ret2
      exact ⟨ref_bad HF.out rfl, rfl⟩
    · have HH : Hid (Lx.badHead s.data.toList = false) := bad_not s hp (by
        by_cases h48 : (s[0].toNat : Int) = 48
        · exact .inr (one_of s hp h48 (by omega))
        · exact .inl h48)
      have hk : ¬ (s[0].toNat : Int) = 48 ∨ ((s[0].toNat : Int) = 48 ∧ s.size = 1) := by
        by_cases h48 : (s[0].toNat : Int) = 48
        · exact .inr ⟨h48, by omega⟩
        · exact .inl h48
      have hk2 : ((s[0].toNat : Int) == 48) = false ∨ (((s[0].toNat : Int) == 48) = true ∧ ¬ (1 : Int) < (s.size : Int)) := by
        rcases hk with hk | ⟨hk, h1⟩
        · exact .inl (by simpa using hk)
        · exact .inr ⟨by simpa using hk, by omega⟩
      clear hh hk
      have HLEN : Hid (s.data.toList.length = s.size) := hlen
      clear hlen
      rcases hk2 with hk | ⟨hk, hk9⟩
      all_goals
        go_enter Tryz.func26, Tryz.ntmps26
        go_wp2
        go_loop [4, 5, 6] (fun nv ov i => ∃ j : Nat, j ≤ s.size ∧ i = .int .i64 j ∧ (∀ k (hk : k < s.data.toList.length), k < j → Lx.digitZ (s.data.toList[k].toNat : Int) = true) ∧ ∃ n : Nat, nv = .int .i64 n ∧ ((ov = .bool false ∧ n ≤ 1073741824 ∧ Lx.foldN n (s.data.toList.drop j) = Lx.foldN 0 s.data.toList) ∨ (ov = .bool true ∧ Lx.foldN 0 s.data.toList = none))) (fun _ _ i => s.size - (intOf i).toNat)
        case atStart => exact ⟨0, Nat.zero_le _, rfl, fun k _ h => by omega, 0, rfl, .inl ⟨rfl, by omega, rfl⟩⟩
        case round =>
          obtain ⟨j, hj, rfl, hr, n, rfl, hov⟩ := hrel
          have HR : Hid (∀ k (hk : k < s.data.toList.length), k < j → Lx.digitZ (s.data.toList[k].toNat : Int) = true) := hr
          clear hr
          by_cases hlt : j < s.size
          · have hl : j < s.data.toList.length := by have := HLEN.out; omega
            have hb := byte_range s j hlt
            cases hg : Lx.digitZ (s[j].toNat : Int) with
            | true =>
              have b1 : (48 : Int) ≤ (s[j].toNat : Int) := by simp [Lx.digitZ] at hg; omega
              have b2 : (s[j].toNat : Int) ≤ 57 := by simp [Lx.digitZ] at hg; omega
              have HG : Hid (Lx.digitZ (s[j].toNat : Int) = true) := hg
              clear hg
              have HN : Hid (∀ k (hk : k < s.data.toList.length), k < j + 1 → Lx.digitZ (s.data.toList[k].toNat : Int) = true) := fun k hk h => by
                rcases Nat.lt_or_ge k j with h' | h'
                · exact HR.out k hk h'
                · obtain rfl : k = j := by omega
                  exact HG.out
              rcases hov with ⟨rfl, hn, hf⟩ | ⟨rfl, hf⟩
              · by_cases hgt : 1073741824 < 10 * n + (s[j].toNat - 48)
                · have q1 : (1073741824 : Int) < (n : Int) * 10 + ((s[j].toNat : Int) - 48) := by omega
                  have HF : Hid (Lx.foldN 0 s.data.toList = none) := (by rw [← hf]; exact Lx.foldN_stop _ _ _ hl (by rw [list_at s j hlt]; omega) : Lx.foldN 0 s.data.toList = none)
                  clear hf
                  go_wp2
                  go_round
                  case rel => exact ⟨j + 1, by omega, by go_num, HN.out, 10 * n + (s[j].toNat - 48), by congr 1; omega, .inr ⟨by simp, HF.out⟩⟩
                  case measure => simp [intOf]; omega
                · have q1 : ¬ (1073741824 : Int) < (n : Int) * 10 + ((s[j].toNat : Int) - 48) := by omega
                  have HF : Hid (Lx.foldN (10 * n + (s[j].toNat - 48)) (s.data.toList.drop (j + 1)) = Lx.foldN 0 s.data.toList) := (by rw [← hf]; exact (Lx.foldN_step _ _ _ hl (by rw [list_at s j hlt]; omega)).symm : Lx.foldN (10 * n + (s[j].toNat - 48)) (s.data.toList.drop (j + 1)) = Lx.foldN 0 s.data.toList)
                  clear hf
                  go_wp2
                  go_round
                  case rel => exact ⟨j + 1, by omega, by go_num, HN.out, 10 * n + (s[j].toNat - 48), by congr 1; omega, .inl ⟨by simp, by omega, HF.out⟩⟩
                  case measure => simp [intOf]; omega
              · have HF : Hid (Lx.foldN 0 s.data.toList = none) := hf
                clear hf
                go_wp2
                go_round
                case rel => exact ⟨j + 1, by omega, by go_num, HN.out, n, rfl, .inr ⟨rfl, HF.out⟩⟩
                case measure => simp [intOf]; omega
            | false =>
              have HF : Hid (Lx.numR s.data.toList = (0, 4)) := (by simp [Lx.numR, Lx.not_allDig _ j hl hg] : Lx.numR s.data.toList = (0, 4))
              have hc : (s[j].toNat : Int) < 48 ∨ (57 : Int) < (s[j].toNat : Int) := by simp [Lx.digitZ] at hg; omega
              clear hg hov
              rcases hc with hc | hc
              all_goals
                go_wp2
                go_ret2
                exact ⟨ref_bad HF.out rfl, rfl⟩
          · have HD : Hid (Lx.allDig s.data.toList = true) := Lx.allDig_of _ fun k hk => HR.out k hk (by have := HLEN.out; omega)
            rcases hov with ⟨rfl, hn, hf⟩ | ⟨rfl, hf⟩
            · have HF : Hid (Lx.numR s.data.toList = (n, 0)) := num_ok HH.out HD.out (by rw [← hf, List.drop_of_length_le (by have := HLEN.out; omega)]; rfl)
              clear hf
              go_wp2
              go_ret2
              exact ⟨ref_ok HF.out rfl, rfl⟩
            · have HF : Hid (Lx.numR s.data.toList = (0, 2)) := num_long HH.out HD.out hf
              clear hf
              go_wp2
              go_ret2
              exact ⟨ref_bad HF.out rfl, rfl⟩
end Go.Proofs.YthcboklkejlifaaGreatDoor
