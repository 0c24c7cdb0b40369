/- Contract of lexis.IsName: what a name is. -/
import Derived.Test.YthcboklkejlifaaGreatDoorRun
namespace Go.Proofs.YthcboklkejlifaaGreatDoor
open Go.RowKit
namespace Lx
def allGo (l : List UInt8) : Bool := l.all fun x => goB (x.toNat : Int)
theorem runLen_all (l : List UInt8) : (runLen l = l.length) ↔ allGo l = true := by
  unfold allGo
  induction l with
  | nil => simp [runLen]
  | cons c r ih =>
    simp only [runLen, List.all_cons, Bool.and_eq_true, List.length_cons]
    cases h : goB (c.toNat : Int) with
    | true => simp only [if_true, Nat.add_right_cancel_iff, ih, true_and]
    | false => simp
theorem runE_all (l : List UInt8) : (runE l 0 = l.length) ↔ allGo l = true := by
  unfold runE
  simp only [List.drop_zero, Nat.zero_add]
  exact runLen_all l
theorem allGo_at (l : List UInt8) (h : allGo l = true) (k : Nat) (hk : k < l.length) : goB (l[k].toNat : Int) = true := by
  unfold allGo at h
  exact List.all_eq_true.1 h _ (List.getElem_mem hk)
theorem not_allGo (l : List UInt8) (k : Nat) (hk : k < l.length) (h : goB (l[k].toNat : Int) = false) : allGo l = false := by
  cases e : allGo l with
  | false => rfl
  | true => rw [allGo_at l e k hk] at h; cases h
theorem allGo_of (l : List UInt8) (h : ∀ k (hk : k < l.length), goB (l[k].toNat : Int) = true) : allGo l = true := by
  unfold allGo
  refine List.all_eq_true.2 fun x hx => ?_
  obtain ⟨k, hk, rfl⟩ := List.getElem_of_mem hx
  exact h k hk
def letterZ (c : Int) : Bool := smallZ c || greatZ c
/-- A name: not empty, not too long, wholly a run, and it begins with a small letter, or with a great one. -/
def nameZ (small : Bool) (s : ByteArray) : Bool := if h : 0 < s.size then decide (s.size ≤ 32) && allGo s.data.toList && (if small then smallZ (s[0].toNat : Int) else greatZ (s[0].toNat : Int)) else false
end Lx
theorem eqb_of {E n : Nat} {b : Bool} (h : E = n ↔ b = true) : ((E : Int) == (n : Int)) = b := by
  cases b with
  | true => rw [h.2 rfl]; simp
  | false =>
    refine beq_eq_false_iff_ne.2 fun e => ?_
    have h2 : E = n := by omega
    have h3 := h.1 h2
    cases h3
theorem ret_bool {a b : Bool} (h : a = b) : Ending.returned (.bool a) = .returned (.bool b) := by rw [h]
set_option maxHeartbeats 400000 in
theorem nameRun_any (s : ByteArray) (w : World) (hs : s.size ≤ maxLen) :
    Calls Tryz.prog 142 #[.string s] w fun e w' => e = .returned (.bool (decide (0 < s.size) && decide (s.size ≤ 32) && Lx.allGo s.data.toList)) ∧ w' = w := by
  have hC := runEnd_any s 0 w hs (Nat.zero_le _)
  unfold maxLen at hs
  have hlen : s.data.toList.length = s.size := by simp
  by_cases h0 : s.size = 0
  · obtain rfl : s = ⟨#[]⟩ := by apply ByteArray.ext; exact Array.eq_empty_of_size_eq_zero h0
    clear hC hlen h0
    go_enter Tryz.func142, Tryz.ntmps142
    go_wp2
    go_ret
    exact ⟨rfl, rfl⟩
  · have hp : 0 < s.size := by omega
    have e0 : s.toList = s.data.toList := ByteArray.toList_eq s
    have e1 : ¬ s.toList = [] := by
      rw [e0]; intro h; have h := congrArg List.length h; simp at h; exact h0 (by rw [h]; rfl)
    have e2 : s.toList.isEmpty = false := by simpa using e1
    have d0 : decide (0 < s.size) = true := by simpa using hp
    rw [d0, Bool.true_and]
    clear e0 d0
    by_cases h32 : s.size ≤ 32
    · have q : (s.size : Int) ≤ 32 := by omega
      have d1 : decide (s.size ≤ 32) = true := by simpa using h32
      rw [d1, Bool.true_and]
      have hr := Lx.runE_all s.data.toList
      rw [hlen] at hr
      obtain ⟨E, hE⟩ : ∃ E, E = Lx.runE s.data.toList 0 := ⟨_, rfl⟩
      rw [← hE] at hr hC
      have HB : Hid (((E : Int) == (s.size : Int)) = Lx.allGo s.data.toList) := eqb_of hr
      clear hr hE hlen d1
      go_enter Tryz.func142, Tryz.ntmps142
      go_wp2_with (go_at_call 82; refine hC.mono ?_; rintro e w' ⟨rfl, rfl⟩)
      go_ret
      exact ⟨ret_bool HB.out, rfl⟩
    · have q : ¬ (s.size : Int) ≤ 32 := by omega
      have d1 : decide (s.size ≤ 32) = false := by simpa using h32
      rw [d1, Bool.false_and]
      clear d1 hC hlen
      go_enter Tryz.func142, Tryz.ntmps142
      go_wp2
      go_ret
      exact ⟨rfl, rfl⟩
theorem nameZ_eq (small : Bool) (s : ByteArray) (h : 0 < s.size) : Lx.nameZ small s = (decide (s.size ≤ 32) && Lx.allGo s.data.toList && (if small then Lx.smallZ (s[0].toNat : Int) else Lx.greatZ (s[0].toNat : Int))) := by simp [Lx.nameZ, h]
set_option maxHeartbeats 400000 in
theorem isName_any (s : ByteArray) (w : World) (hs : s.size ≤ maxLen) :
    Calls Tryz.prog 131 #[.string s] w fun e w' => e = .returned (.bool (Lx.nameZ true s)) ∧ w' = w := by
  have hC := nameRun_any s w hs
  unfold maxLen at hs
  by_cases hp : 0 < s.size
  · rw [nameZ_eq _ _ hp]
    have d0 : decide (0 < s.size) = true := by simpa using hp
    rw [d0, Bool.true_and] at hC
    generalize (decide (s.size ≤ 32) && Lx.allGo s.data.toList) = B at hC ⊢
    clear d0
    have q0 : (0 : Int) < (s.size : Int) := by omega
    cases B with
    | true =>
      go_enter Tryz.func131, Tryz.ntmps131
      go_wp2_with (first | (go_at_call 142; refine hC.mono ?_; rintro e w' ⟨rfl, rfl⟩) | (go_at_call 123; refine (isSmall_any _ _).mono ?_; rintro e w' ⟨rfl, rfl⟩))
      go_ret
      exact ⟨rfl, rfl⟩
    | false =>
      go_enter Tryz.func131, Tryz.ntmps131
      go_wp2_with (first | (go_at_call 142; refine hC.mono ?_; rintro e w' ⟨rfl, rfl⟩))
      go_ret
      exact ⟨rfl, rfl⟩
  · have d0 : decide (0 < s.size) = false := by simpa using hp
    rw [d0, Bool.false_and, Bool.false_and] at hC
    have hz : Lx.nameZ true s = false := by simp [Lx.nameZ, hp]
    rw [hz]
    clear d0 hz
    go_enter Tryz.func131, Tryz.ntmps131
    go_wp2_with (first | (go_at_call 142; refine hC.mono ?_; rintro e w' ⟨rfl, rfl⟩))
    go_ret
    exact ⟨rfl, rfl⟩
end Go.Proofs.YthcboklkejlifaaGreatDoor
