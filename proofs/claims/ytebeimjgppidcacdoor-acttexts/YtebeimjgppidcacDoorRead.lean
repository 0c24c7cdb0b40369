/- Contracts of strings.CutPrefix with the mark of a co-name, and of the table's Read. -/
import Derived.Test.YtebeimjgppidcacDoorText
namespace Go.Proofs.YtebeimjgppidcacDoor
open Go.RowKit Go.Maps
/-- The text does not begin with the mark. -/
def NoCo (s : ByteArray) : Prop := ∀ h : 0 < s.size, s[0] ≠ 39
theorem coB_list (s : ByteArray) : (coB true s).data.toList = 39 :: s.data.toList := by simp [coB]
theorem coB_size (s : ByteArray) : (coB true s).size = s.size + 1 := by
  unfold coB
  rw [if_pos rfl, ByteArray.size_append]; show 1 + s.size = _; omega
theorem bytes_eq {a b : ByteArray} (h : a.data.toList = b.data.toList) : a = b := by cases a; cases b; simp at h; simp [h]
/-- A text is a name with the mark, or one that does not begin with it. -/
theorem co_split (s : ByteArray) : ∃ co x, s = coB co x ∧ (co = false → NoCo x) ∧ x.size ≤ s.size := by
  by_cases h : ∃ h : 0 < s.size, s[0] = 39
  · obtain ⟨h0, h1⟩ := h
    refine ⟨true, ⟨(s.data.toList.drop 1).toArray⟩, ?_, (fun e => absurd e (by decide)), (by show (s.data.toList.drop 1).toArray.size ≤ s.size; simp)⟩
    apply bytes_eq
    rw [coB_list]
    have hl : s.data.toList = s.data.toList[0]'(by simpa using h0) :: s.data.toList.drop 1 := by
      rw [← List.drop_eq_getElem_cons (by simpa using h0)]; simp
    have h2 : s.data.toList[0]'(by simpa using h0) = 39 := h1
    rw [h2] at hl
    exact hl
  · exact ⟨false, s, rfl, fun _ h0 h1 => h ⟨h0, h1⟩, Nat.le_refl _⟩
theorem ext_list (s : ByteArray) (a b : Nat) : (s.extract a b).data.toList = (s.data.toList.drop a).take (b - a) := by
  rw [ByteArray.data_extract, Array.toList_extract, List.extract_eq_take_drop]
theorem co_head (s : ByteArray) : ((coB true s).extract 0 1).toList = [39] := by
  rw [ByteArray.toList_eq, ext_list, coB_list]; rfl
theorem co_tail (s : ByteArray) : (coB true s).extract 1 (coB true s).size = s := by
  apply bytes_eq
  rw [ext_list, coB_list, coB_size]
  simp
  exact List.take_of_length_le (by simp)
theorem noCo_head (s : ByteArray) (h : NoCo s) (h0 : 0 < s.size) : ((s.extract 0 1).toList == [39]) = false := by
  refine beq_eq_false_iff_ne.2 fun e => ?_
  rw [ByteArray.toList_eq, ext_list] at e
  have hl : s.data.toList = s.data.toList[0]'(by simpa using h0) :: s.data.toList.drop 1 := by
    rw [← List.drop_eq_getElem_cons (by simpa using h0)]; simp
  rw [hl] at e
  simp at e
  exact h h0 e
set_option maxRecDepth 100000 in
theorem hasPrefix_co (s : ByteArray) (w : World) (hs : s.size + 1 ≤ maxLen) : Calls Tryd.prog 60 #[.string (coB true s), .string ⟨#[39]⟩] w fun r w' => r = .returned (.bool true) ∧ w' = w := by
  unfold maxLen at hs
  have h1 := co_head s
  have h2 := coB_size s
  generalize coB true s = x at h1 h2
  have q : (1 : Int) ≤ (x.size : Int) := by omega
  have q2 : ((x.extract 0 1).toList == [39]) = true := by rw [h1]; rfl
  go_enter Tryd.func60, Tryd.ntmps60
  go_wp2
  go_ret
  exact ⟨rfl, rfl⟩
set_option maxRecDepth 100000 in
theorem hasPrefix_no (s : ByteArray) (w : World) (hs : s.size ≤ maxLen) (hn : NoCo s) : Calls Tryd.prog 60 #[.string s, .string ⟨#[39]⟩] w fun r w' => r = .returned (.bool false) ∧ w' = w := by
  unfold maxLen at hs
  by_cases h0 : 0 < s.size
  · have q : (1 : Int) ≤ (s.size : Int) := by omega
    have q2 := noCo_head s hn h0
    clear hn
    go_enter Tryd.func60, Tryd.ntmps60
    go_wp2
    go_ret
    exact ⟨rfl, rfl⟩
  · have q : ¬ (1 : Int) ≤ (s.size : Int) := by omega
    clear hn
    go_enter Tryd.func60, Tryd.ntmps60
    go_wp2
    go_ret
    exact ⟨rfl, rfl⟩
set_option maxRecDepth 100000 in
theorem cut_any (co : Bool) (s : ByteArray) (w : World) (hs : (coB co s).size ≤ maxLen) (hn : co = false → NoCo s) : Calls Tryd.prog 47 #[.string (coB co s), .string ⟨#[39]⟩] w fun r w' => r = .returned (.tuple #[.string s, .bool co]) ∧ w' = w := by
  have key : ∀ w, Calls Tryd.prog 56 #[.string (coB co s), .string ⟨#[39]⟩] w fun r w' => r = .returned (.tuple #[.string s, .bool co]) ∧ w' = w := by
    intro w
    cases co with
    | true =>
      have h2 := coB_size s
      have hP := hasPrefix_co s w (by omega)
      have hs9 : s.size + 1 ≤ maxLen := by omega
      unfold maxLen at hs9
      clear hs
      have h3 := co_tail s
      rw [h2] at h3
      generalize coB true s = x at hP h2 h3
      have q : (1 : Int) ≤ (x.size : Int) := by omega
      clear hn
      go_enter Tryd.func56, Tryd.ntmps56
      go_wp2_with (go_at_call 60; refine hP.mono ?_; rintro r w' ⟨rfl, hw⟩; obtain rfl := hw.symm)
      go_ret2
      exact ⟨rfl, rfl⟩
    | false =>
      have hP := hasPrefix_no s w hs (hn rfl)
      clear hn
      show Calls Tryd.prog 56 #[.string s, .string ⟨#[39]⟩] w _
      go_enter Tryd.func56, Tryd.ntmps56
      go_wp2_with (go_at_call 60; refine hP.mono ?_; rintro r w' ⟨rfl, hw⟩; obtain rfl := hw.symm)
      go_ret2
      exact ⟨rfl, rfl⟩
  have hk := key w
  clear key hn hs
  generalize coB co s = x at hk
  go_enter Tryd.func47, Tryd.ntmps47
  go_wp2_with (go_at_call 56; refine hk.mono ?_; rintro r w' ⟨rfl, hw⟩; obtain rfl := hw.symm)
  go_ret2
  exact ⟨rfl, rfl⟩
end Go.Proofs.YtebeimjgppidcacDoor
