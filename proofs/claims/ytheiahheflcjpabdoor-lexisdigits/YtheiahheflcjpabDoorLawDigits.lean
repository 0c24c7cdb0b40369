/- The statement LexisDigits as a call: of any number it returns true, and nothing that was there has turned. -/
import Derived.Test.YtheiahheflcjpabDoorNumber
import Derived.Test.YtheiahheflcjpabDoorDigits
import Derived.Test.YtheiahheflcjpabDoorLawIs
import Derived.Lib.SmallJoins
namespace Go.Proofs.YtheiahheflcjpabDoor
open Go.RowKit
theorem cat_data (c : UInt8) (b : ByteArray) : (⟨#[c]⟩ ++ b : ByteArray).data.toList = c :: b.data.toList := by
  rw [Joins.data_append]; rfl
theorem cat_size (c : UInt8) (b : ByteArray) : (⟨#[c]⟩ ++ b : ByteArray).size = b.size + 1 := by
  rw [ByteArray.size_append, show (⟨#[c]⟩ : ByteArray).size = 1 from rfl]; omega
theorem cat_data2 (c : UInt8) (b : ByteArray) : (b ++ ⟨#[c]⟩ : ByteArray).data.toList = b.data.toList ++ [c] := by
  rw [Joins.data_append]
theorem cat_size2 (c : UInt8) (b : ByteArray) : (b ++ ⟨#[c]⟩ : ByteArray).size = b.size + 1 := by
  rw [ByteArray.size_append]; rfl
theorem keep_block {w w1 : World} {b : Nat} {o : Obj} (h : w.heap[b]? = some o) (hb : Below w.heap.size w w1) : w1.heap[b]? = some o := by rw [hb.block b (lt_of_block h)]; exact h
/-- Number at a text that is a number. -/
theorem num_fine (s : ByteArray) (n : Nat) (aA aL aI aW : Addr) (w : World) (hs : s.size ≤ maxLen) (hE : Errs w aA aL aI aW) (h : Lx.numR s.data.toList = (n, 0)) :
    Calls Tryd.prog 7 #[.string s] w fun e w' => e = .returned (.tuple #[.int .i64 (n : Int), .nilIface]) ∧ Below w.heap.size w w' :=
  number_fine s _ _ w hs hE.2.1.1 hE.2.2.2.1.1 n h
/-- Number at a text that is none. -/
theorem num_word (s : ByteArray) (aA aL aI aW : Addr) (w : World) (hs : s.size ≤ maxLen) (hE : Errs w aA aL aI aW) (h : Lx.numR s.data.toList = (0, 4)) :
    Calls Tryd.prog 7 #[.string s] w fun e w' => ∃ b, e = .returned (.tuple #[.int .i64 0, .iface 34 (.pointer (some ⟨b, 0, none⟩))]) ∧ Below w.heap.size w w' ∧ w'.heap[b]? = some (.cells #[.string ⟨#[108, 101, 120, 105, 115]⟩, .int .i64 0, .int .i64 0, .iface 83 (.pointer (some aW))] 38 (0, 0)) := by
  refine (number_wrong s _ _ 83 (.pointer (some aW)) w hs hE.2.1.1 hE.2.2.2.1.1 (by rw [h]; rfl)).mono ?_
  rintro e w' ⟨b, rfl, _, hF, hb⟩
  exact ⟨b, rfl, hb, hF⟩
set_option maxHeartbeats 2000000 in
theorem lawDigits_out (v : Int) (aA aL aI aW : Addr) (w : World) (hv : v < 0 ∨ 1073741824 < v) (hE : Errs w aA aL aI aW) :
    Calls Tryd.prog 3 #[.int .i64 v] w fun e w' => e = .returned (.bool true) ∧ Below w.heap.size w w' := by
  have HE : Hid (Errs w aA aL aI aW) := hE
  clear hE
  rcases hv with hv | hv
  · go_enter Tryd.func3, Tryd.ntmps3
    go_wp2_with (go_at_call 6; refine (alive_errs aA aL aI aW _ HE.out).mono ?_; rintro e w2 ⟨rfl, hb2⟩)
    go_ret
    exact ⟨rfl, hb2⟩
  · have hv' : ¬ v < 0 := by omega
    go_enter Tryd.func3, Tryd.ntmps3
    go_wp2_with (go_at_call 6; refine (alive_errs aA aL aI aW _ HE.out).mono ?_; rintro e w2 ⟨rfl, hb2⟩)
    go_ret
    exact ⟨rfl, hb2⟩
set_option maxHeartbeats 2000000 in
theorem lawDigits_in (v : Nat) (aA aL aI aW : Addr) (w : World) (hv : v ≤ 1073741824) (hE : Errs w aA aL aI aW) :
    Calls Tryd.prog 3 #[.int .i64 v] w fun e w' => e = .returned (.bool true) ∧ Below w.heap.size w w' := by
  have HE : Hid (Errs w aA aL aI aW) := hE
  clear hE
  have h0 : ¬ (v : Int) < 0 := by omega
  have h1 : decide ((1073741824 : Int) < (v : Int)) = false := by simp; omega
  go_enter Tryd.func3, Tryd.ntmps3
  go_wp2_with fail
  go_loop [3, 4] (fun sv xv => ∃ (b : ByteArray) (x : Nat), sv = .string b ∧ xv = .int .i64 x ∧ Lx.Dig v x b.data.toList) (fun _ xv => (intOf xv).toNat)
  case atStart => exact ⟨⟨#[]⟩, v, rfl, rfl, Lx.Dig.start v⟩
  case round =>
    obtain ⟨b, x, rfl, rfl, hD⟩ := hrel
    have hx := hD.2.2.2
    have hlen : b.data.toList.length = b.size := by simp
    have HD : Hid (Lx.Dig v x b.data.toList) := hD
    clear hD
    by_cases hp : 0 < x
    · have q0 : (0 : Int) < (x : Int) := by omega
      have hbs : b.size ≤ 1073741824 := by omega
      have hxb : (x : Int) ≤ 1073741824 := by omega
      clear hlen hx
      rcases (show x % 10 = 0 ∨ x % 10 = 1 ∨ x % 10 = 2 ∨ x % 10 = 3 ∨ x % 10 = 4 ∨ x % 10 = 5 ∨ x % 10 = 6 ∨ x % 10 = 7 ∨ x % 10 = 8 ∨ x % 10 = 9 from by omega) with hd | hd | hd | hd | hd | hd | hd | hd | hd | hd
      · have hd2 : (x : Int) % 10 = 0 := by omega
        have hu : Utf8.encode 48 = ⟨#[48]⟩ := by decide
        have hsum : (⟨#[48]⟩ : ByteArray).size + b.size ≤ 9223372036854775807 := by
          have : (⟨#[48]⟩ : ByteArray).size = 1 := rfl
          omega
        have HS : Hid (Lx.Dig v (x / 10) (⟨#[48]⟩ ++ b : ByteArray).data.toList) := (by rw [cat_data]; exact HD.out.step hp hd rfl : Lx.Dig v (x / 10) (⟨#[48]⟩ ++ b : ByteArray).data.toList)
        clear hd
        go_wp2_with fail
        go_round
        case rel => exact ⟨_, x / 10, rfl, by go_num, HS.out⟩
        case measure => simp [intOf]; omega
      · have hd2 : (x : Int) % 10 = 1 := by omega
        have hu : Utf8.encode 49 = ⟨#[49]⟩ := by decide
        have hsum : (⟨#[49]⟩ : ByteArray).size + b.size ≤ 9223372036854775807 := by
          have : (⟨#[49]⟩ : ByteArray).size = 1 := rfl
          omega
        have HS : Hid (Lx.Dig v (x / 10) (⟨#[49]⟩ ++ b : ByteArray).data.toList) := (by rw [cat_data]; exact HD.out.step hp hd rfl : Lx.Dig v (x / 10) (⟨#[49]⟩ ++ b : ByteArray).data.toList)
        clear hd
        go_wp2_with fail
        go_round
        case rel => exact ⟨_, x / 10, rfl, by go_num, HS.out⟩
        case measure => simp [intOf]; omega
      · have hd2 : (x : Int) % 10 = 2 := by omega
        have hu : Utf8.encode 50 = ⟨#[50]⟩ := by decide
        have hsum : (⟨#[50]⟩ : ByteArray).size + b.size ≤ 9223372036854775807 := by
          have : (⟨#[50]⟩ : ByteArray).size = 1 := rfl
          omega
        have HS : Hid (Lx.Dig v (x / 10) (⟨#[50]⟩ ++ b : ByteArray).data.toList) := (by rw [cat_data]; exact HD.out.step hp hd rfl : Lx.Dig v (x / 10) (⟨#[50]⟩ ++ b : ByteArray).data.toList)
        clear hd
        go_wp2_with fail
        go_round
        case rel => exact ⟨_, x / 10, rfl, by go_num, HS.out⟩
        case measure => simp [intOf]; omega
      · have hd2 : (x : Int) % 10 = 3 := by omega
        have hu : Utf8.encode 51 = ⟨#[51]⟩ := by decide
        have hsum : (⟨#[51]⟩ : ByteArray).size + b.size ≤ 9223372036854775807 := by
          have : (⟨#[51]⟩ : ByteArray).size = 1 := rfl
          omega
        have HS : Hid (Lx.Dig v (x / 10) (⟨#[51]⟩ ++ b : ByteArray).data.toList) := (by rw [cat_data]; exact HD.out.step hp hd rfl : Lx.Dig v (x / 10) (⟨#[51]⟩ ++ b : ByteArray).data.toList)
        clear hd
        go_wp2_with fail
        go_round
        case rel => exact ⟨_, x / 10, rfl, by go_num, HS.out⟩
        case measure => simp [intOf]; omega
      · have hd2 : (x : Int) % 10 = 4 := by omega
        have hu : Utf8.encode 52 = ⟨#[52]⟩ := by decide
        have hsum : (⟨#[52]⟩ : ByteArray).size + b.size ≤ 9223372036854775807 := by
          have : (⟨#[52]⟩ : ByteArray).size = 1 := rfl
          omega
        have HS : Hid (Lx.Dig v (x / 10) (⟨#[52]⟩ ++ b : ByteArray).data.toList) := (by rw [cat_data]; exact HD.out.step hp hd rfl : Lx.Dig v (x / 10) (⟨#[52]⟩ ++ b : ByteArray).data.toList)
        clear hd
        go_wp2_with fail
        go_round
        case rel => exact ⟨_, x / 10, rfl, by go_num, HS.out⟩
        case measure => simp [intOf]; omega
      · have hd2 : (x : Int) % 10 = 5 := by omega
        have hu : Utf8.encode 53 = ⟨#[53]⟩ := by decide
        have hsum : (⟨#[53]⟩ : ByteArray).size + b.size ≤ 9223372036854775807 := by
          have : (⟨#[53]⟩ : ByteArray).size = 1 := rfl
          omega
        have HS : Hid (Lx.Dig v (x / 10) (⟨#[53]⟩ ++ b : ByteArray).data.toList) := (by rw [cat_data]; exact HD.out.step hp hd rfl : Lx.Dig v (x / 10) (⟨#[53]⟩ ++ b : ByteArray).data.toList)
        clear hd
        go_wp2_with fail
        go_round
        case rel => exact ⟨_, x / 10, rfl, by go_num, HS.out⟩
        case measure => simp [intOf]; omega
      · have hd2 : (x : Int) % 10 = 6 := by omega
        have hu : Utf8.encode 54 = ⟨#[54]⟩ := by decide
        have hsum : (⟨#[54]⟩ : ByteArray).size + b.size ≤ 9223372036854775807 := by
          have : (⟨#[54]⟩ : ByteArray).size = 1 := rfl
          omega
        have HS : Hid (Lx.Dig v (x / 10) (⟨#[54]⟩ ++ b : ByteArray).data.toList) := (by rw [cat_data]; exact HD.out.step hp hd rfl : Lx.Dig v (x / 10) (⟨#[54]⟩ ++ b : ByteArray).data.toList)
        clear hd
        go_wp2_with fail
        go_round
        case rel => exact ⟨_, x / 10, rfl, by go_num, HS.out⟩
        case measure => simp [intOf]; omega
      · have hd2 : (x : Int) % 10 = 7 := by omega
        have hu : Utf8.encode 55 = ⟨#[55]⟩ := by decide
        have hsum : (⟨#[55]⟩ : ByteArray).size + b.size ≤ 9223372036854775807 := by
          have : (⟨#[55]⟩ : ByteArray).size = 1 := rfl
          omega
        have HS : Hid (Lx.Dig v (x / 10) (⟨#[55]⟩ ++ b : ByteArray).data.toList) := (by rw [cat_data]; exact HD.out.step hp hd rfl : Lx.Dig v (x / 10) (⟨#[55]⟩ ++ b : ByteArray).data.toList)
        clear hd
        go_wp2_with fail
        go_round
        case rel => exact ⟨_, x / 10, rfl, by go_num, HS.out⟩
        case measure => simp [intOf]; omega
      · have hd2 : (x : Int) % 10 = 8 := by omega
        have hu : Utf8.encode 56 = ⟨#[56]⟩ := by decide
        have hsum : (⟨#[56]⟩ : ByteArray).size + b.size ≤ 9223372036854775807 := by
          have : (⟨#[56]⟩ : ByteArray).size = 1 := rfl
          omega
        have HS : Hid (Lx.Dig v (x / 10) (⟨#[56]⟩ ++ b : ByteArray).data.toList) := (by rw [cat_data]; exact HD.out.step hp hd rfl : Lx.Dig v (x / 10) (⟨#[56]⟩ ++ b : ByteArray).data.toList)
        clear hd
        go_wp2_with fail
        go_round
        case rel => exact ⟨_, x / 10, rfl, by go_num, HS.out⟩
        case measure => simp [intOf]; omega
      · have hd2 : (x : Int) % 10 = 9 := by omega
        have hu : Utf8.encode 57 = ⟨#[57]⟩ := by decide
        have hsum : (⟨#[57]⟩ : ByteArray).size + b.size ≤ 9223372036854775807 := by
          have : (⟨#[57]⟩ : ByteArray).size = 1 := rfl
          omega
        have HS : Hid (Lx.Dig v (x / 10) (⟨#[57]⟩ ++ b : ByteArray).data.toList) := (by rw [cat_data]; exact HD.out.step hp hd rfl : Lx.Dig v (x / 10) (⟨#[57]⟩ ++ b : ByteArray).data.toList)
        clear hd
        go_wp2_with fail
        go_round
        case rel => exact ⟨_, x / 10, rfl, by go_num, HS.out⟩
        case measure => simp [intOf]; omega
    · obtain rfl : x = 0 := by omega
      clear hlen hx hp
      by_cases hv0 : 0 < v
      · have hN := HD.out.num hv0 hv
        have z0 : ((v : Int) == 0) = false := beq_eq_false_iff_ne.2 (by omega)
        have HX : Hid (Lx.numR b.data.toList = (v, 0) ∧ b.data.toList ≠ []) := hN
        have hbs : b.size ≤ 1073741824 := by
          have h4 := HD.out.2.2.2
          have : b.data.toList.length = b.size := by simp
          omega
        clear hN HD
        have s1 : (⟨#[48]⟩ : ByteArray).size + b.size ≤ 9223372036854775807 := by rw [show (⟨#[48]⟩ : ByteArray).size = 1 from rfl]; omega
        have s2 : (⟨#[45]⟩ : ByteArray).size + b.size ≤ 9223372036854775807 := by rw [show (⟨#[45]⟩ : ByteArray).size = 1 from rfl]; omega
        have s3 : b.size + (⟨#[97]⟩ : ByteArray).size ≤ 9223372036854775807 := by rw [show (⟨#[97]⟩ : ByteArray).size = 1 from rfl]; omega
        go_wp2_with fail
        refine (num_fine b v aA aL aI aW _ (by unfold maxLen; omega) HE.out HX.out.1).mono ?_
        rintro e w1 ⟨rfl, hb1⟩
        have HE1 : Hid (Errs w1 aA aL aI aW) := HE.out.below hb1
        have HB1 : Hid (Below w.heap.size w w1) := hb1
        clear hb1
        go_wp2_with fail
        have hC := num_word (⟨#[48]⟩ ++ b : ByteArray) aA aL aI aW _ (by rw [cat_size]; unfold maxLen; omega) HE1.out (by rw [cat_data]; exact Lx.num_nought _ HX.out.2)
        refine hC.mono ?_
        clear hC
        rintro e w2 ⟨b2, rfl, hb2, hF2⟩
        have HE2 : Hid (Errs w2 aA aL aI aW) := HE1.out.below hb2
        have HB2 : Hid (Below w.heap.size w w2) := HB1.out.trans (hb2.mono HB1.out.size)
        have HF2 : Hid _ := hF2
        clear hb2 hF2
        go_wp2_with fail
        have hC := num_word (⟨#[45]⟩ ++ b : ByteArray) aA aL aI aW _ (by rw [cat_size]; unfold maxLen; omega) HE2.out (by rw [cat_data]; exact Lx.num_sign _)
        refine hC.mono ?_
        clear hC
        rintro e w3 ⟨b3, rfl, hb3, hF3⟩
        have HE3 : Hid (Errs w3 aA aL aI aW) := HE2.out.below hb3
        have HB3 : Hid (Below w.heap.size w w3) := HB2.out.trans (hb3.mono HB2.out.size)
        have HG2 : Hid _ := keep_block HF2.out hb3
        have HF3 : Hid _ := hF3
        clear hb3 hF3 HF2
        go_wp2_with fail
        have hC := num_word (b ++ ⟨#[97]⟩ : ByteArray) aA aL aI aW _ (by rw [cat_size2]; unfold maxLen; omega) HE3.out (by rw [cat_data2]; exact Lx.num_letter _)
        refine hC.mono ?_
        clear hC
        rintro e w4 ⟨b4, rfl, hb4, hF4⟩
        have HE4 : Hid (Errs w4 aA aL aI aW) := HE3.out.below hb4
        have HB4 : Hid (Below w.heap.size w w4) := HB3.out.trans (hb4.mono HB3.out.size)
        have HI2 : Hid _ := keep_block HG2.out hb4
        have HI3 : Hid _ := keep_block HF3.out hb4
        have HF4 : Hid _ := hF4
        clear hb4 hF4 HG2 HF3
        go_wp2_with fail
        refine (alive_errs aA aL aI aW _ HE4.out).mono ?_
        rintro e w5 ⟨rfl, hb5⟩
        have HE5 : Hid (Errs w5 aA aL aI aW) := HE4.out.below hb5
        have HB5 : Hid (Below w.heap.size w w5) := HB4.out.trans (hb5.mono HB4.out.size)
        have g2 := fault_err (keep_block HI2.out hb5)
        have g3 := fault_err (keep_block HI3.out hb5)
        have g4 := fault_err (keep_block HF4.out hb5)
        clear hb5 HI2 HI3 HF4
        go_wp2_with fail
        refine (code_word b2 aA aL aI aW _ HE5.out g2).mono ?_
        rintro e w' ⟨rfl, rfl⟩
        go_wp2_with fail
        refine (code_word b3 aA aL aI aW _ HE5.out g3).mono ?_
        rintro e w' ⟨rfl, rfl⟩
        go_wp2_with fail
        refine (code_word b4 aA aL aI aW _ HE5.out g4).mono ?_
        rintro e w' ⟨rfl, rfl⟩
        go_wp2_with fail
        go_ret
        exact ⟨rfl, HB5.out⟩
      · obtain rfl : v = 0 := by omega
        have z0 : (((0 : Nat) : Int) == 0) = true := rfl
        have HX : Hid (Lx.numR (⟨#[48]⟩ : ByteArray).data.toList = (0, 0) ∧ (⟨#[48]⟩ : ByteArray).data.toList ≠ []) := ⟨Lx.num_zero, by decide⟩
        clear HD
        go_wp2_with fail
        refine (num_fine ⟨#[48]⟩ 0 aA aL aI aW _ (by decide) HE.out HX.out.1).mono ?_
        rintro e w1 ⟨rfl, hb1⟩
        have HE1 : Hid (Errs w1 aA aL aI aW) := HE.out.below hb1
        have HB1 : Hid (Below w.heap.size w w1) := hb1
        clear hb1
        go_wp2_with fail
        have hC := num_word (⟨#[48]⟩ ++ ⟨#[48]⟩ : ByteArray) aA aL aI aW _ (by decide) HE1.out (by rw [cat_data]; exact Lx.num_nought _ HX.out.2)
        refine hC.mono ?_
        clear hC
        rintro e w2 ⟨b2, rfl, hb2, hF2⟩
        have HE2 : Hid (Errs w2 aA aL aI aW) := HE1.out.below hb2
        have HB2 : Hid (Below w.heap.size w w2) := HB1.out.trans (hb2.mono HB1.out.size)
        have HF2 : Hid _ := hF2
        clear hb2 hF2
        go_wp2_with fail
        have hC := num_word (⟨#[45]⟩ ++ ⟨#[48]⟩ : ByteArray) aA aL aI aW _ (by decide) HE2.out (by rw [cat_data]; exact Lx.num_sign _)
        refine hC.mono ?_
        clear hC
        rintro e w3 ⟨b3, rfl, hb3, hF3⟩
        have HE3 : Hid (Errs w3 aA aL aI aW) := HE2.out.below hb3
        have HB3 : Hid (Below w.heap.size w w3) := HB2.out.trans (hb3.mono HB2.out.size)
        have HG2 : Hid _ := keep_block HF2.out hb3
        have HF3 : Hid _ := hF3
        clear hb3 hF3 HF2
        go_wp2_with fail
        have hC := num_word (⟨#[48]⟩ ++ ⟨#[97]⟩ : ByteArray) aA aL aI aW _ (by decide) HE3.out (by rw [cat_data2]; exact Lx.num_letter _)
        refine hC.mono ?_
        clear hC
        rintro e w4 ⟨b4, rfl, hb4, hF4⟩
        have HE4 : Hid (Errs w4 aA aL aI aW) := HE3.out.below hb4
        have HB4 : Hid (Below w.heap.size w w4) := HB3.out.trans (hb4.mono HB3.out.size)
        have HI2 : Hid _ := keep_block HG2.out hb4
        have HI3 : Hid _ := keep_block HF3.out hb4
        have HF4 : Hid _ := hF4
        clear hb4 hF4 HG2 HF3
        go_wp2_with fail
        refine (alive_errs aA aL aI aW _ HE4.out).mono ?_
        rintro e w5 ⟨rfl, hb5⟩
        have HE5 : Hid (Errs w5 aA aL aI aW) := HE4.out.below hb5
        have HB5 : Hid (Below w.heap.size w w5) := HB4.out.trans (hb5.mono HB4.out.size)
        have g2 := fault_err (keep_block HI2.out hb5)
        have g3 := fault_err (keep_block HI3.out hb5)
        have g4 := fault_err (keep_block HF4.out hb5)
        clear hb5 HI2 HI3 HF4
        go_wp2_with fail
        refine (code_word b2 aA aL aI aW _ HE5.out g2).mono ?_
        rintro e w' ⟨rfl, rfl⟩
        go_wp2_with fail
        refine (code_word b3 aA aL aI aW _ HE5.out g3).mono ?_
        rintro e w' ⟨rfl, rfl⟩
        go_wp2_with fail
        refine (code_word b4 aA aL aI aW _ HE5.out g4).mono ?_
        rintro e w' ⟨rfl, rfl⟩
        go_wp2_with fail
        go_ret
        exact ⟨rfl, HB5.out⟩
end Go.Proofs.YtheiahheflcjpabDoor
