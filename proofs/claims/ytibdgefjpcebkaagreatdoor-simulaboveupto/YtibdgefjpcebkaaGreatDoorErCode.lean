/- Api's errors in memory, by their codes; api.Code at a chain of faults. (Written by mker.py.) -/
import Derived.Test.YtibdgefjpcebkaaGreatDoorPart3
namespace Go.Proofs.YtibdgefjpcebkaaGreatDoor
open Go.RowKit
structure Er (m : Nat) (w : World) (e : Nat → Addr) : Prop where
  s1 : 1 ≤ m → Sent w 2 (e 1)
  s2 : 2 ≤ m → Sent w 1 (e 2)
  s3 : 3 ≤ m → Sent w 0 (e 3)
  s4 : 4 ≤ m → Sent w 3 (e 4)
  s5 : 5 ≤ m → Sent w 4 (e 5)
  s6 : 6 ≤ m → Sent w 5 (e 6)
  s7 : 7 ≤ m → Sent w 6 (e 7)
  s8 : 8 ≤ m → Sent w 7 (e 8)
  s9 : 9 ≤ m → Sent w 8 (e 9)
  s10 : 10 ≤ m → Sent w 9 (e 10)
  s11 : 11 ≤ m → Sent w 11 (e 11)
  s12 : 12 ≤ m → Sent w 12 (e 12)
  s13 : 13 ≤ m → Sent w 13 (e 13)
  s14 : 14 ≤ m → Sent w 14 (e 14)
  s15 : 15 ≤ m → Sent w 15 (e 15)
  s16 : 16 ≤ m → Sent w 16 (e 16)
  s17 : 17 ≤ m → Sent w 17 (e 17)
  s18 : 18 ≤ m → Sent w 18 (e 18)
  s19 : 19 ≤ m → Sent w 19 (e 19)
  ne : ∀ i j, 1 ≤ i → i < j → j ≤ m → e j ≠ e i
theorem Er.below {m : Nat} {w w' : World} {e : Nat → Addr} (h : Er m w e) (hb : Below w.heap.size w w') : Er m w' e :=
  ⟨fun hm => (h.s1 hm).below hb, fun hm => (h.s2 hm).below hb, fun hm => (h.s3 hm).below hb, fun hm => (h.s4 hm).below hb, fun hm => (h.s5 hm).below hb, fun hm => (h.s6 hm).below hb, fun hm => (h.s7 hm).below hb, fun hm => (h.s8 hm).below hb, fun hm => (h.s9 hm).below hb, fun hm => (h.s10 hm).below hb, fun hm => (h.s11 hm).below hb, fun hm => (h.s12 hm).below hb, fun hm => (h.s13 hm).below hb, fun hm => (h.s14 hm).below hb, fun hm => (h.s15 hm).below hb, fun hm => (h.s16 hm).below hb, fun hm => (h.s17 hm).below hb, fun hm => (h.s18 hm).below hb, fun hm => (h.s19 hm).below hb, h.ne⟩
set_option maxHeartbeats 1000000 in
theorem rest_11 {m : Nat} (hm : 11 ≤ m) (v : Value) (ls : List ByteArray) (l c : Int) (e : Nat → Addr) (w : World) (hE : Er m w e) (hC : Chain w l c (e 11) ls v) :
    Calls Tryz.prog 91 #[v] w fun r w' => r = .returned (.int .i64 11) ∧ w' = w := by
  obtain ⟨g11, c11, t11, b11⟩ := hE.s11 (by omega)
  have I11 : Hid _ := is_chain v ls l c (e 11) (e 11) c11 c11 t11 t11 w hC b11 b11
  have d11 : decide (e 11 = e 11) = true := by simp
  obtain ⟨T, x, rfl⟩ := hC.iface
  clear hE hC b11
  go_enter Tryz.func91, Tryz.ntmps91
  go_wp2_with fail
  refine Calls.mono I11.out ?_
  rintro r w' ⟨rfl, hw⟩; obtain rfl := hw.symm; clear hw
  rw [d11]
  go_wp2_with fail
  go_ret
  exact ⟨rfl, rfl⟩
set_option maxHeartbeats 1000000 in
theorem rest_12 {m : Nat} (hm : 12 ≤ m) (v : Value) (ls : List ByteArray) (l c : Int) (e : Nat → Addr) (w : World) (hE : Er m w e) (hC : Chain w l c (e 12) ls v) :
    Calls Tryz.prog 91 #[v] w fun r w' => r = .returned (.int .i64 12) ∧ w' = w := by
  obtain ⟨g12, c12, t12, b12⟩ := hE.s12 (by omega)
  obtain ⟨g11, c11, t11, b11⟩ := hE.s11 (by omega)
  have I11 : Hid _ := is_chain v ls l c (e 12) (e 11) c12 c11 t12 t11 w hC b12 b11
  have d11 : decide (e 12 = e 11) = false := by simpa using hE.ne 11 12 (by decide) (by decide) (by omega)
  have I12 : Hid _ := is_chain v ls l c (e 12) (e 12) c12 c12 t12 t12 w hC b12 b12
  have d12 : decide (e 12 = e 12) = true := by simp
  obtain ⟨T, x, rfl⟩ := hC.iface
  clear hE hC b11 b12
  go_enter Tryz.func91, Tryz.ntmps91
  go_wp2_with fail
  refine Calls.mono I11.out ?_
  rintro r w' ⟨rfl, hw⟩; obtain rfl := hw.symm; clear hw
  rw [d11]
  go_wp2_with fail
  refine Calls.mono I12.out ?_
  rintro r w' ⟨rfl, hw⟩; obtain rfl := hw.symm; clear hw
  rw [d12]
  go_wp2_with fail
  go_ret
  exact ⟨rfl, rfl⟩
set_option maxHeartbeats 1000000 in
theorem rest_13 {m : Nat} (hm : 13 ≤ m) (v : Value) (ls : List ByteArray) (l c : Int) (e : Nat → Addr) (w : World) (hE : Er m w e) (hC : Chain w l c (e 13) ls v) :
    Calls Tryz.prog 91 #[v] w fun r w' => r = .returned (.int .i64 13) ∧ w' = w := by
  obtain ⟨g13, c13, t13, b13⟩ := hE.s13 (by omega)
  obtain ⟨g11, c11, t11, b11⟩ := hE.s11 (by omega)
  obtain ⟨g12, c12, t12, b12⟩ := hE.s12 (by omega)
  have I11 : Hid _ := is_chain v ls l c (e 13) (e 11) c13 c11 t13 t11 w hC b13 b11
  have d11 : decide (e 13 = e 11) = false := by simpa using hE.ne 11 13 (by decide) (by decide) (by omega)
  have I12 : Hid _ := is_chain v ls l c (e 13) (e 12) c13 c12 t13 t12 w hC b13 b12
  have d12 : decide (e 13 = e 12) = false := by simpa using hE.ne 12 13 (by decide) (by decide) (by omega)
  have I13 : Hid _ := is_chain v ls l c (e 13) (e 13) c13 c13 t13 t13 w hC b13 b13
  have d13 : decide (e 13 = e 13) = true := by simp
  obtain ⟨T, x, rfl⟩ := hC.iface
  clear hE hC b11 b12 b13
  go_enter Tryz.func91, Tryz.ntmps91
  go_wp2_with fail
  refine Calls.mono I11.out ?_
  rintro r w' ⟨rfl, hw⟩; obtain rfl := hw.symm; clear hw
  rw [d11]
  go_wp2_with fail
  refine Calls.mono I12.out ?_
  rintro r w' ⟨rfl, hw⟩; obtain rfl := hw.symm; clear hw
  rw [d12]
  go_wp2_with fail
  refine Calls.mono I13.out ?_
  rintro r w' ⟨rfl, hw⟩; obtain rfl := hw.symm; clear hw
  rw [d13]
  go_wp2_with fail
  go_ret
  exact ⟨rfl, rfl⟩
set_option maxHeartbeats 1000000 in
theorem rest_14 {m : Nat} (hm : 14 ≤ m) (v : Value) (ls : List ByteArray) (l c : Int) (e : Nat → Addr) (w : World) (hE : Er m w e) (hC : Chain w l c (e 14) ls v) :
    Calls Tryz.prog 91 #[v] w fun r w' => r = .returned (.int .i64 14) ∧ w' = w := by
  obtain ⟨g14, c14, t14, b14⟩ := hE.s14 (by omega)
  obtain ⟨g11, c11, t11, b11⟩ := hE.s11 (by omega)
  obtain ⟨g12, c12, t12, b12⟩ := hE.s12 (by omega)
  obtain ⟨g13, c13, t13, b13⟩ := hE.s13 (by omega)
  have I11 : Hid _ := is_chain v ls l c (e 14) (e 11) c14 c11 t14 t11 w hC b14 b11
  have d11 : decide (e 14 = e 11) = false := by simpa using hE.ne 11 14 (by decide) (by decide) (by omega)
  have I12 : Hid _ := is_chain v ls l c (e 14) (e 12) c14 c12 t14 t12 w hC b14 b12
  have d12 : decide (e 14 = e 12) = false := by simpa using hE.ne 12 14 (by decide) (by decide) (by omega)
  have I13 : Hid _ := is_chain v ls l c (e 14) (e 13) c14 c13 t14 t13 w hC b14 b13
  have d13 : decide (e 14 = e 13) = false := by simpa using hE.ne 13 14 (by decide) (by decide) (by omega)
  have I14 : Hid _ := is_chain v ls l c (e 14) (e 14) c14 c14 t14 t14 w hC b14 b14
  have d14 : decide (e 14 = e 14) = true := by simp
  obtain ⟨T, x, rfl⟩ := hC.iface
  clear hE hC b11 b12 b13 b14
  go_enter Tryz.func91, Tryz.ntmps91
  go_wp2_with fail
  refine Calls.mono I11.out ?_
  rintro r w' ⟨rfl, hw⟩; obtain rfl := hw.symm; clear hw
  rw [d11]
  go_wp2_with fail
  refine Calls.mono I12.out ?_
  rintro r w' ⟨rfl, hw⟩; obtain rfl := hw.symm; clear hw
  rw [d12]
  go_wp2_with fail
  refine Calls.mono I13.out ?_
  rintro r w' ⟨rfl, hw⟩; obtain rfl := hw.symm; clear hw
  rw [d13]
  go_wp2_with fail
  refine Calls.mono I14.out ?_
  rintro r w' ⟨rfl, hw⟩; obtain rfl := hw.symm; clear hw
  rw [d14]
  go_wp2_with fail
  go_ret
  exact ⟨rfl, rfl⟩
set_option maxHeartbeats 1000000 in
theorem rest_15 {m : Nat} (hm : 15 ≤ m) (v : Value) (ls : List ByteArray) (l c : Int) (e : Nat → Addr) (w : World) (hE : Er m w e) (hC : Chain w l c (e 15) ls v) :
    Calls Tryz.prog 91 #[v] w fun r w' => r = .returned (.int .i64 15) ∧ w' = w := by
  obtain ⟨g15, c15, t15, b15⟩ := hE.s15 (by omega)
  obtain ⟨g11, c11, t11, b11⟩ := hE.s11 (by omega)
  obtain ⟨g12, c12, t12, b12⟩ := hE.s12 (by omega)
  obtain ⟨g13, c13, t13, b13⟩ := hE.s13 (by omega)
  obtain ⟨g14, c14, t14, b14⟩ := hE.s14 (by omega)
  have I11 : Hid _ := is_chain v ls l c (e 15) (e 11) c15 c11 t15 t11 w hC b15 b11
  have d11 : decide (e 15 = e 11) = false := by simpa using hE.ne 11 15 (by decide) (by decide) (by omega)
  have I12 : Hid _ := is_chain v ls l c (e 15) (e 12) c15 c12 t15 t12 w hC b15 b12
  have d12 : decide (e 15 = e 12) = false := by simpa using hE.ne 12 15 (by decide) (by decide) (by omega)
  have I13 : Hid _ := is_chain v ls l c (e 15) (e 13) c15 c13 t15 t13 w hC b15 b13
  have d13 : decide (e 15 = e 13) = false := by simpa using hE.ne 13 15 (by decide) (by decide) (by omega)
  have I14 : Hid _ := is_chain v ls l c (e 15) (e 14) c15 c14 t15 t14 w hC b15 b14
  have d14 : decide (e 15 = e 14) = false := by simpa using hE.ne 14 15 (by decide) (by decide) (by omega)
  have I15 : Hid _ := is_chain v ls l c (e 15) (e 15) c15 c15 t15 t15 w hC b15 b15
  have d15 : decide (e 15 = e 15) = true := by simp
  obtain ⟨T, x, rfl⟩ := hC.iface
  clear hE hC b11 b12 b13 b14 b15
  go_enter Tryz.func91, Tryz.ntmps91
  go_wp2_with fail
  refine Calls.mono I11.out ?_
  rintro r w' ⟨rfl, hw⟩; obtain rfl := hw.symm; clear hw
  rw [d11]
  go_wp2_with fail
  refine Calls.mono I12.out ?_
  rintro r w' ⟨rfl, hw⟩; obtain rfl := hw.symm; clear hw
  rw [d12]
  go_wp2_with fail
  refine Calls.mono I13.out ?_
  rintro r w' ⟨rfl, hw⟩; obtain rfl := hw.symm; clear hw
  rw [d13]
  go_wp2_with fail
  refine Calls.mono I14.out ?_
  rintro r w' ⟨rfl, hw⟩; obtain rfl := hw.symm; clear hw
  rw [d14]
  go_wp2_with fail
  refine Calls.mono I15.out ?_
  rintro r w' ⟨rfl, hw⟩; obtain rfl := hw.symm; clear hw
  rw [d15]
  go_wp2_with fail
  go_ret
  exact ⟨rfl, rfl⟩
set_option maxHeartbeats 1000000 in
theorem rest_16 {m : Nat} (hm : 16 ≤ m) (v : Value) (ls : List ByteArray) (l c : Int) (e : Nat → Addr) (w : World) (hE : Er m w e) (hC : Chain w l c (e 16) ls v) :
    Calls Tryz.prog 91 #[v] w fun r w' => r = .returned (.int .i64 16) ∧ w' = w := by
  obtain ⟨g16, c16, t16, b16⟩ := hE.s16 (by omega)
  obtain ⟨g11, c11, t11, b11⟩ := hE.s11 (by omega)
  obtain ⟨g12, c12, t12, b12⟩ := hE.s12 (by omega)
  obtain ⟨g13, c13, t13, b13⟩ := hE.s13 (by omega)
  obtain ⟨g14, c14, t14, b14⟩ := hE.s14 (by omega)
  obtain ⟨g15, c15, t15, b15⟩ := hE.s15 (by omega)
  have I11 : Hid _ := is_chain v ls l c (e 16) (e 11) c16 c11 t16 t11 w hC b16 b11
  have d11 : decide (e 16 = e 11) = false := by simpa using hE.ne 11 16 (by decide) (by decide) (by omega)
  have I12 : Hid _ := is_chain v ls l c (e 16) (e 12) c16 c12 t16 t12 w hC b16 b12
  have d12 : decide (e 16 = e 12) = false := by simpa using hE.ne 12 16 (by decide) (by decide) (by omega)
  have I13 : Hid _ := is_chain v ls l c (e 16) (e 13) c16 c13 t16 t13 w hC b16 b13
  have d13 : decide (e 16 = e 13) = false := by simpa using hE.ne 13 16 (by decide) (by decide) (by omega)
  have I14 : Hid _ := is_chain v ls l c (e 16) (e 14) c16 c14 t16 t14 w hC b16 b14
  have d14 : decide (e 16 = e 14) = false := by simpa using hE.ne 14 16 (by decide) (by decide) (by omega)
  have I15 : Hid _ := is_chain v ls l c (e 16) (e 15) c16 c15 t16 t15 w hC b16 b15
  have d15 : decide (e 16 = e 15) = false := by simpa using hE.ne 15 16 (by decide) (by decide) (by omega)
  have I16 : Hid _ := is_chain v ls l c (e 16) (e 16) c16 c16 t16 t16 w hC b16 b16
  have d16 : decide (e 16 = e 16) = true := by simp
  obtain ⟨T, x, rfl⟩ := hC.iface
  clear hE hC b11 b12 b13 b14 b15 b16
  go_enter Tryz.func91, Tryz.ntmps91
  go_wp2_with fail
  refine Calls.mono I11.out ?_
  rintro r w' ⟨rfl, hw⟩; obtain rfl := hw.symm; clear hw
  rw [d11]
  go_wp2_with fail
  refine Calls.mono I12.out ?_
  rintro r w' ⟨rfl, hw⟩; obtain rfl := hw.symm; clear hw
  rw [d12]
  go_wp2_with fail
  refine Calls.mono I13.out ?_
  rintro r w' ⟨rfl, hw⟩; obtain rfl := hw.symm; clear hw
  rw [d13]
  go_wp2_with fail
  refine Calls.mono I14.out ?_
  rintro r w' ⟨rfl, hw⟩; obtain rfl := hw.symm; clear hw
  rw [d14]
  go_wp2_with fail
  refine Calls.mono I15.out ?_
  rintro r w' ⟨rfl, hw⟩; obtain rfl := hw.symm; clear hw
  rw [d15]
  go_wp2_with fail
  refine Calls.mono I16.out ?_
  rintro r w' ⟨rfl, hw⟩; obtain rfl := hw.symm; clear hw
  rw [d16]
  go_wp2_with fail
  go_ret
  exact ⟨rfl, rfl⟩
set_option maxHeartbeats 1000000 in
theorem rest_17 {m : Nat} (hm : 17 ≤ m) (v : Value) (ls : List ByteArray) (l c : Int) (e : Nat → Addr) (w : World) (hE : Er m w e) (hC : Chain w l c (e 17) ls v) :
    Calls Tryz.prog 91 #[v] w fun r w' => r = .returned (.int .i64 17) ∧ w' = w := by
  obtain ⟨g17, c17, t17, b17⟩ := hE.s17 (by omega)
  obtain ⟨g11, c11, t11, b11⟩ := hE.s11 (by omega)
  obtain ⟨g12, c12, t12, b12⟩ := hE.s12 (by omega)
  obtain ⟨g13, c13, t13, b13⟩ := hE.s13 (by omega)
  obtain ⟨g14, c14, t14, b14⟩ := hE.s14 (by omega)
  obtain ⟨g15, c15, t15, b15⟩ := hE.s15 (by omega)
  obtain ⟨g16, c16, t16, b16⟩ := hE.s16 (by omega)
  have I11 : Hid _ := is_chain v ls l c (e 17) (e 11) c17 c11 t17 t11 w hC b17 b11
  have d11 : decide (e 17 = e 11) = false := by simpa using hE.ne 11 17 (by decide) (by decide) (by omega)
  have I12 : Hid _ := is_chain v ls l c (e 17) (e 12) c17 c12 t17 t12 w hC b17 b12
  have d12 : decide (e 17 = e 12) = false := by simpa using hE.ne 12 17 (by decide) (by decide) (by omega)
  have I13 : Hid _ := is_chain v ls l c (e 17) (e 13) c17 c13 t17 t13 w hC b17 b13
  have d13 : decide (e 17 = e 13) = false := by simpa using hE.ne 13 17 (by decide) (by decide) (by omega)
  have I14 : Hid _ := is_chain v ls l c (e 17) (e 14) c17 c14 t17 t14 w hC b17 b14
  have d14 : decide (e 17 = e 14) = false := by simpa using hE.ne 14 17 (by decide) (by decide) (by omega)
  have I15 : Hid _ := is_chain v ls l c (e 17) (e 15) c17 c15 t17 t15 w hC b17 b15
  have d15 : decide (e 17 = e 15) = false := by simpa using hE.ne 15 17 (by decide) (by decide) (by omega)
  have I16 : Hid _ := is_chain v ls l c (e 17) (e 16) c17 c16 t17 t16 w hC b17 b16
  have d16 : decide (e 17 = e 16) = false := by simpa using hE.ne 16 17 (by decide) (by decide) (by omega)
  have I17 : Hid _ := is_chain v ls l c (e 17) (e 17) c17 c17 t17 t17 w hC b17 b17
  have d17 : decide (e 17 = e 17) = true := by simp
  obtain ⟨T, x, rfl⟩ := hC.iface
  clear hE hC b11 b12 b13 b14 b15 b16 b17
  go_enter Tryz.func91, Tryz.ntmps91
  go_wp2_with fail
  refine Calls.mono I11.out ?_
  rintro r w' ⟨rfl, hw⟩; obtain rfl := hw.symm; clear hw
  rw [d11]
  go_wp2_with fail
  refine Calls.mono I12.out ?_
  rintro r w' ⟨rfl, hw⟩; obtain rfl := hw.symm; clear hw
  rw [d12]
  go_wp2_with fail
  refine Calls.mono I13.out ?_
  rintro r w' ⟨rfl, hw⟩; obtain rfl := hw.symm; clear hw
  rw [d13]
  go_wp2_with fail
  refine Calls.mono I14.out ?_
  rintro r w' ⟨rfl, hw⟩; obtain rfl := hw.symm; clear hw
  rw [d14]
  go_wp2_with fail
  refine Calls.mono I15.out ?_
  rintro r w' ⟨rfl, hw⟩; obtain rfl := hw.symm; clear hw
  rw [d15]
  go_wp2_with fail
  refine Calls.mono I16.out ?_
  rintro r w' ⟨rfl, hw⟩; obtain rfl := hw.symm; clear hw
  rw [d16]
  go_wp2_with fail
  refine Calls.mono I17.out ?_
  rintro r w' ⟨rfl, hw⟩; obtain rfl := hw.symm; clear hw
  rw [d17]
  go_wp2_with fail
  go_ret
  exact ⟨rfl, rfl⟩
set_option maxHeartbeats 1000000 in
theorem rest_18 {m : Nat} (hm : 18 ≤ m) (v : Value) (ls : List ByteArray) (l c : Int) (e : Nat → Addr) (w : World) (hE : Er m w e) (hC : Chain w l c (e 18) ls v) :
    Calls Tryz.prog 91 #[v] w fun r w' => r = .returned (.int .i64 18) ∧ w' = w := by
  obtain ⟨g18, c18, t18, b18⟩ := hE.s18 (by omega)
  obtain ⟨g11, c11, t11, b11⟩ := hE.s11 (by omega)
  obtain ⟨g12, c12, t12, b12⟩ := hE.s12 (by omega)
  obtain ⟨g13, c13, t13, b13⟩ := hE.s13 (by omega)
  obtain ⟨g14, c14, t14, b14⟩ := hE.s14 (by omega)
  obtain ⟨g15, c15, t15, b15⟩ := hE.s15 (by omega)
  obtain ⟨g16, c16, t16, b16⟩ := hE.s16 (by omega)
  obtain ⟨g17, c17, t17, b17⟩ := hE.s17 (by omega)
  have I11 : Hid _ := is_chain v ls l c (e 18) (e 11) c18 c11 t18 t11 w hC b18 b11
  have d11 : decide (e 18 = e 11) = false := by simpa using hE.ne 11 18 (by decide) (by decide) (by omega)
  have I12 : Hid _ := is_chain v ls l c (e 18) (e 12) c18 c12 t18 t12 w hC b18 b12
  have d12 : decide (e 18 = e 12) = false := by simpa using hE.ne 12 18 (by decide) (by decide) (by omega)
  have I13 : Hid _ := is_chain v ls l c (e 18) (e 13) c18 c13 t18 t13 w hC b18 b13
  have d13 : decide (e 18 = e 13) = false := by simpa using hE.ne 13 18 (by decide) (by decide) (by omega)
  have I14 : Hid _ := is_chain v ls l c (e 18) (e 14) c18 c14 t18 t14 w hC b18 b14
  have d14 : decide (e 18 = e 14) = false := by simpa using hE.ne 14 18 (by decide) (by decide) (by omega)
  have I15 : Hid _ := is_chain v ls l c (e 18) (e 15) c18 c15 t18 t15 w hC b18 b15
  have d15 : decide (e 18 = e 15) = false := by simpa using hE.ne 15 18 (by decide) (by decide) (by omega)
  have I16 : Hid _ := is_chain v ls l c (e 18) (e 16) c18 c16 t18 t16 w hC b18 b16
  have d16 : decide (e 18 = e 16) = false := by simpa using hE.ne 16 18 (by decide) (by decide) (by omega)
  have I17 : Hid _ := is_chain v ls l c (e 18) (e 17) c18 c17 t18 t17 w hC b18 b17
  have d17 : decide (e 18 = e 17) = false := by simpa using hE.ne 17 18 (by decide) (by decide) (by omega)
  have I18 : Hid _ := is_chain v ls l c (e 18) (e 18) c18 c18 t18 t18 w hC b18 b18
  have d18 : decide (e 18 = e 18) = true := by simp
  obtain ⟨T, x, rfl⟩ := hC.iface
  clear hE hC b11 b12 b13 b14 b15 b16 b17 b18
  go_enter Tryz.func91, Tryz.ntmps91
  go_wp2_with fail
  refine Calls.mono I11.out ?_
  rintro r w' ⟨rfl, hw⟩; obtain rfl := hw.symm; clear hw
  rw [d11]
  go_wp2_with fail
  refine Calls.mono I12.out ?_
  rintro r w' ⟨rfl, hw⟩; obtain rfl := hw.symm; clear hw
  rw [d12]
  go_wp2_with fail
  refine Calls.mono I13.out ?_
  rintro r w' ⟨rfl, hw⟩; obtain rfl := hw.symm; clear hw
  rw [d13]
  go_wp2_with fail
  refine Calls.mono I14.out ?_
  rintro r w' ⟨rfl, hw⟩; obtain rfl := hw.symm; clear hw
  rw [d14]
  go_wp2_with fail
  refine Calls.mono I15.out ?_
  rintro r w' ⟨rfl, hw⟩; obtain rfl := hw.symm; clear hw
  rw [d15]
  go_wp2_with fail
  refine Calls.mono I16.out ?_
  rintro r w' ⟨rfl, hw⟩; obtain rfl := hw.symm; clear hw
  rw [d16]
  go_wp2_with fail
  refine Calls.mono I17.out ?_
  rintro r w' ⟨rfl, hw⟩; obtain rfl := hw.symm; clear hw
  rw [d17]
  go_wp2_with fail
  refine Calls.mono I18.out ?_
  rintro r w' ⟨rfl, hw⟩; obtain rfl := hw.symm; clear hw
  rw [d18]
  go_wp2_with fail
  go_ret
  exact ⟨rfl, rfl⟩
set_option maxHeartbeats 1000000 in
theorem rest_19 {m : Nat} (hm : 19 ≤ m) (v : Value) (ls : List ByteArray) (l c : Int) (e : Nat → Addr) (w : World) (hE : Er m w e) (hC : Chain w l c (e 19) ls v) :
    Calls Tryz.prog 91 #[v] w fun r w' => r = .returned (.int .i64 19) ∧ w' = w := by
  obtain ⟨g19, c19, t19, b19⟩ := hE.s19 (by omega)
  obtain ⟨g11, c11, t11, b11⟩ := hE.s11 (by omega)
  obtain ⟨g12, c12, t12, b12⟩ := hE.s12 (by omega)
  obtain ⟨g13, c13, t13, b13⟩ := hE.s13 (by omega)
  obtain ⟨g14, c14, t14, b14⟩ := hE.s14 (by omega)
  obtain ⟨g15, c15, t15, b15⟩ := hE.s15 (by omega)
  obtain ⟨g16, c16, t16, b16⟩ := hE.s16 (by omega)
  obtain ⟨g17, c17, t17, b17⟩ := hE.s17 (by omega)
  obtain ⟨g18, c18, t18, b18⟩ := hE.s18 (by omega)
  have I11 : Hid _ := is_chain v ls l c (e 19) (e 11) c19 c11 t19 t11 w hC b19 b11
  have d11 : decide (e 19 = e 11) = false := by simpa using hE.ne 11 19 (by decide) (by decide) (by omega)
  have I12 : Hid _ := is_chain v ls l c (e 19) (e 12) c19 c12 t19 t12 w hC b19 b12
  have d12 : decide (e 19 = e 12) = false := by simpa using hE.ne 12 19 (by decide) (by decide) (by omega)
  have I13 : Hid _ := is_chain v ls l c (e 19) (e 13) c19 c13 t19 t13 w hC b19 b13
  have d13 : decide (e 19 = e 13) = false := by simpa using hE.ne 13 19 (by decide) (by decide) (by omega)
  have I14 : Hid _ := is_chain v ls l c (e 19) (e 14) c19 c14 t19 t14 w hC b19 b14
  have d14 : decide (e 19 = e 14) = false := by simpa using hE.ne 14 19 (by decide) (by decide) (by omega)
  have I15 : Hid _ := is_chain v ls l c (e 19) (e 15) c19 c15 t19 t15 w hC b19 b15
  have d15 : decide (e 19 = e 15) = false := by simpa using hE.ne 15 19 (by decide) (by decide) (by omega)
  have I16 : Hid _ := is_chain v ls l c (e 19) (e 16) c19 c16 t19 t16 w hC b19 b16
  have d16 : decide (e 19 = e 16) = false := by simpa using hE.ne 16 19 (by decide) (by decide) (by omega)
  have I17 : Hid _ := is_chain v ls l c (e 19) (e 17) c19 c17 t19 t17 w hC b19 b17
  have d17 : decide (e 19 = e 17) = false := by simpa using hE.ne 17 19 (by decide) (by decide) (by omega)
  have I18 : Hid _ := is_chain v ls l c (e 19) (e 18) c19 c18 t19 t18 w hC b19 b18
  have d18 : decide (e 19 = e 18) = false := by simpa using hE.ne 18 19 (by decide) (by decide) (by omega)
  have I19 : Hid _ := is_chain v ls l c (e 19) (e 19) c19 c19 t19 t19 w hC b19 b19
  have d19 : decide (e 19 = e 19) = true := by simp
  obtain ⟨T, x, rfl⟩ := hC.iface
  clear hE hC b11 b12 b13 b14 b15 b16 b17 b18 b19
  go_enter Tryz.func91, Tryz.ntmps91
  go_wp2_with fail
  refine Calls.mono I11.out ?_
  rintro r w' ⟨rfl, hw⟩; obtain rfl := hw.symm; clear hw
  rw [d11]
  go_wp2_with fail
  refine Calls.mono I12.out ?_
  rintro r w' ⟨rfl, hw⟩; obtain rfl := hw.symm; clear hw
  rw [d12]
  go_wp2_with fail
  refine Calls.mono I13.out ?_
  rintro r w' ⟨rfl, hw⟩; obtain rfl := hw.symm; clear hw
  rw [d13]
  go_wp2_with fail
  refine Calls.mono I14.out ?_
  rintro r w' ⟨rfl, hw⟩; obtain rfl := hw.symm; clear hw
  rw [d14]
  go_wp2_with fail
  refine Calls.mono I15.out ?_
  rintro r w' ⟨rfl, hw⟩; obtain rfl := hw.symm; clear hw
  rw [d15]
  go_wp2_with fail
  refine Calls.mono I16.out ?_
  rintro r w' ⟨rfl, hw⟩; obtain rfl := hw.symm; clear hw
  rw [d16]
  go_wp2_with fail
  refine Calls.mono I17.out ?_
  rintro r w' ⟨rfl, hw⟩; obtain rfl := hw.symm; clear hw
  rw [d17]
  go_wp2_with fail
  refine Calls.mono I18.out ?_
  rintro r w' ⟨rfl, hw⟩; obtain rfl := hw.symm; clear hw
  rw [d18]
  go_wp2_with fail
  refine Calls.mono I19.out ?_
  rintro r w' ⟨rfl, hw⟩; obtain rfl := hw.symm; clear hw
  rw [d19]
  go_wp2_with fail
  go_ret
  exact ⟨rfl, rfl⟩
set_option maxHeartbeats 1000000 in
theorem code_1 {m : Nat} (hm : 1 ≤ m) (v : Value) (ls : List ByteArray) (l c : Int) (e : Nat → Addr) (w : World) (hE : Er m w e) (hC : Chain w l c (e 1) ls v) :
    Calls Tryz.prog 31 #[v] w fun r w' => r = .returned (.int .i64 1) ∧ w' = w := by
  obtain ⟨g1, c1, t1, b1⟩ := hE.s1 (by omega)
  have I1 : Hid _ := is_chain v ls l c (e 1) (e 1) c1 c1 t1 t1 w hC b1 b1
  have d1 : decide (e 1 = e 1) = true := by simp
  obtain ⟨T, x, rfl⟩ := hC.iface
  clear hE hC b1
  go_enter Tryz.func31, Tryz.ntmps31
  go_wp2_with fail
  refine Calls.mono I1.out ?_
  rintro r w' ⟨rfl, hw⟩; obtain rfl := hw.symm; clear hw
  rw [d1]
  go_wp2_with fail
  go_ret
  exact ⟨rfl, rfl⟩
set_option maxHeartbeats 1000000 in
theorem code_2 {m : Nat} (hm : 2 ≤ m) (v : Value) (ls : List ByteArray) (l c : Int) (e : Nat → Addr) (w : World) (hE : Er m w e) (hC : Chain w l c (e 2) ls v) :
    Calls Tryz.prog 31 #[v] w fun r w' => r = .returned (.int .i64 2) ∧ w' = w := by
  obtain ⟨g2, c2, t2, b2⟩ := hE.s2 (by omega)
  obtain ⟨g1, c1, t1, b1⟩ := hE.s1 (by omega)
  have I1 : Hid _ := is_chain v ls l c (e 2) (e 1) c2 c1 t2 t1 w hC b2 b1
  have d1 : decide (e 2 = e 1) = false := by simpa using hE.ne 1 2 (by decide) (by decide) (by omega)
  have I2 : Hid _ := is_chain v ls l c (e 2) (e 2) c2 c2 t2 t2 w hC b2 b2
  have d2 : decide (e 2 = e 2) = true := by simp
  obtain ⟨T, x, rfl⟩ := hC.iface
  clear hE hC b1 b2
  go_enter Tryz.func31, Tryz.ntmps31
  go_wp2_with fail
  refine Calls.mono I1.out ?_
  rintro r w' ⟨rfl, hw⟩; obtain rfl := hw.symm; clear hw
  rw [d1]
  go_wp2_with fail
  refine Calls.mono I2.out ?_
  rintro r w' ⟨rfl, hw⟩; obtain rfl := hw.symm; clear hw
  rw [d2]
  go_wp2_with fail
  go_ret
  exact ⟨rfl, rfl⟩
set_option maxHeartbeats 1000000 in
theorem code_3 {m : Nat} (hm : 3 ≤ m) (v : Value) (ls : List ByteArray) (l c : Int) (e : Nat → Addr) (w : World) (hE : Er m w e) (hC : Chain w l c (e 3) ls v) :
    Calls Tryz.prog 31 #[v] w fun r w' => r = .returned (.int .i64 3) ∧ w' = w := by
  obtain ⟨g3, c3, t3, b3⟩ := hE.s3 (by omega)
  obtain ⟨g1, c1, t1, b1⟩ := hE.s1 (by omega)
  obtain ⟨g2, c2, t2, b2⟩ := hE.s2 (by omega)
  have I1 : Hid _ := is_chain v ls l c (e 3) (e 1) c3 c1 t3 t1 w hC b3 b1
  have d1 : decide (e 3 = e 1) = false := by simpa using hE.ne 1 3 (by decide) (by decide) (by omega)
  have I2 : Hid _ := is_chain v ls l c (e 3) (e 2) c3 c2 t3 t2 w hC b3 b2
  have d2 : decide (e 3 = e 2) = false := by simpa using hE.ne 2 3 (by decide) (by decide) (by omega)
  have I3 : Hid _ := is_chain v ls l c (e 3) (e 3) c3 c3 t3 t3 w hC b3 b3
  have d3 : decide (e 3 = e 3) = true := by simp
  obtain ⟨T, x, rfl⟩ := hC.iface
  clear hE hC b1 b2 b3
  go_enter Tryz.func31, Tryz.ntmps31
  go_wp2_with fail
  refine Calls.mono I1.out ?_
  rintro r w' ⟨rfl, hw⟩; obtain rfl := hw.symm; clear hw
  rw [d1]
  go_wp2_with fail
  refine Calls.mono I2.out ?_
  rintro r w' ⟨rfl, hw⟩; obtain rfl := hw.symm; clear hw
  rw [d2]
  go_wp2_with fail
  refine Calls.mono I3.out ?_
  rintro r w' ⟨rfl, hw⟩; obtain rfl := hw.symm; clear hw
  rw [d3]
  go_wp2_with fail
  go_ret
  exact ⟨rfl, rfl⟩
set_option maxHeartbeats 1000000 in
theorem code_4 {m : Nat} (hm : 4 ≤ m) (v : Value) (ls : List ByteArray) (l c : Int) (e : Nat → Addr) (w : World) (hE : Er m w e) (hC : Chain w l c (e 4) ls v) :
    Calls Tryz.prog 31 #[v] w fun r w' => r = .returned (.int .i64 4) ∧ w' = w := by
  obtain ⟨g4, c4, t4, b4⟩ := hE.s4 (by omega)
  obtain ⟨g1, c1, t1, b1⟩ := hE.s1 (by omega)
  obtain ⟨g2, c2, t2, b2⟩ := hE.s2 (by omega)
  obtain ⟨g3, c3, t3, b3⟩ := hE.s3 (by omega)
  have I1 : Hid _ := is_chain v ls l c (e 4) (e 1) c4 c1 t4 t1 w hC b4 b1
  have d1 : decide (e 4 = e 1) = false := by simpa using hE.ne 1 4 (by decide) (by decide) (by omega)
  have I2 : Hid _ := is_chain v ls l c (e 4) (e 2) c4 c2 t4 t2 w hC b4 b2
  have d2 : decide (e 4 = e 2) = false := by simpa using hE.ne 2 4 (by decide) (by decide) (by omega)
  have I3 : Hid _ := is_chain v ls l c (e 4) (e 3) c4 c3 t4 t3 w hC b4 b3
  have d3 : decide (e 4 = e 3) = false := by simpa using hE.ne 3 4 (by decide) (by decide) (by omega)
  have I4 : Hid _ := is_chain v ls l c (e 4) (e 4) c4 c4 t4 t4 w hC b4 b4
  have d4 : decide (e 4 = e 4) = true := by simp
  obtain ⟨T, x, rfl⟩ := hC.iface
  clear hE hC b1 b2 b3 b4
  go_enter Tryz.func31, Tryz.ntmps31
  go_wp2_with fail
  refine Calls.mono I1.out ?_
  rintro r w' ⟨rfl, hw⟩; obtain rfl := hw.symm; clear hw
  rw [d1]
  go_wp2_with fail
  refine Calls.mono I2.out ?_
  rintro r w' ⟨rfl, hw⟩; obtain rfl := hw.symm; clear hw
  rw [d2]
  go_wp2_with fail
  refine Calls.mono I3.out ?_
  rintro r w' ⟨rfl, hw⟩; obtain rfl := hw.symm; clear hw
  rw [d3]
  go_wp2_with fail
  refine Calls.mono I4.out ?_
  rintro r w' ⟨rfl, hw⟩; obtain rfl := hw.symm; clear hw
  rw [d4]
  go_wp2_with fail
  go_ret
  exact ⟨rfl, rfl⟩
set_option maxHeartbeats 1000000 in
theorem code_5 {m : Nat} (hm : 5 ≤ m) (v : Value) (ls : List ByteArray) (l c : Int) (e : Nat → Addr) (w : World) (hE : Er m w e) (hC : Chain w l c (e 5) ls v) :
    Calls Tryz.prog 31 #[v] w fun r w' => r = .returned (.int .i64 5) ∧ w' = w := by
  obtain ⟨g5, c5, t5, b5⟩ := hE.s5 (by omega)
  obtain ⟨g1, c1, t1, b1⟩ := hE.s1 (by omega)
  obtain ⟨g2, c2, t2, b2⟩ := hE.s2 (by omega)
  obtain ⟨g3, c3, t3, b3⟩ := hE.s3 (by omega)
  obtain ⟨g4, c4, t4, b4⟩ := hE.s4 (by omega)
  have I1 : Hid _ := is_chain v ls l c (e 5) (e 1) c5 c1 t5 t1 w hC b5 b1
  have d1 : decide (e 5 = e 1) = false := by simpa using hE.ne 1 5 (by decide) (by decide) (by omega)
  have I2 : Hid _ := is_chain v ls l c (e 5) (e 2) c5 c2 t5 t2 w hC b5 b2
  have d2 : decide (e 5 = e 2) = false := by simpa using hE.ne 2 5 (by decide) (by decide) (by omega)
  have I3 : Hid _ := is_chain v ls l c (e 5) (e 3) c5 c3 t5 t3 w hC b5 b3
  have d3 : decide (e 5 = e 3) = false := by simpa using hE.ne 3 5 (by decide) (by decide) (by omega)
  have I4 : Hid _ := is_chain v ls l c (e 5) (e 4) c5 c4 t5 t4 w hC b5 b4
  have d4 : decide (e 5 = e 4) = false := by simpa using hE.ne 4 5 (by decide) (by decide) (by omega)
  have I5 : Hid _ := is_chain v ls l c (e 5) (e 5) c5 c5 t5 t5 w hC b5 b5
  have d5 : decide (e 5 = e 5) = true := by simp
  obtain ⟨T, x, rfl⟩ := hC.iface
  clear hE hC b1 b2 b3 b4 b5
  go_enter Tryz.func31, Tryz.ntmps31
  go_wp2_with fail
  refine Calls.mono I1.out ?_
  rintro r w' ⟨rfl, hw⟩; obtain rfl := hw.symm; clear hw
  rw [d1]
  go_wp2_with fail
  refine Calls.mono I2.out ?_
  rintro r w' ⟨rfl, hw⟩; obtain rfl := hw.symm; clear hw
  rw [d2]
  go_wp2_with fail
  refine Calls.mono I3.out ?_
  rintro r w' ⟨rfl, hw⟩; obtain rfl := hw.symm; clear hw
  rw [d3]
  go_wp2_with fail
  refine Calls.mono I4.out ?_
  rintro r w' ⟨rfl, hw⟩; obtain rfl := hw.symm; clear hw
  rw [d4]
  go_wp2_with fail
  refine Calls.mono I5.out ?_
  rintro r w' ⟨rfl, hw⟩; obtain rfl := hw.symm; clear hw
  rw [d5]
  go_wp2_with fail
  go_ret
  exact ⟨rfl, rfl⟩
set_option maxHeartbeats 1000000 in
theorem code_6 {m : Nat} (hm : 6 ≤ m) (v : Value) (ls : List ByteArray) (l c : Int) (e : Nat → Addr) (w : World) (hE : Er m w e) (hC : Chain w l c (e 6) ls v) :
    Calls Tryz.prog 31 #[v] w fun r w' => r = .returned (.int .i64 6) ∧ w' = w := by
  obtain ⟨g6, c6, t6, b6⟩ := hE.s6 (by omega)
  obtain ⟨g1, c1, t1, b1⟩ := hE.s1 (by omega)
  obtain ⟨g2, c2, t2, b2⟩ := hE.s2 (by omega)
  obtain ⟨g3, c3, t3, b3⟩ := hE.s3 (by omega)
  obtain ⟨g4, c4, t4, b4⟩ := hE.s4 (by omega)
  obtain ⟨g5, c5, t5, b5⟩ := hE.s5 (by omega)
  have I1 : Hid _ := is_chain v ls l c (e 6) (e 1) c6 c1 t6 t1 w hC b6 b1
  have d1 : decide (e 6 = e 1) = false := by simpa using hE.ne 1 6 (by decide) (by decide) (by omega)
  have I2 : Hid _ := is_chain v ls l c (e 6) (e 2) c6 c2 t6 t2 w hC b6 b2
  have d2 : decide (e 6 = e 2) = false := by simpa using hE.ne 2 6 (by decide) (by decide) (by omega)
  have I3 : Hid _ := is_chain v ls l c (e 6) (e 3) c6 c3 t6 t3 w hC b6 b3
  have d3 : decide (e 6 = e 3) = false := by simpa using hE.ne 3 6 (by decide) (by decide) (by omega)
  have I4 : Hid _ := is_chain v ls l c (e 6) (e 4) c6 c4 t6 t4 w hC b6 b4
  have d4 : decide (e 6 = e 4) = false := by simpa using hE.ne 4 6 (by decide) (by decide) (by omega)
  have I5 : Hid _ := is_chain v ls l c (e 6) (e 5) c6 c5 t6 t5 w hC b6 b5
  have d5 : decide (e 6 = e 5) = false := by simpa using hE.ne 5 6 (by decide) (by decide) (by omega)
  have I6 : Hid _ := is_chain v ls l c (e 6) (e 6) c6 c6 t6 t6 w hC b6 b6
  have d6 : decide (e 6 = e 6) = true := by simp
  obtain ⟨T, x, rfl⟩ := hC.iface
  clear hE hC b1 b2 b3 b4 b5 b6
  go_enter Tryz.func31, Tryz.ntmps31
  go_wp2_with fail
  refine Calls.mono I1.out ?_
  rintro r w' ⟨rfl, hw⟩; obtain rfl := hw.symm; clear hw
  rw [d1]
  go_wp2_with fail
  refine Calls.mono I2.out ?_
  rintro r w' ⟨rfl, hw⟩; obtain rfl := hw.symm; clear hw
  rw [d2]
  go_wp2_with fail
  refine Calls.mono I3.out ?_
  rintro r w' ⟨rfl, hw⟩; obtain rfl := hw.symm; clear hw
  rw [d3]
  go_wp2_with fail
  refine Calls.mono I4.out ?_
  rintro r w' ⟨rfl, hw⟩; obtain rfl := hw.symm; clear hw
  rw [d4]
  go_wp2_with fail
  refine Calls.mono I5.out ?_
  rintro r w' ⟨rfl, hw⟩; obtain rfl := hw.symm; clear hw
  rw [d5]
  go_wp2_with fail
  refine Calls.mono I6.out ?_
  rintro r w' ⟨rfl, hw⟩; obtain rfl := hw.symm; clear hw
  rw [d6]
  go_wp2_with fail
  go_ret
  exact ⟨rfl, rfl⟩
set_option maxHeartbeats 1000000 in
theorem code_7 {m : Nat} (hm : 7 ≤ m) (v : Value) (ls : List ByteArray) (l c : Int) (e : Nat → Addr) (w : World) (hE : Er m w e) (hC : Chain w l c (e 7) ls v) :
    Calls Tryz.prog 31 #[v] w fun r w' => r = .returned (.int .i64 7) ∧ w' = w := by
  obtain ⟨g7, c7, t7, b7⟩ := hE.s7 (by omega)
  obtain ⟨g1, c1, t1, b1⟩ := hE.s1 (by omega)
  obtain ⟨g2, c2, t2, b2⟩ := hE.s2 (by omega)
  obtain ⟨g3, c3, t3, b3⟩ := hE.s3 (by omega)
  obtain ⟨g4, c4, t4, b4⟩ := hE.s4 (by omega)
  obtain ⟨g5, c5, t5, b5⟩ := hE.s5 (by omega)
  obtain ⟨g6, c6, t6, b6⟩ := hE.s6 (by omega)
  have I1 : Hid _ := is_chain v ls l c (e 7) (e 1) c7 c1 t7 t1 w hC b7 b1
  have d1 : decide (e 7 = e 1) = false := by simpa using hE.ne 1 7 (by decide) (by decide) (by omega)
  have I2 : Hid _ := is_chain v ls l c (e 7) (e 2) c7 c2 t7 t2 w hC b7 b2
  have d2 : decide (e 7 = e 2) = false := by simpa using hE.ne 2 7 (by decide) (by decide) (by omega)
  have I3 : Hid _ := is_chain v ls l c (e 7) (e 3) c7 c3 t7 t3 w hC b7 b3
  have d3 : decide (e 7 = e 3) = false := by simpa using hE.ne 3 7 (by decide) (by decide) (by omega)
  have I4 : Hid _ := is_chain v ls l c (e 7) (e 4) c7 c4 t7 t4 w hC b7 b4
  have d4 : decide (e 7 = e 4) = false := by simpa using hE.ne 4 7 (by decide) (by decide) (by omega)
  have I5 : Hid _ := is_chain v ls l c (e 7) (e 5) c7 c5 t7 t5 w hC b7 b5
  have d5 : decide (e 7 = e 5) = false := by simpa using hE.ne 5 7 (by decide) (by decide) (by omega)
  have I6 : Hid _ := is_chain v ls l c (e 7) (e 6) c7 c6 t7 t6 w hC b7 b6
  have d6 : decide (e 7 = e 6) = false := by simpa using hE.ne 6 7 (by decide) (by decide) (by omega)
  have I7 : Hid _ := is_chain v ls l c (e 7) (e 7) c7 c7 t7 t7 w hC b7 b7
  have d7 : decide (e 7 = e 7) = true := by simp
  obtain ⟨T, x, rfl⟩ := hC.iface
  clear hE hC b1 b2 b3 b4 b5 b6 b7
  go_enter Tryz.func31, Tryz.ntmps31
  go_wp2_with fail
  refine Calls.mono I1.out ?_
  rintro r w' ⟨rfl, hw⟩; obtain rfl := hw.symm; clear hw
  rw [d1]
  go_wp2_with fail
  refine Calls.mono I2.out ?_
  rintro r w' ⟨rfl, hw⟩; obtain rfl := hw.symm; clear hw
  rw [d2]
  go_wp2_with fail
  refine Calls.mono I3.out ?_
  rintro r w' ⟨rfl, hw⟩; obtain rfl := hw.symm; clear hw
  rw [d3]
  go_wp2_with fail
  refine Calls.mono I4.out ?_
  rintro r w' ⟨rfl, hw⟩; obtain rfl := hw.symm; clear hw
  rw [d4]
  go_wp2_with fail
  refine Calls.mono I5.out ?_
  rintro r w' ⟨rfl, hw⟩; obtain rfl := hw.symm; clear hw
  rw [d5]
  go_wp2_with fail
  refine Calls.mono I6.out ?_
  rintro r w' ⟨rfl, hw⟩; obtain rfl := hw.symm; clear hw
  rw [d6]
  go_wp2_with fail
  refine Calls.mono I7.out ?_
  rintro r w' ⟨rfl, hw⟩; obtain rfl := hw.symm; clear hw
  rw [d7]
  go_wp2_with fail
  go_ret
  exact ⟨rfl, rfl⟩
set_option maxHeartbeats 1000000 in
theorem code_8 {m : Nat} (hm : 8 ≤ m) (v : Value) (ls : List ByteArray) (l c : Int) (e : Nat → Addr) (w : World) (hE : Er m w e) (hC : Chain w l c (e 8) ls v) :
    Calls Tryz.prog 31 #[v] w fun r w' => r = .returned (.int .i64 8) ∧ w' = w := by
  obtain ⟨g8, c8, t8, b8⟩ := hE.s8 (by omega)
  obtain ⟨g1, c1, t1, b1⟩ := hE.s1 (by omega)
  obtain ⟨g2, c2, t2, b2⟩ := hE.s2 (by omega)
  obtain ⟨g3, c3, t3, b3⟩ := hE.s3 (by omega)
  obtain ⟨g4, c4, t4, b4⟩ := hE.s4 (by omega)
  obtain ⟨g5, c5, t5, b5⟩ := hE.s5 (by omega)
  obtain ⟨g6, c6, t6, b6⟩ := hE.s6 (by omega)
  obtain ⟨g7, c7, t7, b7⟩ := hE.s7 (by omega)
  have I1 : Hid _ := is_chain v ls l c (e 8) (e 1) c8 c1 t8 t1 w hC b8 b1
  have d1 : decide (e 8 = e 1) = false := by simpa using hE.ne 1 8 (by decide) (by decide) (by omega)
  have I2 : Hid _ := is_chain v ls l c (e 8) (e 2) c8 c2 t8 t2 w hC b8 b2
  have d2 : decide (e 8 = e 2) = false := by simpa using hE.ne 2 8 (by decide) (by decide) (by omega)
  have I3 : Hid _ := is_chain v ls l c (e 8) (e 3) c8 c3 t8 t3 w hC b8 b3
  have d3 : decide (e 8 = e 3) = false := by simpa using hE.ne 3 8 (by decide) (by decide) (by omega)
  have I4 : Hid _ := is_chain v ls l c (e 8) (e 4) c8 c4 t8 t4 w hC b8 b4
  have d4 : decide (e 8 = e 4) = false := by simpa using hE.ne 4 8 (by decide) (by decide) (by omega)
  have I5 : Hid _ := is_chain v ls l c (e 8) (e 5) c8 c5 t8 t5 w hC b8 b5
  have d5 : decide (e 8 = e 5) = false := by simpa using hE.ne 5 8 (by decide) (by decide) (by omega)
  have I6 : Hid _ := is_chain v ls l c (e 8) (e 6) c8 c6 t8 t6 w hC b8 b6
  have d6 : decide (e 8 = e 6) = false := by simpa using hE.ne 6 8 (by decide) (by decide) (by omega)
  have I7 : Hid _ := is_chain v ls l c (e 8) (e 7) c8 c7 t8 t7 w hC b8 b7
  have d7 : decide (e 8 = e 7) = false := by simpa using hE.ne 7 8 (by decide) (by decide) (by omega)
  have I8 : Hid _ := is_chain v ls l c (e 8) (e 8) c8 c8 t8 t8 w hC b8 b8
  have d8 : decide (e 8 = e 8) = true := by simp
  obtain ⟨T, x, rfl⟩ := hC.iface
  clear hE hC b1 b2 b3 b4 b5 b6 b7 b8
  go_enter Tryz.func31, Tryz.ntmps31
  go_wp2_with fail
  refine Calls.mono I1.out ?_
  rintro r w' ⟨rfl, hw⟩; obtain rfl := hw.symm; clear hw
  rw [d1]
  go_wp2_with fail
  refine Calls.mono I2.out ?_
  rintro r w' ⟨rfl, hw⟩; obtain rfl := hw.symm; clear hw
  rw [d2]
  go_wp2_with fail
  refine Calls.mono I3.out ?_
  rintro r w' ⟨rfl, hw⟩; obtain rfl := hw.symm; clear hw
  rw [d3]
  go_wp2_with fail
  refine Calls.mono I4.out ?_
  rintro r w' ⟨rfl, hw⟩; obtain rfl := hw.symm; clear hw
  rw [d4]
  go_wp2_with fail
  refine Calls.mono I5.out ?_
  rintro r w' ⟨rfl, hw⟩; obtain rfl := hw.symm; clear hw
  rw [d5]
  go_wp2_with fail
  refine Calls.mono I6.out ?_
  rintro r w' ⟨rfl, hw⟩; obtain rfl := hw.symm; clear hw
  rw [d6]
  go_wp2_with fail
  refine Calls.mono I7.out ?_
  rintro r w' ⟨rfl, hw⟩; obtain rfl := hw.symm; clear hw
  rw [d7]
  go_wp2_with fail
  refine Calls.mono I8.out ?_
  rintro r w' ⟨rfl, hw⟩; obtain rfl := hw.symm; clear hw
  rw [d8]
  go_wp2_with fail
  go_ret
  exact ⟨rfl, rfl⟩
set_option maxHeartbeats 1000000 in
theorem code_9 {m : Nat} (hm : 9 ≤ m) (v : Value) (ls : List ByteArray) (l c : Int) (e : Nat → Addr) (w : World) (hE : Er m w e) (hC : Chain w l c (e 9) ls v) :
    Calls Tryz.prog 31 #[v] w fun r w' => r = .returned (.int .i64 9) ∧ w' = w := by
  obtain ⟨g9, c9, t9, b9⟩ := hE.s9 (by omega)
  obtain ⟨g1, c1, t1, b1⟩ := hE.s1 (by omega)
  obtain ⟨g2, c2, t2, b2⟩ := hE.s2 (by omega)
  obtain ⟨g3, c3, t3, b3⟩ := hE.s3 (by omega)
  obtain ⟨g4, c4, t4, b4⟩ := hE.s4 (by omega)
  obtain ⟨g5, c5, t5, b5⟩ := hE.s5 (by omega)
  obtain ⟨g6, c6, t6, b6⟩ := hE.s6 (by omega)
  obtain ⟨g7, c7, t7, b7⟩ := hE.s7 (by omega)
  obtain ⟨g8, c8, t8, b8⟩ := hE.s8 (by omega)
  have I1 : Hid _ := is_chain v ls l c (e 9) (e 1) c9 c1 t9 t1 w hC b9 b1
  have d1 : decide (e 9 = e 1) = false := by simpa using hE.ne 1 9 (by decide) (by decide) (by omega)
  have I2 : Hid _ := is_chain v ls l c (e 9) (e 2) c9 c2 t9 t2 w hC b9 b2
  have d2 : decide (e 9 = e 2) = false := by simpa using hE.ne 2 9 (by decide) (by decide) (by omega)
  have I3 : Hid _ := is_chain v ls l c (e 9) (e 3) c9 c3 t9 t3 w hC b9 b3
  have d3 : decide (e 9 = e 3) = false := by simpa using hE.ne 3 9 (by decide) (by decide) (by omega)
  have I4 : Hid _ := is_chain v ls l c (e 9) (e 4) c9 c4 t9 t4 w hC b9 b4
  have d4 : decide (e 9 = e 4) = false := by simpa using hE.ne 4 9 (by decide) (by decide) (by omega)
  have I5 : Hid _ := is_chain v ls l c (e 9) (e 5) c9 c5 t9 t5 w hC b9 b5
  have d5 : decide (e 9 = e 5) = false := by simpa using hE.ne 5 9 (by decide) (by decide) (by omega)
  have I6 : Hid _ := is_chain v ls l c (e 9) (e 6) c9 c6 t9 t6 w hC b9 b6
  have d6 : decide (e 9 = e 6) = false := by simpa using hE.ne 6 9 (by decide) (by decide) (by omega)
  have I7 : Hid _ := is_chain v ls l c (e 9) (e 7) c9 c7 t9 t7 w hC b9 b7
  have d7 : decide (e 9 = e 7) = false := by simpa using hE.ne 7 9 (by decide) (by decide) (by omega)
  have I8 : Hid _ := is_chain v ls l c (e 9) (e 8) c9 c8 t9 t8 w hC b9 b8
  have d8 : decide (e 9 = e 8) = false := by simpa using hE.ne 8 9 (by decide) (by decide) (by omega)
  have I9 : Hid _ := is_chain v ls l c (e 9) (e 9) c9 c9 t9 t9 w hC b9 b9
  have d9 : decide (e 9 = e 9) = true := by simp
  obtain ⟨T, x, rfl⟩ := hC.iface
  clear hE hC b1 b2 b3 b4 b5 b6 b7 b8 b9
  go_enter Tryz.func31, Tryz.ntmps31
  go_wp2_with fail
  refine Calls.mono I1.out ?_
  rintro r w' ⟨rfl, hw⟩; obtain rfl := hw.symm; clear hw
  rw [d1]
  go_wp2_with fail
  refine Calls.mono I2.out ?_
  rintro r w' ⟨rfl, hw⟩; obtain rfl := hw.symm; clear hw
  rw [d2]
  go_wp2_with fail
  refine Calls.mono I3.out ?_
  rintro r w' ⟨rfl, hw⟩; obtain rfl := hw.symm; clear hw
  rw [d3]
  go_wp2_with fail
  refine Calls.mono I4.out ?_
  rintro r w' ⟨rfl, hw⟩; obtain rfl := hw.symm; clear hw
  rw [d4]
  go_wp2_with fail
  refine Calls.mono I5.out ?_
  rintro r w' ⟨rfl, hw⟩; obtain rfl := hw.symm; clear hw
  rw [d5]
  go_wp2_with fail
  refine Calls.mono I6.out ?_
  rintro r w' ⟨rfl, hw⟩; obtain rfl := hw.symm; clear hw
  rw [d6]
  go_wp2_with fail
  refine Calls.mono I7.out ?_
  rintro r w' ⟨rfl, hw⟩; obtain rfl := hw.symm; clear hw
  rw [d7]
  go_wp2_with fail
  refine Calls.mono I8.out ?_
  rintro r w' ⟨rfl, hw⟩; obtain rfl := hw.symm; clear hw
  rw [d8]
  go_wp2_with fail
  refine Calls.mono I9.out ?_
  rintro r w' ⟨rfl, hw⟩; obtain rfl := hw.symm; clear hw
  rw [d9]
  go_wp2_with fail
  go_ret
  exact ⟨rfl, rfl⟩
set_option maxHeartbeats 1000000 in
theorem code_10 {m : Nat} (hm : 10 ≤ m) (v : Value) (ls : List ByteArray) (l c : Int) (e : Nat → Addr) (w : World) (hE : Er m w e) (hC : Chain w l c (e 10) ls v) :
    Calls Tryz.prog 31 #[v] w fun r w' => r = .returned (.int .i64 10) ∧ w' = w := by
  obtain ⟨g10, c10, t10, b10⟩ := hE.s10 (by omega)
  obtain ⟨g1, c1, t1, b1⟩ := hE.s1 (by omega)
  obtain ⟨g2, c2, t2, b2⟩ := hE.s2 (by omega)
  obtain ⟨g3, c3, t3, b3⟩ := hE.s3 (by omega)
  obtain ⟨g4, c4, t4, b4⟩ := hE.s4 (by omega)
  obtain ⟨g5, c5, t5, b5⟩ := hE.s5 (by omega)
  obtain ⟨g6, c6, t6, b6⟩ := hE.s6 (by omega)
  obtain ⟨g7, c7, t7, b7⟩ := hE.s7 (by omega)
  obtain ⟨g8, c8, t8, b8⟩ := hE.s8 (by omega)
  obtain ⟨g9, c9, t9, b9⟩ := hE.s9 (by omega)
  have I1 : Hid _ := is_chain v ls l c (e 10) (e 1) c10 c1 t10 t1 w hC b10 b1
  have d1 : decide (e 10 = e 1) = false := by simpa using hE.ne 1 10 (by decide) (by decide) (by omega)
  have I2 : Hid _ := is_chain v ls l c (e 10) (e 2) c10 c2 t10 t2 w hC b10 b2
  have d2 : decide (e 10 = e 2) = false := by simpa using hE.ne 2 10 (by decide) (by decide) (by omega)
  have I3 : Hid _ := is_chain v ls l c (e 10) (e 3) c10 c3 t10 t3 w hC b10 b3
  have d3 : decide (e 10 = e 3) = false := by simpa using hE.ne 3 10 (by decide) (by decide) (by omega)
  have I4 : Hid _ := is_chain v ls l c (e 10) (e 4) c10 c4 t10 t4 w hC b10 b4
  have d4 : decide (e 10 = e 4) = false := by simpa using hE.ne 4 10 (by decide) (by decide) (by omega)
  have I5 : Hid _ := is_chain v ls l c (e 10) (e 5) c10 c5 t10 t5 w hC b10 b5
  have d5 : decide (e 10 = e 5) = false := by simpa using hE.ne 5 10 (by decide) (by decide) (by omega)
  have I6 : Hid _ := is_chain v ls l c (e 10) (e 6) c10 c6 t10 t6 w hC b10 b6
  have d6 : decide (e 10 = e 6) = false := by simpa using hE.ne 6 10 (by decide) (by decide) (by omega)
  have I7 : Hid _ := is_chain v ls l c (e 10) (e 7) c10 c7 t10 t7 w hC b10 b7
  have d7 : decide (e 10 = e 7) = false := by simpa using hE.ne 7 10 (by decide) (by decide) (by omega)
  have I8 : Hid _ := is_chain v ls l c (e 10) (e 8) c10 c8 t10 t8 w hC b10 b8
  have d8 : decide (e 10 = e 8) = false := by simpa using hE.ne 8 10 (by decide) (by decide) (by omega)
  have I9 : Hid _ := is_chain v ls l c (e 10) (e 9) c10 c9 t10 t9 w hC b10 b9
  have d9 : decide (e 10 = e 9) = false := by simpa using hE.ne 9 10 (by decide) (by decide) (by omega)
  have I10 : Hid _ := is_chain v ls l c (e 10) (e 10) c10 c10 t10 t10 w hC b10 b10
  have d10 : decide (e 10 = e 10) = true := by simp
  obtain ⟨T, x, rfl⟩ := hC.iface
  clear hE hC b1 b2 b3 b4 b5 b6 b7 b8 b9 b10
  go_enter Tryz.func31, Tryz.ntmps31
  go_wp2_with fail
  refine Calls.mono I1.out ?_
  rintro r w' ⟨rfl, hw⟩; obtain rfl := hw.symm; clear hw
  rw [d1]
  go_wp2_with fail
  refine Calls.mono I2.out ?_
  rintro r w' ⟨rfl, hw⟩; obtain rfl := hw.symm; clear hw
  rw [d2]
  go_wp2_with fail
  refine Calls.mono I3.out ?_
  rintro r w' ⟨rfl, hw⟩; obtain rfl := hw.symm; clear hw
  rw [d3]
  go_wp2_with fail
  refine Calls.mono I4.out ?_
  rintro r w' ⟨rfl, hw⟩; obtain rfl := hw.symm; clear hw
  rw [d4]
  go_wp2_with fail
  refine Calls.mono I5.out ?_
  rintro r w' ⟨rfl, hw⟩; obtain rfl := hw.symm; clear hw
  rw [d5]
  go_wp2_with fail
  refine Calls.mono I6.out ?_
  rintro r w' ⟨rfl, hw⟩; obtain rfl := hw.symm; clear hw
  rw [d6]
  go_wp2_with fail
  refine Calls.mono I7.out ?_
  rintro r w' ⟨rfl, hw⟩; obtain rfl := hw.symm; clear hw
  rw [d7]
  go_wp2_with fail
  refine Calls.mono I8.out ?_
  rintro r w' ⟨rfl, hw⟩; obtain rfl := hw.symm; clear hw
  rw [d8]
  go_wp2_with fail
  refine Calls.mono I9.out ?_
  rintro r w' ⟨rfl, hw⟩; obtain rfl := hw.symm; clear hw
  rw [d9]
  go_wp2_with fail
  refine Calls.mono I10.out ?_
  rintro r w' ⟨rfl, hw⟩; obtain rfl := hw.symm; clear hw
  rw [d10]
  go_wp2_with fail
  go_ret
  exact ⟨rfl, rfl⟩
set_option maxHeartbeats 1000000 in
theorem code_11 {m : Nat} (hm : 11 ≤ m) (v : Value) (ls : List ByteArray) (l c : Int) (e : Nat → Addr) (w : World) (hE : Er m w e) (hC : Chain w l c (e 11) ls v) :
    Calls Tryz.prog 31 #[v] w fun r w' => r = .returned (.int .i64 11) ∧ w' = w := by
  obtain ⟨g11, c11, t11, b11⟩ := hE.s11 (by omega)
  obtain ⟨g1, c1, t1, b1⟩ := hE.s1 (by omega)
  obtain ⟨g2, c2, t2, b2⟩ := hE.s2 (by omega)
  obtain ⟨g3, c3, t3, b3⟩ := hE.s3 (by omega)
  obtain ⟨g4, c4, t4, b4⟩ := hE.s4 (by omega)
  obtain ⟨g5, c5, t5, b5⟩ := hE.s5 (by omega)
  obtain ⟨g6, c6, t6, b6⟩ := hE.s6 (by omega)
  obtain ⟨g7, c7, t7, b7⟩ := hE.s7 (by omega)
  obtain ⟨g8, c8, t8, b8⟩ := hE.s8 (by omega)
  obtain ⟨g9, c9, t9, b9⟩ := hE.s9 (by omega)
  obtain ⟨g10, c10, t10, b10⟩ := hE.s10 (by omega)
  have I1 : Hid _ := is_chain v ls l c (e 11) (e 1) c11 c1 t11 t1 w hC b11 b1
  have d1 : decide (e 11 = e 1) = false := by simpa using hE.ne 1 11 (by decide) (by decide) (by omega)
  have I2 : Hid _ := is_chain v ls l c (e 11) (e 2) c11 c2 t11 t2 w hC b11 b2
  have d2 : decide (e 11 = e 2) = false := by simpa using hE.ne 2 11 (by decide) (by decide) (by omega)
  have I3 : Hid _ := is_chain v ls l c (e 11) (e 3) c11 c3 t11 t3 w hC b11 b3
  have d3 : decide (e 11 = e 3) = false := by simpa using hE.ne 3 11 (by decide) (by decide) (by omega)
  have I4 : Hid _ := is_chain v ls l c (e 11) (e 4) c11 c4 t11 t4 w hC b11 b4
  have d4 : decide (e 11 = e 4) = false := by simpa using hE.ne 4 11 (by decide) (by decide) (by omega)
  have I5 : Hid _ := is_chain v ls l c (e 11) (e 5) c11 c5 t11 t5 w hC b11 b5
  have d5 : decide (e 11 = e 5) = false := by simpa using hE.ne 5 11 (by decide) (by decide) (by omega)
  have I6 : Hid _ := is_chain v ls l c (e 11) (e 6) c11 c6 t11 t6 w hC b11 b6
  have d6 : decide (e 11 = e 6) = false := by simpa using hE.ne 6 11 (by decide) (by decide) (by omega)
  have I7 : Hid _ := is_chain v ls l c (e 11) (e 7) c11 c7 t11 t7 w hC b11 b7
  have d7 : decide (e 11 = e 7) = false := by simpa using hE.ne 7 11 (by decide) (by decide) (by omega)
  have I8 : Hid _ := is_chain v ls l c (e 11) (e 8) c11 c8 t11 t8 w hC b11 b8
  have d8 : decide (e 11 = e 8) = false := by simpa using hE.ne 8 11 (by decide) (by decide) (by omega)
  have I9 : Hid _ := is_chain v ls l c (e 11) (e 9) c11 c9 t11 t9 w hC b11 b9
  have d9 : decide (e 11 = e 9) = false := by simpa using hE.ne 9 11 (by decide) (by decide) (by omega)
  have I10 : Hid _ := is_chain v ls l c (e 11) (e 10) c11 c10 t11 t10 w hC b11 b10
  have d10 : decide (e 11 = e 10) = false := by simpa using hE.ne 10 11 (by decide) (by decide) (by omega)
  have d11 : decide (e 11 = e 11) = true := by simp
  have IR : Hid _ := rest_11 (m := m) hm v ls l c e w hE hC
  obtain ⟨T, x, rfl⟩ := hC.iface
  clear hE hC b1 b2 b3 b4 b5 b6 b7 b8 b9 b10 b11
  go_enter Tryz.func31, Tryz.ntmps31
  go_wp2_with fail
  refine Calls.mono I1.out ?_
  rintro r w' ⟨rfl, hw⟩; obtain rfl := hw.symm; clear hw
  rw [d1]
  go_wp2_with fail
  refine Calls.mono I2.out ?_
  rintro r w' ⟨rfl, hw⟩; obtain rfl := hw.symm; clear hw
  rw [d2]
  go_wp2_with fail
  refine Calls.mono I3.out ?_
  rintro r w' ⟨rfl, hw⟩; obtain rfl := hw.symm; clear hw
  rw [d3]
  go_wp2_with fail
  refine Calls.mono I4.out ?_
  rintro r w' ⟨rfl, hw⟩; obtain rfl := hw.symm; clear hw
  rw [d4]
  go_wp2_with fail
  refine Calls.mono I5.out ?_
  rintro r w' ⟨rfl, hw⟩; obtain rfl := hw.symm; clear hw
  rw [d5]
  go_wp2_with fail
  refine Calls.mono I6.out ?_
  rintro r w' ⟨rfl, hw⟩; obtain rfl := hw.symm; clear hw
  rw [d6]
  go_wp2_with fail
  refine Calls.mono I7.out ?_
  rintro r w' ⟨rfl, hw⟩; obtain rfl := hw.symm; clear hw
  rw [d7]
  go_wp2_with fail
  refine Calls.mono I8.out ?_
  rintro r w' ⟨rfl, hw⟩; obtain rfl := hw.symm; clear hw
  rw [d8]
  go_wp2_with fail
  refine Calls.mono I9.out ?_
  rintro r w' ⟨rfl, hw⟩; obtain rfl := hw.symm; clear hw
  rw [d9]
  go_wp2_with fail
  refine Calls.mono I10.out ?_
  rintro r w' ⟨rfl, hw⟩; obtain rfl := hw.symm; clear hw
  rw [d10]
  go_wp2_with fail
  refine Calls.mono IR.out ?_
  rintro r w' ⟨rfl, hw⟩; obtain rfl := hw.symm; clear hw
  go_wp2_with fail
  go_ret
  exact ⟨rfl, rfl⟩
set_option maxHeartbeats 1000000 in
theorem code_12 {m : Nat} (hm : 12 ≤ m) (v : Value) (ls : List ByteArray) (l c : Int) (e : Nat → Addr) (w : World) (hE : Er m w e) (hC : Chain w l c (e 12) ls v) :
    Calls Tryz.prog 31 #[v] w fun r w' => r = .returned (.int .i64 12) ∧ w' = w := by
  obtain ⟨g12, c12, t12, b12⟩ := hE.s12 (by omega)
  obtain ⟨g1, c1, t1, b1⟩ := hE.s1 (by omega)
  obtain ⟨g2, c2, t2, b2⟩ := hE.s2 (by omega)
  obtain ⟨g3, c3, t3, b3⟩ := hE.s3 (by omega)
  obtain ⟨g4, c4, t4, b4⟩ := hE.s4 (by omega)
  obtain ⟨g5, c5, t5, b5⟩ := hE.s5 (by omega)
  obtain ⟨g6, c6, t6, b6⟩ := hE.s6 (by omega)
  obtain ⟨g7, c7, t7, b7⟩ := hE.s7 (by omega)
  obtain ⟨g8, c8, t8, b8⟩ := hE.s8 (by omega)
  obtain ⟨g9, c9, t9, b9⟩ := hE.s9 (by omega)
  obtain ⟨g10, c10, t10, b10⟩ := hE.s10 (by omega)
  have I1 : Hid _ := is_chain v ls l c (e 12) (e 1) c12 c1 t12 t1 w hC b12 b1
  have d1 : decide (e 12 = e 1) = false := by simpa using hE.ne 1 12 (by decide) (by decide) (by omega)
  have I2 : Hid _ := is_chain v ls l c (e 12) (e 2) c12 c2 t12 t2 w hC b12 b2
  have d2 : decide (e 12 = e 2) = false := by simpa using hE.ne 2 12 (by decide) (by decide) (by omega)
  have I3 : Hid _ := is_chain v ls l c (e 12) (e 3) c12 c3 t12 t3 w hC b12 b3
  have d3 : decide (e 12 = e 3) = false := by simpa using hE.ne 3 12 (by decide) (by decide) (by omega)
  have I4 : Hid _ := is_chain v ls l c (e 12) (e 4) c12 c4 t12 t4 w hC b12 b4
  have d4 : decide (e 12 = e 4) = false := by simpa using hE.ne 4 12 (by decide) (by decide) (by omega)
  have I5 : Hid _ := is_chain v ls l c (e 12) (e 5) c12 c5 t12 t5 w hC b12 b5
  have d5 : decide (e 12 = e 5) = false := by simpa using hE.ne 5 12 (by decide) (by decide) (by omega)
  have I6 : Hid _ := is_chain v ls l c (e 12) (e 6) c12 c6 t12 t6 w hC b12 b6
  have d6 : decide (e 12 = e 6) = false := by simpa using hE.ne 6 12 (by decide) (by decide) (by omega)
  have I7 : Hid _ := is_chain v ls l c (e 12) (e 7) c12 c7 t12 t7 w hC b12 b7
  have d7 : decide (e 12 = e 7) = false := by simpa using hE.ne 7 12 (by decide) (by decide) (by omega)
  have I8 : Hid _ := is_chain v ls l c (e 12) (e 8) c12 c8 t12 t8 w hC b12 b8
  have d8 : decide (e 12 = e 8) = false := by simpa using hE.ne 8 12 (by decide) (by decide) (by omega)
  have I9 : Hid _ := is_chain v ls l c (e 12) (e 9) c12 c9 t12 t9 w hC b12 b9
  have d9 : decide (e 12 = e 9) = false := by simpa using hE.ne 9 12 (by decide) (by decide) (by omega)
  have I10 : Hid _ := is_chain v ls l c (e 12) (e 10) c12 c10 t12 t10 w hC b12 b10
  have d10 : decide (e 12 = e 10) = false := by simpa using hE.ne 10 12 (by decide) (by decide) (by omega)
  have d12 : decide (e 12 = e 12) = true := by simp
  have IR : Hid _ := rest_12 (m := m) hm v ls l c e w hE hC
  obtain ⟨T, x, rfl⟩ := hC.iface
  clear hE hC b1 b2 b3 b4 b5 b6 b7 b8 b9 b10 b12
  go_enter Tryz.func31, Tryz.ntmps31
  go_wp2_with fail
  refine Calls.mono I1.out ?_
  rintro r w' ⟨rfl, hw⟩; obtain rfl := hw.symm; clear hw
  rw [d1]
  go_wp2_with fail
  refine Calls.mono I2.out ?_
  rintro r w' ⟨rfl, hw⟩; obtain rfl := hw.symm; clear hw
  rw [d2]
  go_wp2_with fail
  refine Calls.mono I3.out ?_
  rintro r w' ⟨rfl, hw⟩; obtain rfl := hw.symm; clear hw
  rw [d3]
  go_wp2_with fail
  refine Calls.mono I4.out ?_
  rintro r w' ⟨rfl, hw⟩; obtain rfl := hw.symm; clear hw
  rw [d4]
  go_wp2_with fail
  refine Calls.mono I5.out ?_
  rintro r w' ⟨rfl, hw⟩; obtain rfl := hw.symm; clear hw
  rw [d5]
  go_wp2_with fail
  refine Calls.mono I6.out ?_
  rintro r w' ⟨rfl, hw⟩; obtain rfl := hw.symm; clear hw
  rw [d6]
  go_wp2_with fail
  refine Calls.mono I7.out ?_
  rintro r w' ⟨rfl, hw⟩; obtain rfl := hw.symm; clear hw
  rw [d7]
  go_wp2_with fail
  refine Calls.mono I8.out ?_
  rintro r w' ⟨rfl, hw⟩; obtain rfl := hw.symm; clear hw
  rw [d8]
  go_wp2_with fail
  refine Calls.mono I9.out ?_
  rintro r w' ⟨rfl, hw⟩; obtain rfl := hw.symm; clear hw
  rw [d9]
  go_wp2_with fail
  refine Calls.mono I10.out ?_
  rintro r w' ⟨rfl, hw⟩; obtain rfl := hw.symm; clear hw
  rw [d10]
  go_wp2_with fail
  refine Calls.mono IR.out ?_
  rintro r w' ⟨rfl, hw⟩; obtain rfl := hw.symm; clear hw
  go_wp2_with fail
  go_ret
  exact ⟨rfl, rfl⟩
set_option maxHeartbeats 1000000 in
theorem code_13 {m : Nat} (hm : 13 ≤ m) (v : Value) (ls : List ByteArray) (l c : Int) (e : Nat → Addr) (w : World) (hE : Er m w e) (hC : Chain w l c (e 13) ls v) :
    Calls Tryz.prog 31 #[v] w fun r w' => r = .returned (.int .i64 13) ∧ w' = w := by
  obtain ⟨g13, c13, t13, b13⟩ := hE.s13 (by omega)
  obtain ⟨g1, c1, t1, b1⟩ := hE.s1 (by omega)
  obtain ⟨g2, c2, t2, b2⟩ := hE.s2 (by omega)
  obtain ⟨g3, c3, t3, b3⟩ := hE.s3 (by omega)
  obtain ⟨g4, c4, t4, b4⟩ := hE.s4 (by omega)
  obtain ⟨g5, c5, t5, b5⟩ := hE.s5 (by omega)
  obtain ⟨g6, c6, t6, b6⟩ := hE.s6 (by omega)
  obtain ⟨g7, c7, t7, b7⟩ := hE.s7 (by omega)
  obtain ⟨g8, c8, t8, b8⟩ := hE.s8 (by omega)
  obtain ⟨g9, c9, t9, b9⟩ := hE.s9 (by omega)
  obtain ⟨g10, c10, t10, b10⟩ := hE.s10 (by omega)
  have I1 : Hid _ := is_chain v ls l c (e 13) (e 1) c13 c1 t13 t1 w hC b13 b1
  have d1 : decide (e 13 = e 1) = false := by simpa using hE.ne 1 13 (by decide) (by decide) (by omega)
  have I2 : Hid _ := is_chain v ls l c (e 13) (e 2) c13 c2 t13 t2 w hC b13 b2
  have d2 : decide (e 13 = e 2) = false := by simpa using hE.ne 2 13 (by decide) (by decide) (by omega)
  have I3 : Hid _ := is_chain v ls l c (e 13) (e 3) c13 c3 t13 t3 w hC b13 b3
  have d3 : decide (e 13 = e 3) = false := by simpa using hE.ne 3 13 (by decide) (by decide) (by omega)
  have I4 : Hid _ := is_chain v ls l c (e 13) (e 4) c13 c4 t13 t4 w hC b13 b4
  have d4 : decide (e 13 = e 4) = false := by simpa using hE.ne 4 13 (by decide) (by decide) (by omega)
  have I5 : Hid _ := is_chain v ls l c (e 13) (e 5) c13 c5 t13 t5 w hC b13 b5
  have d5 : decide (e 13 = e 5) = false := by simpa using hE.ne 5 13 (by decide) (by decide) (by omega)
  have I6 : Hid _ := is_chain v ls l c (e 13) (e 6) c13 c6 t13 t6 w hC b13 b6
  have d6 : decide (e 13 = e 6) = false := by simpa using hE.ne 6 13 (by decide) (by decide) (by omega)
  have I7 : Hid _ := is_chain v ls l c (e 13) (e 7) c13 c7 t13 t7 w hC b13 b7
  have d7 : decide (e 13 = e 7) = false := by simpa using hE.ne 7 13 (by decide) (by decide) (by omega)
  have I8 : Hid _ := is_chain v ls l c (e 13) (e 8) c13 c8 t13 t8 w hC b13 b8
  have d8 : decide (e 13 = e 8) = false := by simpa using hE.ne 8 13 (by decide) (by decide) (by omega)
  have I9 : Hid _ := is_chain v ls l c (e 13) (e 9) c13 c9 t13 t9 w hC b13 b9
  have d9 : decide (e 13 = e 9) = false := by simpa using hE.ne 9 13 (by decide) (by decide) (by omega)
  have I10 : Hid _ := is_chain v ls l c (e 13) (e 10) c13 c10 t13 t10 w hC b13 b10
  have d10 : decide (e 13 = e 10) = false := by simpa using hE.ne 10 13 (by decide) (by decide) (by omega)
  have d13 : decide (e 13 = e 13) = true := by simp
  have IR : Hid _ := rest_13 (m := m) hm v ls l c e w hE hC
  obtain ⟨T, x, rfl⟩ := hC.iface
  clear hE hC b1 b2 b3 b4 b5 b6 b7 b8 b9 b10 b13
  go_enter Tryz.func31, Tryz.ntmps31
  go_wp2_with fail
  refine Calls.mono I1.out ?_
  rintro r w' ⟨rfl, hw⟩; obtain rfl := hw.symm; clear hw
  rw [d1]
  go_wp2_with fail
  refine Calls.mono I2.out ?_
  rintro r w' ⟨rfl, hw⟩; obtain rfl := hw.symm; clear hw
  rw [d2]
  go_wp2_with fail
  refine Calls.mono I3.out ?_
  rintro r w' ⟨rfl, hw⟩; obtain rfl := hw.symm; clear hw
  rw [d3]
  go_wp2_with fail
  refine Calls.mono I4.out ?_
  rintro r w' ⟨rfl, hw⟩; obtain rfl := hw.symm; clear hw
  rw [d4]
  go_wp2_with fail
  refine Calls.mono I5.out ?_
  rintro r w' ⟨rfl, hw⟩; obtain rfl := hw.symm; clear hw
  rw [d5]
  go_wp2_with fail
  refine Calls.mono I6.out ?_
  rintro r w' ⟨rfl, hw⟩; obtain rfl := hw.symm; clear hw
  rw [d6]
  go_wp2_with fail
  refine Calls.mono I7.out ?_
  rintro r w' ⟨rfl, hw⟩; obtain rfl := hw.symm; clear hw
  rw [d7]
  go_wp2_with fail
  refine Calls.mono I8.out ?_
  rintro r w' ⟨rfl, hw⟩; obtain rfl := hw.symm; clear hw
  rw [d8]
  go_wp2_with fail
  refine Calls.mono I9.out ?_
  rintro r w' ⟨rfl, hw⟩; obtain rfl := hw.symm; clear hw
  rw [d9]
  go_wp2_with fail
  refine Calls.mono I10.out ?_
  rintro r w' ⟨rfl, hw⟩; obtain rfl := hw.symm; clear hw
  rw [d10]
  go_wp2_with fail
  refine Calls.mono IR.out ?_
  rintro r w' ⟨rfl, hw⟩; obtain rfl := hw.symm; clear hw
  go_wp2_with fail
  go_ret
  exact ⟨rfl, rfl⟩
set_option maxHeartbeats 1000000 in
theorem code_14 {m : Nat} (hm : 14 ≤ m) (v : Value) (ls : List ByteArray) (l c : Int) (e : Nat → Addr) (w : World) (hE : Er m w e) (hC : Chain w l c (e 14) ls v) :
    Calls Tryz.prog 31 #[v] w fun r w' => r = .returned (.int .i64 14) ∧ w' = w := by
  obtain ⟨g14, c14, t14, b14⟩ := hE.s14 (by omega)
  obtain ⟨g1, c1, t1, b1⟩ := hE.s1 (by omega)
  obtain ⟨g2, c2, t2, b2⟩ := hE.s2 (by omega)
  obtain ⟨g3, c3, t3, b3⟩ := hE.s3 (by omega)
  obtain ⟨g4, c4, t4, b4⟩ := hE.s4 (by omega)
  obtain ⟨g5, c5, t5, b5⟩ := hE.s5 (by omega)
  obtain ⟨g6, c6, t6, b6⟩ := hE.s6 (by omega)
  obtain ⟨g7, c7, t7, b7⟩ := hE.s7 (by omega)
  obtain ⟨g8, c8, t8, b8⟩ := hE.s8 (by omega)
  obtain ⟨g9, c9, t9, b9⟩ := hE.s9 (by omega)
  obtain ⟨g10, c10, t10, b10⟩ := hE.s10 (by omega)
  have I1 : Hid _ := is_chain v ls l c (e 14) (e 1) c14 c1 t14 t1 w hC b14 b1
  have d1 : decide (e 14 = e 1) = false := by simpa using hE.ne 1 14 (by decide) (by decide) (by omega)
  have I2 : Hid _ := is_chain v ls l c (e 14) (e 2) c14 c2 t14 t2 w hC b14 b2
  have d2 : decide (e 14 = e 2) = false := by simpa using hE.ne 2 14 (by decide) (by decide) (by omega)
  have I3 : Hid _ := is_chain v ls l c (e 14) (e 3) c14 c3 t14 t3 w hC b14 b3
  have d3 : decide (e 14 = e 3) = false := by simpa using hE.ne 3 14 (by decide) (by decide) (by omega)
  have I4 : Hid _ := is_chain v ls l c (e 14) (e 4) c14 c4 t14 t4 w hC b14 b4
  have d4 : decide (e 14 = e 4) = false := by simpa using hE.ne 4 14 (by decide) (by decide) (by omega)
  have I5 : Hid _ := is_chain v ls l c (e 14) (e 5) c14 c5 t14 t5 w hC b14 b5
  have d5 : decide (e 14 = e 5) = false := by simpa using hE.ne 5 14 (by decide) (by decide) (by omega)
  have I6 : Hid _ := is_chain v ls l c (e 14) (e 6) c14 c6 t14 t6 w hC b14 b6
  have d6 : decide (e 14 = e 6) = false := by simpa using hE.ne 6 14 (by decide) (by decide) (by omega)
  have I7 : Hid _ := is_chain v ls l c (e 14) (e 7) c14 c7 t14 t7 w hC b14 b7
  have d7 : decide (e 14 = e 7) = false := by simpa using hE.ne 7 14 (by decide) (by decide) (by omega)
  have I8 : Hid _ := is_chain v ls l c (e 14) (e 8) c14 c8 t14 t8 w hC b14 b8
  have d8 : decide (e 14 = e 8) = false := by simpa using hE.ne 8 14 (by decide) (by decide) (by omega)
  have I9 : Hid _ := is_chain v ls l c (e 14) (e 9) c14 c9 t14 t9 w hC b14 b9
  have d9 : decide (e 14 = e 9) = false := by simpa using hE.ne 9 14 (by decide) (by decide) (by omega)
  have I10 : Hid _ := is_chain v ls l c (e 14) (e 10) c14 c10 t14 t10 w hC b14 b10
  have d10 : decide (e 14 = e 10) = false := by simpa using hE.ne 10 14 (by decide) (by decide) (by omega)
  have d14 : decide (e 14 = e 14) = true := by simp
  have IR : Hid _ := rest_14 (m := m) hm v ls l c e w hE hC
  obtain ⟨T, x, rfl⟩ := hC.iface
  clear hE hC b1 b2 b3 b4 b5 b6 b7 b8 b9 b10 b14
  go_enter Tryz.func31, Tryz.ntmps31
  go_wp2_with fail
  refine Calls.mono I1.out ?_
  rintro r w' ⟨rfl, hw⟩; obtain rfl := hw.symm; clear hw
  rw [d1]
  go_wp2_with fail
  refine Calls.mono I2.out ?_
  rintro r w' ⟨rfl, hw⟩; obtain rfl := hw.symm; clear hw
  rw [d2]
  go_wp2_with fail
  refine Calls.mono I3.out ?_
  rintro r w' ⟨rfl, hw⟩; obtain rfl := hw.symm; clear hw
  rw [d3]
  go_wp2_with fail
  refine Calls.mono I4.out ?_
  rintro r w' ⟨rfl, hw⟩; obtain rfl := hw.symm; clear hw
  rw [d4]
  go_wp2_with fail
  refine Calls.mono I5.out ?_
  rintro r w' ⟨rfl, hw⟩; obtain rfl := hw.symm; clear hw
  rw [d5]
  go_wp2_with fail
  refine Calls.mono I6.out ?_
  rintro r w' ⟨rfl, hw⟩; obtain rfl := hw.symm; clear hw
  rw [d6]
  go_wp2_with fail
  refine Calls.mono I7.out ?_
  rintro r w' ⟨rfl, hw⟩; obtain rfl := hw.symm; clear hw
  rw [d7]
  go_wp2_with fail
  refine Calls.mono I8.out ?_
  rintro r w' ⟨rfl, hw⟩; obtain rfl := hw.symm; clear hw
  rw [d8]
  go_wp2_with fail
  refine Calls.mono I9.out ?_
  rintro r w' ⟨rfl, hw⟩; obtain rfl := hw.symm; clear hw
  rw [d9]
  go_wp2_with fail
  refine Calls.mono I10.out ?_
  rintro r w' ⟨rfl, hw⟩; obtain rfl := hw.symm; clear hw
  rw [d10]
  go_wp2_with fail
  refine Calls.mono IR.out ?_
  rintro r w' ⟨rfl, hw⟩; obtain rfl := hw.symm; clear hw
  go_wp2_with fail
  go_ret
  exact ⟨rfl, rfl⟩
set_option maxHeartbeats 1000000 in
theorem code_15 {m : Nat} (hm : 15 ≤ m) (v : Value) (ls : List ByteArray) (l c : Int) (e : Nat → Addr) (w : World) (hE : Er m w e) (hC : Chain w l c (e 15) ls v) :
    Calls Tryz.prog 31 #[v] w fun r w' => r = .returned (.int .i64 15) ∧ w' = w := by
  obtain ⟨g15, c15, t15, b15⟩ := hE.s15 (by omega)
  obtain ⟨g1, c1, t1, b1⟩ := hE.s1 (by omega)
  obtain ⟨g2, c2, t2, b2⟩ := hE.s2 (by omega)
  obtain ⟨g3, c3, t3, b3⟩ := hE.s3 (by omega)
  obtain ⟨g4, c4, t4, b4⟩ := hE.s4 (by omega)
  obtain ⟨g5, c5, t5, b5⟩ := hE.s5 (by omega)
  obtain ⟨g6, c6, t6, b6⟩ := hE.s6 (by omega)
  obtain ⟨g7, c7, t7, b7⟩ := hE.s7 (by omega)
  obtain ⟨g8, c8, t8, b8⟩ := hE.s8 (by omega)
  obtain ⟨g9, c9, t9, b9⟩ := hE.s9 (by omega)
  obtain ⟨g10, c10, t10, b10⟩ := hE.s10 (by omega)
  have I1 : Hid _ := is_chain v ls l c (e 15) (e 1) c15 c1 t15 t1 w hC b15 b1
  have d1 : decide (e 15 = e 1) = false := by simpa using hE.ne 1 15 (by decide) (by decide) (by omega)
  have I2 : Hid _ := is_chain v ls l c (e 15) (e 2) c15 c2 t15 t2 w hC b15 b2
  have d2 : decide (e 15 = e 2) = false := by simpa using hE.ne 2 15 (by decide) (by decide) (by omega)
  have I3 : Hid _ := is_chain v ls l c (e 15) (e 3) c15 c3 t15 t3 w hC b15 b3
  have d3 : decide (e 15 = e 3) = false := by simpa using hE.ne 3 15 (by decide) (by decide) (by omega)
  have I4 : Hid _ := is_chain v ls l c (e 15) (e 4) c15 c4 t15 t4 w hC b15 b4
  have d4 : decide (e 15 = e 4) = false := by simpa using hE.ne 4 15 (by decide) (by decide) (by omega)
  have I5 : Hid _ := is_chain v ls l c (e 15) (e 5) c15 c5 t15 t5 w hC b15 b5
  have d5 : decide (e 15 = e 5) = false := by simpa using hE.ne 5 15 (by decide) (by decide) (by omega)
  have I6 : Hid _ := is_chain v ls l c (e 15) (e 6) c15 c6 t15 t6 w hC b15 b6
  have d6 : decide (e 15 = e 6) = false := by simpa using hE.ne 6 15 (by decide) (by decide) (by omega)
  have I7 : Hid _ := is_chain v ls l c (e 15) (e 7) c15 c7 t15 t7 w hC b15 b7
  have d7 : decide (e 15 = e 7) = false := by simpa using hE.ne 7 15 (by decide) (by decide) (by omega)
  have I8 : Hid _ := is_chain v ls l c (e 15) (e 8) c15 c8 t15 t8 w hC b15 b8
  have d8 : decide (e 15 = e 8) = false := by simpa using hE.ne 8 15 (by decide) (by decide) (by omega)
  have I9 : Hid _ := is_chain v ls l c (e 15) (e 9) c15 c9 t15 t9 w hC b15 b9
  have d9 : decide (e 15 = e 9) = false := by simpa using hE.ne 9 15 (by decide) (by decide) (by omega)
  have I10 : Hid _ := is_chain v ls l c (e 15) (e 10) c15 c10 t15 t10 w hC b15 b10
  have d10 : decide (e 15 = e 10) = false := by simpa using hE.ne 10 15 (by decide) (by decide) (by omega)
  have d15 : decide (e 15 = e 15) = true := by simp
  have IR : Hid _ := rest_15 (m := m) hm v ls l c e w hE hC
  obtain ⟨T, x, rfl⟩ := hC.iface
  clear hE hC b1 b2 b3 b4 b5 b6 b7 b8 b9 b10 b15
  go_enter Tryz.func31, Tryz.ntmps31
  go_wp2_with fail
  refine Calls.mono I1.out ?_
  rintro r w' ⟨rfl, hw⟩; obtain rfl := hw.symm; clear hw
  rw [d1]
  go_wp2_with fail
  refine Calls.mono I2.out ?_
  rintro r w' ⟨rfl, hw⟩; obtain rfl := hw.symm; clear hw
  rw [d2]
  go_wp2_with fail
  refine Calls.mono I3.out ?_
  rintro r w' ⟨rfl, hw⟩; obtain rfl := hw.symm; clear hw
  rw [d3]
  go_wp2_with fail
  refine Calls.mono I4.out ?_
  rintro r w' ⟨rfl, hw⟩; obtain rfl := hw.symm; clear hw
  rw [d4]
  go_wp2_with fail
  refine Calls.mono I5.out ?_
  rintro r w' ⟨rfl, hw⟩; obtain rfl := hw.symm; clear hw
  rw [d5]
  go_wp2_with fail
  refine Calls.mono I6.out ?_
  rintro r w' ⟨rfl, hw⟩; obtain rfl := hw.symm; clear hw
  rw [d6]
  go_wp2_with fail
  refine Calls.mono I7.out ?_
  rintro r w' ⟨rfl, hw⟩; obtain rfl := hw.symm; clear hw
  rw [d7]
  go_wp2_with fail
  refine Calls.mono I8.out ?_
  rintro r w' ⟨rfl, hw⟩; obtain rfl := hw.symm; clear hw
  rw [d8]
  go_wp2_with fail
  refine Calls.mono I9.out ?_
  rintro r w' ⟨rfl, hw⟩; obtain rfl := hw.symm; clear hw
  rw [d9]
  go_wp2_with fail
  refine Calls.mono I10.out ?_
  rintro r w' ⟨rfl, hw⟩; obtain rfl := hw.symm; clear hw
  rw [d10]
  go_wp2_with fail
  refine Calls.mono IR.out ?_
  rintro r w' ⟨rfl, hw⟩; obtain rfl := hw.symm; clear hw
  go_wp2_with fail
  go_ret
  exact ⟨rfl, rfl⟩
set_option maxHeartbeats 1000000 in
theorem code_16 {m : Nat} (hm : 16 ≤ m) (v : Value) (ls : List ByteArray) (l c : Int) (e : Nat → Addr) (w : World) (hE : Er m w e) (hC : Chain w l c (e 16) ls v) :
    Calls Tryz.prog 31 #[v] w fun r w' => r = .returned (.int .i64 16) ∧ w' = w := by
  obtain ⟨g16, c16, t16, b16⟩ := hE.s16 (by omega)
  obtain ⟨g1, c1, t1, b1⟩ := hE.s1 (by omega)
  obtain ⟨g2, c2, t2, b2⟩ := hE.s2 (by omega)
  obtain ⟨g3, c3, t3, b3⟩ := hE.s3 (by omega)
  obtain ⟨g4, c4, t4, b4⟩ := hE.s4 (by omega)
  obtain ⟨g5, c5, t5, b5⟩ := hE.s5 (by omega)
  obtain ⟨g6, c6, t6, b6⟩ := hE.s6 (by omega)
  obtain ⟨g7, c7, t7, b7⟩ := hE.s7 (by omega)
  obtain ⟨g8, c8, t8, b8⟩ := hE.s8 (by omega)
  obtain ⟨g9, c9, t9, b9⟩ := hE.s9 (by omega)
  obtain ⟨g10, c10, t10, b10⟩ := hE.s10 (by omega)
  have I1 : Hid _ := is_chain v ls l c (e 16) (e 1) c16 c1 t16 t1 w hC b16 b1
  have d1 : decide (e 16 = e 1) = false := by simpa using hE.ne 1 16 (by decide) (by decide) (by omega)
  have I2 : Hid _ := is_chain v ls l c (e 16) (e 2) c16 c2 t16 t2 w hC b16 b2
  have d2 : decide (e 16 = e 2) = false := by simpa using hE.ne 2 16 (by decide) (by decide) (by omega)
  have I3 : Hid _ := is_chain v ls l c (e 16) (e 3) c16 c3 t16 t3 w hC b16 b3
  have d3 : decide (e 16 = e 3) = false := by simpa using hE.ne 3 16 (by decide) (by decide) (by omega)
  have I4 : Hid _ := is_chain v ls l c (e 16) (e 4) c16 c4 t16 t4 w hC b16 b4
  have d4 : decide (e 16 = e 4) = false := by simpa using hE.ne 4 16 (by decide) (by decide) (by omega)
  have I5 : Hid _ := is_chain v ls l c (e 16) (e 5) c16 c5 t16 t5 w hC b16 b5
  have d5 : decide (e 16 = e 5) = false := by simpa using hE.ne 5 16 (by decide) (by decide) (by omega)
  have I6 : Hid _ := is_chain v ls l c (e 16) (e 6) c16 c6 t16 t6 w hC b16 b6
  have d6 : decide (e 16 = e 6) = false := by simpa using hE.ne 6 16 (by decide) (by decide) (by omega)
  have I7 : Hid _ := is_chain v ls l c (e 16) (e 7) c16 c7 t16 t7 w hC b16 b7
  have d7 : decide (e 16 = e 7) = false := by simpa using hE.ne 7 16 (by decide) (by decide) (by omega)
  have I8 : Hid _ := is_chain v ls l c (e 16) (e 8) c16 c8 t16 t8 w hC b16 b8
  have d8 : decide (e 16 = e 8) = false := by simpa using hE.ne 8 16 (by decide) (by decide) (by omega)
  have I9 : Hid _ := is_chain v ls l c (e 16) (e 9) c16 c9 t16 t9 w hC b16 b9
  have d9 : decide (e 16 = e 9) = false := by simpa using hE.ne 9 16 (by decide) (by decide) (by omega)
  have I10 : Hid _ := is_chain v ls l c (e 16) (e 10) c16 c10 t16 t10 w hC b16 b10
  have d10 : decide (e 16 = e 10) = false := by simpa using hE.ne 10 16 (by decide) (by decide) (by omega)
  have d16 : decide (e 16 = e 16) = true := by simp
  have IR : Hid _ := rest_16 (m := m) hm v ls l c e w hE hC
  obtain ⟨T, x, rfl⟩ := hC.iface
  clear hE hC b1 b2 b3 b4 b5 b6 b7 b8 b9 b10 b16
  go_enter Tryz.func31, Tryz.ntmps31
  go_wp2_with fail
  refine Calls.mono I1.out ?_
  rintro r w' ⟨rfl, hw⟩; obtain rfl := hw.symm; clear hw
  rw [d1]
  go_wp2_with fail
  refine Calls.mono I2.out ?_
  rintro r w' ⟨rfl, hw⟩; obtain rfl := hw.symm; clear hw
  rw [d2]
  go_wp2_with fail
  refine Calls.mono I3.out ?_
  rintro r w' ⟨rfl, hw⟩; obtain rfl := hw.symm; clear hw
  rw [d3]
  go_wp2_with fail
  refine Calls.mono I4.out ?_
  rintro r w' ⟨rfl, hw⟩; obtain rfl := hw.symm; clear hw
  rw [d4]
  go_wp2_with fail
  refine Calls.mono I5.out ?_
  rintro r w' ⟨rfl, hw⟩; obtain rfl := hw.symm; clear hw
  rw [d5]
  go_wp2_with fail
  refine Calls.mono I6.out ?_
  rintro r w' ⟨rfl, hw⟩; obtain rfl := hw.symm; clear hw
  rw [d6]
  go_wp2_with fail
  refine Calls.mono I7.out ?_
  rintro r w' ⟨rfl, hw⟩; obtain rfl := hw.symm; clear hw
  rw [d7]
  go_wp2_with fail
  refine Calls.mono I8.out ?_
  rintro r w' ⟨rfl, hw⟩; obtain rfl := hw.symm; clear hw
  rw [d8]
  go_wp2_with fail
  refine Calls.mono I9.out ?_
  rintro r w' ⟨rfl, hw⟩; obtain rfl := hw.symm; clear hw
  rw [d9]
  go_wp2_with fail
  refine Calls.mono I10.out ?_
  rintro r w' ⟨rfl, hw⟩; obtain rfl := hw.symm; clear hw
  rw [d10]
  go_wp2_with fail
  refine Calls.mono IR.out ?_
  rintro r w' ⟨rfl, hw⟩; obtain rfl := hw.symm; clear hw
  go_wp2_with fail
  go_ret
  exact ⟨rfl, rfl⟩
set_option maxHeartbeats 1000000 in
theorem code_17 {m : Nat} (hm : 17 ≤ m) (v : Value) (ls : List ByteArray) (l c : Int) (e : Nat → Addr) (w : World) (hE : Er m w e) (hC : Chain w l c (e 17) ls v) :
    Calls Tryz.prog 31 #[v] w fun r w' => r = .returned (.int .i64 17) ∧ w' = w := by
  obtain ⟨g17, c17, t17, b17⟩ := hE.s17 (by omega)
  obtain ⟨g1, c1, t1, b1⟩ := hE.s1 (by omega)
  obtain ⟨g2, c2, t2, b2⟩ := hE.s2 (by omega)
  obtain ⟨g3, c3, t3, b3⟩ := hE.s3 (by omega)
  obtain ⟨g4, c4, t4, b4⟩ := hE.s4 (by omega)
  obtain ⟨g5, c5, t5, b5⟩ := hE.s5 (by omega)
  obtain ⟨g6, c6, t6, b6⟩ := hE.s6 (by omega)
  obtain ⟨g7, c7, t7, b7⟩ := hE.s7 (by omega)
  obtain ⟨g8, c8, t8, b8⟩ := hE.s8 (by omega)
  obtain ⟨g9, c9, t9, b9⟩ := hE.s9 (by omega)
  obtain ⟨g10, c10, t10, b10⟩ := hE.s10 (by omega)
  have I1 : Hid _ := is_chain v ls l c (e 17) (e 1) c17 c1 t17 t1 w hC b17 b1
  have d1 : decide (e 17 = e 1) = false := by simpa using hE.ne 1 17 (by decide) (by decide) (by omega)
  have I2 : Hid _ := is_chain v ls l c (e 17) (e 2) c17 c2 t17 t2 w hC b17 b2
  have d2 : decide (e 17 = e 2) = false := by simpa using hE.ne 2 17 (by decide) (by decide) (by omega)
  have I3 : Hid _ := is_chain v ls l c (e 17) (e 3) c17 c3 t17 t3 w hC b17 b3
  have d3 : decide (e 17 = e 3) = false := by simpa using hE.ne 3 17 (by decide) (by decide) (by omega)
  have I4 : Hid _ := is_chain v ls l c (e 17) (e 4) c17 c4 t17 t4 w hC b17 b4
  have d4 : decide (e 17 = e 4) = false := by simpa using hE.ne 4 17 (by decide) (by decide) (by omega)
  have I5 : Hid _ := is_chain v ls l c (e 17) (e 5) c17 c5 t17 t5 w hC b17 b5
  have d5 : decide (e 17 = e 5) = false := by simpa using hE.ne 5 17 (by decide) (by decide) (by omega)
  have I6 : Hid _ := is_chain v ls l c (e 17) (e 6) c17 c6 t17 t6 w hC b17 b6
  have d6 : decide (e 17 = e 6) = false := by simpa using hE.ne 6 17 (by decide) (by decide) (by omega)
  have I7 : Hid _ := is_chain v ls l c (e 17) (e 7) c17 c7 t17 t7 w hC b17 b7
  have d7 : decide (e 17 = e 7) = false := by simpa using hE.ne 7 17 (by decide) (by decide) (by omega)
  have I8 : Hid _ := is_chain v ls l c (e 17) (e 8) c17 c8 t17 t8 w hC b17 b8
  have d8 : decide (e 17 = e 8) = false := by simpa using hE.ne 8 17 (by decide) (by decide) (by omega)
  have I9 : Hid _ := is_chain v ls l c (e 17) (e 9) c17 c9 t17 t9 w hC b17 b9
  have d9 : decide (e 17 = e 9) = false := by simpa using hE.ne 9 17 (by decide) (by decide) (by omega)
  have I10 : Hid _ := is_chain v ls l c (e 17) (e 10) c17 c10 t17 t10 w hC b17 b10
  have d10 : decide (e 17 = e 10) = false := by simpa using hE.ne 10 17 (by decide) (by decide) (by omega)
  have d17 : decide (e 17 = e 17) = true := by simp
  have IR : Hid _ := rest_17 (m := m) hm v ls l c e w hE hC
  obtain ⟨T, x, rfl⟩ := hC.iface
  clear hE hC b1 b2 b3 b4 b5 b6 b7 b8 b9 b10 b17
  go_enter Tryz.func31, Tryz.ntmps31
  go_wp2_with fail
  refine Calls.mono I1.out ?_
  rintro r w' ⟨rfl, hw⟩; obtain rfl := hw.symm; clear hw
  rw [d1]
  go_wp2_with fail
  refine Calls.mono I2.out ?_
  rintro r w' ⟨rfl, hw⟩; obtain rfl := hw.symm; clear hw
  rw [d2]
  go_wp2_with fail
  refine Calls.mono I3.out ?_
  rintro r w' ⟨rfl, hw⟩; obtain rfl := hw.symm; clear hw
  rw [d3]
  go_wp2_with fail
  refine Calls.mono I4.out ?_
  rintro r w' ⟨rfl, hw⟩; obtain rfl := hw.symm; clear hw
  rw [d4]
  go_wp2_with fail
  refine Calls.mono I5.out ?_
  rintro r w' ⟨rfl, hw⟩; obtain rfl := hw.symm; clear hw
  rw [d5]
  go_wp2_with fail
  refine Calls.mono I6.out ?_
  rintro r w' ⟨rfl, hw⟩; obtain rfl := hw.symm; clear hw
  rw [d6]
  go_wp2_with fail
  refine Calls.mono I7.out ?_
  rintro r w' ⟨rfl, hw⟩; obtain rfl := hw.symm; clear hw
  rw [d7]
  go_wp2_with fail
  refine Calls.mono I8.out ?_
  rintro r w' ⟨rfl, hw⟩; obtain rfl := hw.symm; clear hw
  rw [d8]
  go_wp2_with fail
  refine Calls.mono I9.out ?_
  rintro r w' ⟨rfl, hw⟩; obtain rfl := hw.symm; clear hw
  rw [d9]
  go_wp2_with fail
  refine Calls.mono I10.out ?_
  rintro r w' ⟨rfl, hw⟩; obtain rfl := hw.symm; clear hw
  rw [d10]
  go_wp2_with fail
  refine Calls.mono IR.out ?_
  rintro r w' ⟨rfl, hw⟩; obtain rfl := hw.symm; clear hw
  go_wp2_with fail
  go_ret
  exact ⟨rfl, rfl⟩
set_option maxHeartbeats 1000000 in
theorem code_18 {m : Nat} (hm : 18 ≤ m) (v : Value) (ls : List ByteArray) (l c : Int) (e : Nat → Addr) (w : World) (hE : Er m w e) (hC : Chain w l c (e 18) ls v) :
    Calls Tryz.prog 31 #[v] w fun r w' => r = .returned (.int .i64 18) ∧ w' = w := by
  obtain ⟨g18, c18, t18, b18⟩ := hE.s18 (by omega)
  obtain ⟨g1, c1, t1, b1⟩ := hE.s1 (by omega)
  obtain ⟨g2, c2, t2, b2⟩ := hE.s2 (by omega)
  obtain ⟨g3, c3, t3, b3⟩ := hE.s3 (by omega)
  obtain ⟨g4, c4, t4, b4⟩ := hE.s4 (by omega)
  obtain ⟨g5, c5, t5, b5⟩ := hE.s5 (by omega)
  obtain ⟨g6, c6, t6, b6⟩ := hE.s6 (by omega)
  obtain ⟨g7, c7, t7, b7⟩ := hE.s7 (by omega)
  obtain ⟨g8, c8, t8, b8⟩ := hE.s8 (by omega)
  obtain ⟨g9, c9, t9, b9⟩ := hE.s9 (by omega)
  obtain ⟨g10, c10, t10, b10⟩ := hE.s10 (by omega)
  have I1 : Hid _ := is_chain v ls l c (e 18) (e 1) c18 c1 t18 t1 w hC b18 b1
  have d1 : decide (e 18 = e 1) = false := by simpa using hE.ne 1 18 (by decide) (by decide) (by omega)
  have I2 : Hid _ := is_chain v ls l c (e 18) (e 2) c18 c2 t18 t2 w hC b18 b2
  have d2 : decide (e 18 = e 2) = false := by simpa using hE.ne 2 18 (by decide) (by decide) (by omega)
  have I3 : Hid _ := is_chain v ls l c (e 18) (e 3) c18 c3 t18 t3 w hC b18 b3
  have d3 : decide (e 18 = e 3) = false := by simpa using hE.ne 3 18 (by decide) (by decide) (by omega)
  have I4 : Hid _ := is_chain v ls l c (e 18) (e 4) c18 c4 t18 t4 w hC b18 b4
  have d4 : decide (e 18 = e 4) = false := by simpa using hE.ne 4 18 (by decide) (by decide) (by omega)
  have I5 : Hid _ := is_chain v ls l c (e 18) (e 5) c18 c5 t18 t5 w hC b18 b5
  have d5 : decide (e 18 = e 5) = false := by simpa using hE.ne 5 18 (by decide) (by decide) (by omega)
  have I6 : Hid _ := is_chain v ls l c (e 18) (e 6) c18 c6 t18 t6 w hC b18 b6
  have d6 : decide (e 18 = e 6) = false := by simpa using hE.ne 6 18 (by decide) (by decide) (by omega)
  have I7 : Hid _ := is_chain v ls l c (e 18) (e 7) c18 c7 t18 t7 w hC b18 b7
  have d7 : decide (e 18 = e 7) = false := by simpa using hE.ne 7 18 (by decide) (by decide) (by omega)
  have I8 : Hid _ := is_chain v ls l c (e 18) (e 8) c18 c8 t18 t8 w hC b18 b8
  have d8 : decide (e 18 = e 8) = false := by simpa using hE.ne 8 18 (by decide) (by decide) (by omega)
  have I9 : Hid _ := is_chain v ls l c (e 18) (e 9) c18 c9 t18 t9 w hC b18 b9
  have d9 : decide (e 18 = e 9) = false := by simpa using hE.ne 9 18 (by decide) (by decide) (by omega)
  have I10 : Hid _ := is_chain v ls l c (e 18) (e 10) c18 c10 t18 t10 w hC b18 b10
  have d10 : decide (e 18 = e 10) = false := by simpa using hE.ne 10 18 (by decide) (by decide) (by omega)
  have d18 : decide (e 18 = e 18) = true := by simp
  have IR : Hid _ := rest_18 (m := m) hm v ls l c e w hE hC
  obtain ⟨T, x, rfl⟩ := hC.iface
  clear hE hC b1 b2 b3 b4 b5 b6 b7 b8 b9 b10 b18
  go_enter Tryz.func31, Tryz.ntmps31
  go_wp2_with fail
  refine Calls.mono I1.out ?_
  rintro r w' ⟨rfl, hw⟩; obtain rfl := hw.symm; clear hw
  rw [d1]
  go_wp2_with fail
  refine Calls.mono I2.out ?_
  rintro r w' ⟨rfl, hw⟩; obtain rfl := hw.symm; clear hw
  rw [d2]
  go_wp2_with fail
  refine Calls.mono I3.out ?_
  rintro r w' ⟨rfl, hw⟩; obtain rfl := hw.symm; clear hw
  rw [d3]
  go_wp2_with fail
  refine Calls.mono I4.out ?_
  rintro r w' ⟨rfl, hw⟩; obtain rfl := hw.symm; clear hw
  rw [d4]
  go_wp2_with fail
  refine Calls.mono I5.out ?_
  rintro r w' ⟨rfl, hw⟩; obtain rfl := hw.symm; clear hw
  rw [d5]
  go_wp2_with fail
  refine Calls.mono I6.out ?_
  rintro r w' ⟨rfl, hw⟩; obtain rfl := hw.symm; clear hw
  rw [d6]
  go_wp2_with fail
  refine Calls.mono I7.out ?_
  rintro r w' ⟨rfl, hw⟩; obtain rfl := hw.symm; clear hw
  rw [d7]
  go_wp2_with fail
  refine Calls.mono I8.out ?_
  rintro r w' ⟨rfl, hw⟩; obtain rfl := hw.symm; clear hw
  rw [d8]
  go_wp2_with fail
  refine Calls.mono I9.out ?_
  rintro r w' ⟨rfl, hw⟩; obtain rfl := hw.symm; clear hw
  rw [d9]
  go_wp2_with fail
  refine Calls.mono I10.out ?_
  rintro r w' ⟨rfl, hw⟩; obtain rfl := hw.symm; clear hw
  rw [d10]
  go_wp2_with fail
  refine Calls.mono IR.out ?_
  rintro r w' ⟨rfl, hw⟩; obtain rfl := hw.symm; clear hw
  go_wp2_with fail
  go_ret
  exact ⟨rfl, rfl⟩
set_option maxHeartbeats 1000000 in
theorem code_19 {m : Nat} (hm : 19 ≤ m) (v : Value) (ls : List ByteArray) (l c : Int) (e : Nat → Addr) (w : World) (hE : Er m w e) (hC : Chain w l c (e 19) ls v) :
    Calls Tryz.prog 31 #[v] w fun r w' => r = .returned (.int .i64 19) ∧ w' = w := by
  obtain ⟨g19, c19, t19, b19⟩ := hE.s19 (by omega)
  obtain ⟨g1, c1, t1, b1⟩ := hE.s1 (by omega)
  obtain ⟨g2, c2, t2, b2⟩ := hE.s2 (by omega)
  obtain ⟨g3, c3, t3, b3⟩ := hE.s3 (by omega)
  obtain ⟨g4, c4, t4, b4⟩ := hE.s4 (by omega)
  obtain ⟨g5, c5, t5, b5⟩ := hE.s5 (by omega)
  obtain ⟨g6, c6, t6, b6⟩ := hE.s6 (by omega)
  obtain ⟨g7, c7, t7, b7⟩ := hE.s7 (by omega)
  obtain ⟨g8, c8, t8, b8⟩ := hE.s8 (by omega)
  obtain ⟨g9, c9, t9, b9⟩ := hE.s9 (by omega)
  obtain ⟨g10, c10, t10, b10⟩ := hE.s10 (by omega)
  have I1 : Hid _ := is_chain v ls l c (e 19) (e 1) c19 c1 t19 t1 w hC b19 b1
  have d1 : decide (e 19 = e 1) = false := by simpa using hE.ne 1 19 (by decide) (by decide) (by omega)
  have I2 : Hid _ := is_chain v ls l c (e 19) (e 2) c19 c2 t19 t2 w hC b19 b2
  have d2 : decide (e 19 = e 2) = false := by simpa using hE.ne 2 19 (by decide) (by decide) (by omega)
  have I3 : Hid _ := is_chain v ls l c (e 19) (e 3) c19 c3 t19 t3 w hC b19 b3
  have d3 : decide (e 19 = e 3) = false := by simpa using hE.ne 3 19 (by decide) (by decide) (by omega)
  have I4 : Hid _ := is_chain v ls l c (e 19) (e 4) c19 c4 t19 t4 w hC b19 b4
  have d4 : decide (e 19 = e 4) = false := by simpa using hE.ne 4 19 (by decide) (by decide) (by omega)
  have I5 : Hid _ := is_chain v ls l c (e 19) (e 5) c19 c5 t19 t5 w hC b19 b5
  have d5 : decide (e 19 = e 5) = false := by simpa using hE.ne 5 19 (by decide) (by decide) (by omega)
  have I6 : Hid _ := is_chain v ls l c (e 19) (e 6) c19 c6 t19 t6 w hC b19 b6
  have d6 : decide (e 19 = e 6) = false := by simpa using hE.ne 6 19 (by decide) (by decide) (by omega)
  have I7 : Hid _ := is_chain v ls l c (e 19) (e 7) c19 c7 t19 t7 w hC b19 b7
  have d7 : decide (e 19 = e 7) = false := by simpa using hE.ne 7 19 (by decide) (by decide) (by omega)
  have I8 : Hid _ := is_chain v ls l c (e 19) (e 8) c19 c8 t19 t8 w hC b19 b8
  have d8 : decide (e 19 = e 8) = false := by simpa using hE.ne 8 19 (by decide) (by decide) (by omega)
  have I9 : Hid _ := is_chain v ls l c (e 19) (e 9) c19 c9 t19 t9 w hC b19 b9
  have d9 : decide (e 19 = e 9) = false := by simpa using hE.ne 9 19 (by decide) (by decide) (by omega)
  have I10 : Hid _ := is_chain v ls l c (e 19) (e 10) c19 c10 t19 t10 w hC b19 b10
  have d10 : decide (e 19 = e 10) = false := by simpa using hE.ne 10 19 (by decide) (by decide) (by omega)
  have d19 : decide (e 19 = e 19) = true := by simp
  have IR : Hid _ := rest_19 (m := m) hm v ls l c e w hE hC
  obtain ⟨T, x, rfl⟩ := hC.iface
  clear hE hC b1 b2 b3 b4 b5 b6 b7 b8 b9 b10 b19
  go_enter Tryz.func31, Tryz.ntmps31
  go_wp2_with fail
  refine Calls.mono I1.out ?_
  rintro r w' ⟨rfl, hw⟩; obtain rfl := hw.symm; clear hw
  rw [d1]
  go_wp2_with fail
  refine Calls.mono I2.out ?_
  rintro r w' ⟨rfl, hw⟩; obtain rfl := hw.symm; clear hw
  rw [d2]
  go_wp2_with fail
  refine Calls.mono I3.out ?_
  rintro r w' ⟨rfl, hw⟩; obtain rfl := hw.symm; clear hw
  rw [d3]
  go_wp2_with fail
  refine Calls.mono I4.out ?_
  rintro r w' ⟨rfl, hw⟩; obtain rfl := hw.symm; clear hw
  rw [d4]
  go_wp2_with fail
  refine Calls.mono I5.out ?_
  rintro r w' ⟨rfl, hw⟩; obtain rfl := hw.symm; clear hw
  rw [d5]
  go_wp2_with fail
  refine Calls.mono I6.out ?_
  rintro r w' ⟨rfl, hw⟩; obtain rfl := hw.symm; clear hw
  rw [d6]
  go_wp2_with fail
  refine Calls.mono I7.out ?_
  rintro r w' ⟨rfl, hw⟩; obtain rfl := hw.symm; clear hw
  rw [d7]
  go_wp2_with fail
  refine Calls.mono I8.out ?_
  rintro r w' ⟨rfl, hw⟩; obtain rfl := hw.symm; clear hw
  rw [d8]
  go_wp2_with fail
  refine Calls.mono I9.out ?_
  rintro r w' ⟨rfl, hw⟩; obtain rfl := hw.symm; clear hw
  rw [d9]
  go_wp2_with fail
  refine Calls.mono I10.out ?_
  rintro r w' ⟨rfl, hw⟩; obtain rfl := hw.symm; clear hw
  rw [d10]
  go_wp2_with fail
  refine Calls.mono IR.out ?_
  rintro r w' ⟨rfl, hw⟩; obtain rfl := hw.symm; clear hw
  go_wp2_with fail
  go_ret
  exact ⟨rfl, rfl⟩
theorem code_chain {m : Nat} (k : Nat) (h1 : 1 ≤ k) (h19 : k ≤ 19) (hm : k ≤ m) (v : Value) (ls : List ByteArray) (l c : Int) (e : Nat → Addr) (w : World) (hE : Er m w e) (hC : Chain w l c (e k) ls v) :
    Calls Tryz.prog 31 #[v] w fun r w' => r = .returned (.int .i64 k) ∧ w' = w := by
  have h : k = 1 ∨ k = 2 ∨ k = 3 ∨ k = 4 ∨ k = 5 ∨ k = 6 ∨ k = 7 ∨ k = 8 ∨ k = 9 ∨ k = 10 ∨ k = 11 ∨ k = 12 ∨ k = 13 ∨ k = 14 ∨ k = 15 ∨ k = 16 ∨ k = 17 ∨ k = 18 ∨ k = 19 := by omega
  rcases h with rfl | rfl | rfl | rfl | rfl | rfl | rfl | rfl | rfl | rfl | rfl | rfl | rfl | rfl | rfl | rfl | rfl | rfl | rfl
  · exact code_1 hm v ls l c e w hE hC
  · exact code_2 hm v ls l c e w hE hC
  · exact code_3 hm v ls l c e w hE hC
  · exact code_4 hm v ls l c e w hE hC
  · exact code_5 hm v ls l c e w hE hC
  · exact code_6 hm v ls l c e w hE hC
  · exact code_7 hm v ls l c e w hE hC
  · exact code_8 hm v ls l c e w hE hC
  · exact code_9 hm v ls l c e w hE hC
  · exact code_10 hm v ls l c e w hE hC
  · exact code_11 hm v ls l c e w hE hC
  · exact code_12 hm v ls l c e w hE hC
  · exact code_13 hm v ls l c e w hE hC
  · exact code_14 hm v ls l c e w hE hC
  · exact code_15 hm v ls l c e w hE hC
  · exact code_16 hm v ls l c e w hE hC
  · exact code_17 hm v ls l c e w hE hC
  · exact code_18 hm v ls l c e w hE hC
  · exact code_19 hm v ls l c e w hE hC
end Go.Proofs.YtibdgefjpcebkaaGreatDoor
