/- The statement ActCo as a call: on any numbers it returns true, and nothing that was there has turned. -/
import Derived.Test.YtebeimjgppidcacDoorCo
import Derived.Test.YtebeimjgppidcacDoorAlive2
namespace Go.Proofs.YtebeimjgppidcacDoor
open Go.RowKit
theorem nameN_in (l : Int) (h0 : 0 < l) (h1 : l < 201) : Ac.nameN l = (l - 1) / 2 := by unfold Ac.nameN; rw [if_pos ⟨h0, h1⟩]
theorem nameC_even (l : Int) (h0 : 0 < l) (h1 : l < 201) (h : l % 2 = 0) : Ac.nameC l = true := by unfold Ac.nameC; exact decide_eq_true ⟨h0, h1, h⟩
theorem nameC_odd (l : Int) (h : ¬ l % 2 = 0) : Ac.nameC l = false := by unfold Ac.nameC; exact decide_eq_false fun e => h e.2.2
theorem label_f (n : Int) (h0 : 0 ≤ n) (h1 : n < 100) : Ac.label n false = 2 * n + 1 := by unfold Ac.label; rw [if_pos ⟨h0, h1⟩]; rfl
theorem label_t (n : Int) (h0 : 0 ≤ n) (h1 : n < 100) : Ac.label n true = 2 * n + 2 := by unfold Ac.label; rw [if_pos ⟨h0, h1⟩]; rfl
theorem co_pos (l : Int) (h0 : 0 < l) (h1 : l < 201) : Ac.co l = if l % 2 = 0 then l - 1 else l + 1 := by
  unfold Ac.co
  rw [if_pos ⟨h0, h1⟩, nameN_in l h0 h1]
  by_cases h : l % 2 = 0
  · rw [nameC_even l h0 h1 h, if_pos h, Bool.not_true, label_f _ (by omega) (by omega)]; omega
  · rw [nameC_odd l h, if_neg h, Bool.not_false, label_t _ (by omega) (by omega)]; omega
theorem co_zero : Ac.co 0 = 0 := by decide
theorem co_co (l : Int) (h0 : 0 < l) (h1 : l < 201) : Ac.co (Ac.co l) = l := by
  rw [co_pos l h0 h1]
  split
  · rw [co_pos _ (by omega) (by omega), if_neg (by omega)]; omega
  · rw [co_pos _ (by omega) (by omega), if_pos (by omega)]; omega
theorem co_ne (l : Int) (h0 : 0 < l) (h1 : l < 201) : (Ac.co l == l) = false := by
  rw [co_pos l h0 h1]
  split <;> simp <;> omega
theorem label_back (l : Int) (h0 : 0 < l) (h1 : l < 201) : Ac.label (Ac.nameN l) (Ac.nameC l) = l := by
  rw [nameN_in l h0 h1]
  by_cases h : l % 2 = 0
  · rw [nameC_even l h0 h1 h, label_t _ (by omega) (by omega)]; omega
  · rw [nameC_odd l h, label_f _ (by omega) (by omega)]; omega
theorem co_f (n : Int) (h0 : 0 ≤ n) (h1 : n < 100) : Ac.co (2 * n + 1) = 2 * n + 2 := by rw [co_pos _ (by omega) (by omega), if_neg (by omega)]; omega
theorem co_t (n : Int) (h0 : 0 ≤ n) (h1 : n < 100) : Ac.co (2 * n + 2) = 2 * n + 1 := by rw [co_pos _ (by omega) (by omega), if_pos (by omega)]; omega
theorem label_out (n : Int) (h : n < 0 ∨ 100 ≤ n) (co : Bool) : Ac.label n co = 0 := by unfold Ac.label; rw [if_neg (by omega)]
theorem named_in (l : Int) (h0 : 0 < l) (h1 : l < 201) : Ac.named l = true := by unfold Ac.named; exact decide_eq_true ⟨h0, h1⟩
theorem zero_facts : Ac.nameN 0 = 0 ∧ Ac.nameC 0 = false ∧ Ac.named 0 = false := by decide
set_option maxRecDepth 100000 in
set_option maxHeartbeats 400000 in
theorem lawCo_aa (n l : Int) (hn : n < 0) (h : l < 0) (a : Addr) (w : World) (hU : w.cell? ⟨3, 0, none⟩ = some (.iface 103 (.pointer (some a)))) :
    Calls Tryd.prog 5 #[.int .i64 n, .int .i64 l] w fun e w' => e = .returned (.bool true) ∧ Below w.heap.size w w' := by
  have lf := label_out n (by omega) false
  have lt := label_out n (by omega) true
  have haL := alive2_any a w hU
  go_enter Tryd.func5, Tryd.ntmps5
  go_wp2_with (first | (go_at_call 33; refine (label_any _ _ _).mono ?_; (first | rw [lf] | rw [lt]); rintro r w' ⟨rfl, hw⟩; obtain rfl := hw.symm) | (go_at_call 9; refine haL.mono ?_; rintro r w' ⟨rfl, hb⟩))
  go_ret
  exact ⟨rfl, hb⟩
set_option maxRecDepth 100000 in
set_option maxHeartbeats 400000 in
theorem lawCo_ab (n l : Int) (hn : n < 0) (h : 201 ≤ l) (a : Addr) (w : World) (hU : w.cell? ⟨3, 0, none⟩ = some (.iface 103 (.pointer (some a)))) :
    Calls Tryd.prog 5 #[.int .i64 n, .int .i64 l] w fun e w' => e = .returned (.bool true) ∧ Below w.heap.size w w' := by
  have lf := label_out n (by omega) false
  have lt := label_out n (by omega) true
  have h0 : 0 ≤ l := by omega
  have haL := alive2_any a w hU
  go_enter Tryd.func5, Tryd.ntmps5
  go_wp2_with (first | (go_at_call 33; refine (label_any _ _ _).mono ?_; (first | rw [lf] | rw [lt]); rintro r w' ⟨rfl, hw⟩; obtain rfl := hw.symm) | (go_at_call 9; refine haL.mono ?_; rintro r w' ⟨rfl, hb⟩))
  go_ret
  exact ⟨rfl, hb⟩
set_option maxRecDepth 100000 in
set_option maxHeartbeats 400000 in
theorem lawCo_ac (n : Int) (hn : n < 0) (a : Addr) (w : World) (hU : w.cell? ⟨3, 0, none⟩ = some (.iface 103 (.pointer (some a)))) :
    Calls Tryd.prog 5 #[.int .i64 n, .int .i64 0] w fun e w' => e = .returned (.bool true) ∧ Below w.heap.size w w' := by
  have lf := label_out n (by omega) false
  have lt := label_out n (by omega) true
  have hc0 := co_zero
  have hz0 := zero_facts
  have haL := alive2_any a w hU
  go_enter Tryd.func5, Tryd.ntmps5
  go_wp2_with (first | (go_at_call 33; refine (label_any _ _ _).mono ?_; (first | rw [lf] | rw [lt]); rintro r w' ⟨rfl, hw⟩; obtain rfl := hw.symm) | (go_at_call 31; refine (co_any _ _).mono ?_; (first | rw [hc0]); rintro r w' ⟨rfl, hw⟩; obtain rfl := hw.symm) | (go_at_call 32; refine (nameOf_any _ _).mono ?_; rw [hz0.1, hz0.2.1, hz0.2.2]; rintro r w' ⟨rfl, hw⟩; obtain rfl := hw.symm) | (go_at_call 9; refine haL.mono ?_; rintro r w' ⟨rfl, hb⟩))
  go_ret
  exact ⟨rfl, hb⟩
set_option maxRecDepth 100000 in
set_option maxHeartbeats 400000 in
theorem lawCo_ad (n l : Int) (hn : n < 0) (h : 0 < l ∧ l < 201) (a : Addr) (w : World) (hU : w.cell? ⟨3, 0, none⟩ = some (.iface 103 (.pointer (some a)))) :
    Calls Tryd.prog 5 #[.int .i64 n, .int .i64 l] w fun e w' => e = .returned (.bool true) ∧ Below w.heap.size w w' := by
  obtain ⟨h0, h1⟩ := h
  have hq := co_ne l h0 h1
  have hcc := co_co l h0 h1
  have hnd := named_in l h0 h1
  have hlb := label_back l h0 h1
  obtain ⟨c, hcl⟩ : ∃ c, Ac.co l = c := ⟨_, rfl⟩
  rw [hcl] at hq hcc
  obtain ⟨nn, hnn⟩ : ∃ nn, Ac.nameN l = nn := ⟨_, rfl⟩
  obtain ⟨cc, hcn⟩ : ∃ cc, Ac.nameC l = cc := ⟨_, rfl⟩
  rw [hnn, hcn] at hlb
  have hz : (l == 0) = false := by simp; omega
  have hz2 : (l != 0) = true := by simp; omega
  have hs : (l != l) = false := by simp
  have h9 : 0 ≤ l := by omega
  have lf := label_out n (by omega) false
  have lt := label_out n (by omega) true
  have haL := alive2_any a w hU
  go_enter Tryd.func5, Tryd.ntmps5
  go_wp2_with (first | (go_at_call 33; refine (label_any _ _ _).mono ?_; (first | rw [hlb] | rw [lf] | rw [lt]); rintro r w' ⟨rfl, hw⟩; obtain rfl := hw.symm) | (go_at_call 31; refine (co_any _ _).mono ?_; (first | rw [hcl] | rw [hcc]); rintro r w' ⟨rfl, hw⟩; obtain rfl := hw.symm) | (go_at_call 32; refine (nameOf_any _ _).mono ?_; rw [hnn, hcn, hnd]; rintro r w' ⟨rfl, hw⟩; obtain rfl := hw.symm) | (go_at_call 9; refine haL.mono ?_; rintro r w' ⟨rfl, hb⟩))
  go_ret
  exact ⟨rfl, hb⟩
set_option maxRecDepth 100000 in
set_option maxHeartbeats 400000 in
theorem lawCo_ba (n l : Int) (hn : 100 ≤ n) (h : l < 0) (a : Addr) (w : World) (hU : w.cell? ⟨3, 0, none⟩ = some (.iface 103 (.pointer (some a)))) :
    Calls Tryd.prog 5 #[.int .i64 n, .int .i64 l] w fun e w' => e = .returned (.bool true) ∧ Below w.heap.size w w' := by
  have lf := label_out n (by omega) false
  have lt := label_out n (by omega) true
  have hn0 : 0 ≤ n := by omega
  have haL := alive2_any a w hU
  go_enter Tryd.func5, Tryd.ntmps5
  go_wp2_with (first | (go_at_call 33; refine (label_any _ _ _).mono ?_; (first | rw [lf] | rw [lt]); rintro r w' ⟨rfl, hw⟩; obtain rfl := hw.symm) | (go_at_call 9; refine haL.mono ?_; rintro r w' ⟨rfl, hb⟩))
  go_ret
  exact ⟨rfl, hb⟩
set_option maxRecDepth 100000 in
set_option maxHeartbeats 400000 in
theorem lawCo_bb (n l : Int) (hn : 100 ≤ n) (h : 201 ≤ l) (a : Addr) (w : World) (hU : w.cell? ⟨3, 0, none⟩ = some (.iface 103 (.pointer (some a)))) :
    Calls Tryd.prog 5 #[.int .i64 n, .int .i64 l] w fun e w' => e = .returned (.bool true) ∧ Below w.heap.size w w' := by
  have lf := label_out n (by omega) false
  have lt := label_out n (by omega) true
  have hn0 : 0 ≤ n := by omega
  have h0 : 0 ≤ l := by omega
  have haL := alive2_any a w hU
  go_enter Tryd.func5, Tryd.ntmps5
  go_wp2_with (first | (go_at_call 33; refine (label_any _ _ _).mono ?_; (first | rw [lf] | rw [lt]); rintro r w' ⟨rfl, hw⟩; obtain rfl := hw.symm) | (go_at_call 9; refine haL.mono ?_; rintro r w' ⟨rfl, hb⟩))
  go_ret
  exact ⟨rfl, hb⟩
set_option maxRecDepth 100000 in
set_option maxHeartbeats 400000 in
theorem lawCo_bc (n : Int) (hn : 100 ≤ n) (a : Addr) (w : World) (hU : w.cell? ⟨3, 0, none⟩ = some (.iface 103 (.pointer (some a)))) :
    Calls Tryd.prog 5 #[.int .i64 n, .int .i64 0] w fun e w' => e = .returned (.bool true) ∧ Below w.heap.size w w' := by
  have lf := label_out n (by omega) false
  have lt := label_out n (by omega) true
  have hn0 : 0 ≤ n := by omega
  have hc0 := co_zero
  have hz0 := zero_facts
  have haL := alive2_any a w hU
  go_enter Tryd.func5, Tryd.ntmps5
  go_wp2_with (first | (go_at_call 33; refine (label_any _ _ _).mono ?_; (first | rw [lf] | rw [lt]); rintro r w' ⟨rfl, hw⟩; obtain rfl := hw.symm) | (go_at_call 31; refine (co_any _ _).mono ?_; (first | rw [hc0]); rintro r w' ⟨rfl, hw⟩; obtain rfl := hw.symm) | (go_at_call 32; refine (nameOf_any _ _).mono ?_; rw [hz0.1, hz0.2.1, hz0.2.2]; rintro r w' ⟨rfl, hw⟩; obtain rfl := hw.symm) | (go_at_call 9; refine haL.mono ?_; rintro r w' ⟨rfl, hb⟩))
  go_ret
  exact ⟨rfl, hb⟩
set_option maxRecDepth 100000 in
set_option maxHeartbeats 400000 in
theorem lawCo_bd (n l : Int) (hn : 100 ≤ n) (h : 0 < l ∧ l < 201) (a : Addr) (w : World) (hU : w.cell? ⟨3, 0, none⟩ = some (.iface 103 (.pointer (some a)))) :
    Calls Tryd.prog 5 #[.int .i64 n, .int .i64 l] w fun e w' => e = .returned (.bool true) ∧ Below w.heap.size w w' := by
  obtain ⟨h0, h1⟩ := h
  have hq := co_ne l h0 h1
  have hcc := co_co l h0 h1
  have hnd := named_in l h0 h1
  have hlb := label_back l h0 h1
  obtain ⟨c, hcl⟩ : ∃ c, Ac.co l = c := ⟨_, rfl⟩
  rw [hcl] at hq hcc
  obtain ⟨nn, hnn⟩ : ∃ nn, Ac.nameN l = nn := ⟨_, rfl⟩
  obtain ⟨cc, hcn⟩ : ∃ cc, Ac.nameC l = cc := ⟨_, rfl⟩
  rw [hnn, hcn] at hlb
  have hz : (l == 0) = false := by simp; omega
  have hz2 : (l != 0) = true := by simp; omega
  have hs : (l != l) = false := by simp
  have h9 : 0 ≤ l := by omega
  have lf := label_out n (by omega) false
  have lt := label_out n (by omega) true
  have hn0 : 0 ≤ n := by omega
  have haL := alive2_any a w hU
  go_enter Tryd.func5, Tryd.ntmps5
  go_wp2_with (first | (go_at_call 33; refine (label_any _ _ _).mono ?_; (first | rw [hlb] | rw [lf] | rw [lt]); rintro r w' ⟨rfl, hw⟩; obtain rfl := hw.symm) | (go_at_call 31; refine (co_any _ _).mono ?_; (first | rw [hcl] | rw [hcc]); rintro r w' ⟨rfl, hw⟩; obtain rfl := hw.symm) | (go_at_call 32; refine (nameOf_any _ _).mono ?_; rw [hnn, hcn, hnd]; rintro r w' ⟨rfl, hw⟩; obtain rfl := hw.symm) | (go_at_call 9; refine haL.mono ?_; rintro r w' ⟨rfl, hb⟩))
  go_ret
  exact ⟨rfl, hb⟩
set_option maxRecDepth 100000 in
set_option maxHeartbeats 400000 in
theorem lawCo_ca (n l : Int) (hn : 0 ≤ n ∧ n < 100) (h : l < 0) (a : Addr) (w : World) (hU : w.cell? ⟨3, 0, none⟩ = some (.iface 103 (.pointer (some a)))) :
    Calls Tryd.prog 5 #[.int .i64 n, .int .i64 l] w fun e w' => e = .returned (.bool true) ∧ Below w.heap.size w w' := by
  obtain ⟨hn0, hn1⟩ := hn
  have lf := label_f n hn0 hn1
  have lt := label_t n hn0 hn1
  have hk1 := co_f n hn0 hn1
  have hk2 := co_t n hn0 hn1
  have p1 : 0 < 2 * n + 1 := by omega
  have p2 : 0 < 2 * n + 2 := by omega
  have p3 : 2 * n + 2 < 201 := by omega
  generalize 2 * n + 1 = A at lf hk1 hk2 p1
  generalize 2 * n + 2 = B at lt hk1 hk2 p2 p3
  have e1 : (A == A) = true := by simp
  have e2 : (B == B) = true := by simp
  have haL := alive2_any a w hU
  go_enter Tryd.func5, Tryd.ntmps5
  go_wp2_with (first | (go_at_call 33; refine (label_any _ _ _).mono ?_; (first | rw [lf] | rw [lt]); rintro r w' ⟨rfl, hw⟩; obtain rfl := hw.symm) | (go_at_call 31; refine (co_any _ _).mono ?_; (first | rw [hk1] | rw [hk2]); rintro r w' ⟨rfl, hw⟩; obtain rfl := hw.symm) | (go_at_call 9; refine haL.mono ?_; rintro r w' ⟨rfl, hb⟩))
  go_ret
  exact ⟨rfl, hb⟩
set_option maxRecDepth 100000 in
set_option maxHeartbeats 400000 in
theorem lawCo_cb (n l : Int) (hn : 0 ≤ n ∧ n < 100) (h : 201 ≤ l) (a : Addr) (w : World) (hU : w.cell? ⟨3, 0, none⟩ = some (.iface 103 (.pointer (some a)))) :
    Calls Tryd.prog 5 #[.int .i64 n, .int .i64 l] w fun e w' => e = .returned (.bool true) ∧ Below w.heap.size w w' := by
  obtain ⟨hn0, hn1⟩ := hn
  have lf := label_f n hn0 hn1
  have lt := label_t n hn0 hn1
  have hk1 := co_f n hn0 hn1
  have hk2 := co_t n hn0 hn1
  have p1 : 0 < 2 * n + 1 := by omega
  have p2 : 0 < 2 * n + 2 := by omega
  have p3 : 2 * n + 2 < 201 := by omega
  generalize 2 * n + 1 = A at lf hk1 hk2 p1
  generalize 2 * n + 2 = B at lt hk1 hk2 p2 p3
  have e1 : (A == A) = true := by simp
  have e2 : (B == B) = true := by simp
  have h0 : 0 ≤ l := by omega
  have haL := alive2_any a w hU
  go_enter Tryd.func5, Tryd.ntmps5
  go_wp2_with (first | (go_at_call 33; refine (label_any _ _ _).mono ?_; (first | rw [lf] | rw [lt]); rintro r w' ⟨rfl, hw⟩; obtain rfl := hw.symm) | (go_at_call 31; refine (co_any _ _).mono ?_; (first | rw [hk1] | rw [hk2]); rintro r w' ⟨rfl, hw⟩; obtain rfl := hw.symm) | (go_at_call 9; refine haL.mono ?_; rintro r w' ⟨rfl, hb⟩))
  go_ret
  exact ⟨rfl, hb⟩
set_option maxRecDepth 100000 in
set_option maxHeartbeats 400000 in
theorem lawCo_cc (n : Int) (hn : 0 ≤ n ∧ n < 100) (a : Addr) (w : World) (hU : w.cell? ⟨3, 0, none⟩ = some (.iface 103 (.pointer (some a)))) :
    Calls Tryd.prog 5 #[.int .i64 n, .int .i64 0] w fun e w' => e = .returned (.bool true) ∧ Below w.heap.size w w' := by
  obtain ⟨hn0, hn1⟩ := hn
  have lf := label_f n hn0 hn1
  have lt := label_t n hn0 hn1
  have hk1 := co_f n hn0 hn1
  have hk2 := co_t n hn0 hn1
  have p1 : 0 < 2 * n + 1 := by omega
  have p2 : 0 < 2 * n + 2 := by omega
  have p3 : 2 * n + 2 < 201 := by omega
  generalize 2 * n + 1 = A at lf hk1 hk2 p1
  generalize 2 * n + 2 = B at lt hk1 hk2 p2 p3
  have e1 : (A == A) = true := by simp
  have e2 : (B == B) = true := by simp
  have hc0 := co_zero
  have hz0 := zero_facts
  have haL := alive2_any a w hU
  go_enter Tryd.func5, Tryd.ntmps5
  go_wp2_with (first | (go_at_call 33; refine (label_any _ _ _).mono ?_; (first | rw [lf] | rw [lt]); rintro r w' ⟨rfl, hw⟩; obtain rfl := hw.symm) | (go_at_call 31; refine (co_any _ _).mono ?_; (first | rw [hk1] | rw [hk2] | rw [hc0]); rintro r w' ⟨rfl, hw⟩; obtain rfl := hw.symm) | (go_at_call 32; refine (nameOf_any _ _).mono ?_; rw [hz0.1, hz0.2.1, hz0.2.2]; rintro r w' ⟨rfl, hw⟩; obtain rfl := hw.symm) | (go_at_call 9; refine haL.mono ?_; rintro r w' ⟨rfl, hb⟩))
  go_ret
  exact ⟨rfl, hb⟩
set_option maxRecDepth 100000 in
set_option maxHeartbeats 400000 in
theorem lawCo_cd (n l : Int) (hn : 0 ≤ n ∧ n < 100) (h : 0 < l ∧ l < 201) (a : Addr) (w : World) (hU : w.cell? ⟨3, 0, none⟩ = some (.iface 103 (.pointer (some a)))) :
    Calls Tryd.prog 5 #[.int .i64 n, .int .i64 l] w fun e w' => e = .returned (.bool true) ∧ Below w.heap.size w w' := by
  obtain ⟨h0, h1⟩ := h
  have hq := co_ne l h0 h1
  have hcc := co_co l h0 h1
  have hnd := named_in l h0 h1
  have hlb := label_back l h0 h1
  obtain ⟨c, hcl⟩ : ∃ c, Ac.co l = c := ⟨_, rfl⟩
  rw [hcl] at hq hcc
  obtain ⟨nn, hnn⟩ : ∃ nn, Ac.nameN l = nn := ⟨_, rfl⟩
  obtain ⟨cc, hcn⟩ : ∃ cc, Ac.nameC l = cc := ⟨_, rfl⟩
  rw [hnn, hcn] at hlb
  have hz : (l == 0) = false := by simp; omega
  have hz2 : (l != 0) = true := by simp; omega
  have hs : (l != l) = false := by simp
  have h9 : 0 ≤ l := by omega
  obtain ⟨hn0, hn1⟩ := hn
  have lf := label_f n hn0 hn1
  have lt := label_t n hn0 hn1
  have hk1 := co_f n hn0 hn1
  have hk2 := co_t n hn0 hn1
  have p1 : 0 < 2 * n + 1 := by omega
  have p2 : 0 < 2 * n + 2 := by omega
  have p3 : 2 * n + 2 < 201 := by omega
  generalize 2 * n + 1 = A at lf hk1 hk2 p1
  generalize 2 * n + 2 = B at lt hk1 hk2 p2 p3
  have e1 : (A == A) = true := by simp
  have e2 : (B == B) = true := by simp
  have haL := alive2_any a w hU
  go_enter Tryd.func5, Tryd.ntmps5
  go_wp2_with (first | (go_at_call 33; refine (label_any _ _ _).mono ?_; (first | rw [hlb] | rw [lf] | rw [lt]); rintro r w' ⟨rfl, hw⟩; obtain rfl := hw.symm) | (go_at_call 31; refine (co_any _ _).mono ?_; (first | rw [hcl] | rw [hcc] | rw [hk1] | rw [hk2]); rintro r w' ⟨rfl, hw⟩; obtain rfl := hw.symm) | (go_at_call 32; refine (nameOf_any _ _).mono ?_; rw [hnn, hcn, hnd]; rintro r w' ⟨rfl, hw⟩; obtain rfl := hw.symm) | (go_at_call 9; refine haL.mono ?_; rintro r w' ⟨rfl, hb⟩))
  go_ret
  exact ⟨rfl, hb⟩
theorem lawCo_any (n l : Int) (a : Addr) (w : World) (hU : w.cell? ⟨3, 0, none⟩ = some (.iface 103 (.pointer (some a)))) :
    Calls Tryd.prog 5 #[.int .i64 n, .int .i64 l] w fun e w' => e = .returned (.bool true) ∧ Below w.heap.size w w' := by
  rcases (show n < 0 ∨ 100 ≤ n ∨ (0 ≤ n ∧ n < 100) from by omega) with hn | hn | hn
  · rcases (show l < 0 ∨ 201 ≤ l ∨ l = 0 ∨ (0 < l ∧ l < 201) from by omega) with h | h | rfl | h
    · exact lawCo_aa n l hn h a w hU
    · exact lawCo_ab n l hn h a w hU
    · exact lawCo_ac n hn a w hU
    · exact lawCo_ad n l hn h a w hU
  · rcases (show l < 0 ∨ 201 ≤ l ∨ l = 0 ∨ (0 < l ∧ l < 201) from by omega) with h | h | rfl | h
    · exact lawCo_ba n l hn h a w hU
    · exact lawCo_bb n l hn h a w hU
    · exact lawCo_bc n hn a w hU
    · exact lawCo_bd n l hn h a w hU
  · rcases (show l < 0 ∨ 201 ≤ l ∨ l = 0 ∨ (0 < l ∧ l < 201) from by omega) with h | h | rfl | h
    · exact lawCo_ca n l hn h a w hU
    · exact lawCo_cb n l hn h a w hU
    · exact lawCo_cc n hn a w hU
    · exact lawCo_cd n l hn h a w hU
end Go.Proofs.YtebeimjgppidcacDoor
