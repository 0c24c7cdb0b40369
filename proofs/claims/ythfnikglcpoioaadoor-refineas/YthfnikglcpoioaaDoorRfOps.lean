/- refine: lacks, Size, Blocks, Block, Marks' parts. -/
import Derived.Test.YthfnikglcpoioaaDoorRfFault
namespace Go.Proofs.YthfnikglcpoioaaDoor
open Go.RowKit Go.Maps
attribute [local go_sem ↓] Go.wp_at_zero Go.wp_at_succ
set_option maxHeartbeats 1000000 in
theorem lacks_ok (g : Nat) (n : Int) (m : Nat) (w : World) (h0 : 0 ≤ n) (h1 : n < m) :
    Calls Tryd.prog 19 #[.pointer (some ⟨g, 0, none⟩), .int .i64 n, .int .i64 m] w fun r w' => r = .returned .nilIface ∧ w' = w := by
  have g1 : decide (n < 0) = false := decide_eq_false (by omega)
  have g2 : decide ((m : Int) ≤ n) = false := decide_eq_false (by omega)
  have g3 : ¬ n < 0 := by omega
  have g4 : ¬ (m : Int) ≤ n := by omega
  go_enter Tryd.func19, Tryd.ntmps19
  go_wp2_with fail
  go_ret
  exact ⟨rfl, rfl⟩
set_option maxHeartbeats 1000000 in
theorem lacks_bad (g : Nat) (n : Int) (m : Nat) (a1 a3 : Addr) (w : World) (hE : EnvR w a1 a3) (h : n < 0 ∨ (m : Int) ≤ n) :
    Calls Tryd.prog 19 #[.pointer (some ⟨g, 0, none⟩), .int .i64 n, .int .i64 m] w fun r w' => ∃ x, r = .returned x ∧ Chain w' 0 0 a3 [refB] x ∧ Below w.heap.size w w' := by
  have hF := fault_any a3 w hE.et
  have hc := hE.idx.1
  have HF : Hid _ := And.intro hF trivial
  clear hF hE
  by_cases h1 : n < 0
  · have g1 : decide (n < 0) = true := decide_eq_true h1
    go_enter Tryd.func19, Tryd.ntmps19
    go_wp2_with (go_at_call 18; refine Calls.mono HF.out.1 ?_; rintro r w2 ⟨x, rfl, hC, hb⟩; have HB : Hid _ := And.intro hC hb; clear hC hb)
    go_ret
    exact ⟨_, rfl, HB.out.1, HB.out.2⟩
  · have g1 : decide (n < 0) = false := decide_eq_false h1
    have g2 : (m : Int) ≤ n := by omega
    have g3 : decide ((m : Int) ≤ n) = true := decide_eq_true g2
    clear h
    go_enter Tryd.func19, Tryd.ntmps19
    go_wp2_with (go_at_call 18; refine Calls.mono HF.out.1 ?_; rintro r w2 ⟨x, rfl, hC, hb⟩; have HB : Hid _ := And.intro hC hb; clear hC hb)
    go_ret
    exact ⟨_, rfl, HB.out.1, HB.out.2⟩
theorem size_any (g : Nat) (c : Nat → Int) (w0 w : World) (hP : Pt w0 w g c) : Calls Tryd.prog 15 #[.pointer (some ⟨g, 0, none⟩)] w fun r w' => r = .returned (.int .i64 (c 0)) ∧ w' = w := by
  have c0 := hP.cell (i := 0) (by omega)
  clear hP
  go_enter Tryd.func15, Tryd.ntmps15
  go_wp2_with fail
  go_ret
  exact ⟨rfl, rfl⟩
theorem blocks_any (g : Nat) (c : Nat → Int) (w0 w : World) (hP : Pt w0 w g c) : Calls Tryd.prog 13 #[.pointer (some ⟨g, 0, none⟩)] w fun r w' => r = .returned (.int .i64 (c 1)) ∧ w' = w := by
  have c0 := hP.cell (i := 1) (by omega)
  clear hP
  go_enter Tryd.func13, Tryd.ntmps13
  go_wp2_with fail
  go_ret
  exact ⟨rfl, rfl⟩
set_option maxHeartbeats 1000000 in
theorem block_ok (g : Nat) (c : Nat → Int) (s : Pst) (e : Nat) (w0 w : World) (hP : Pt w0 w g c) (hL : Lay c s) (hs : s.n ≤ 1000) (he : e < s.n) :
    Calls Tryd.prog 14 #[.pointer (some ⟨g, 0, none⟩), .int .i64 e] w fun r w' => r = .returned (.tuple #[.int .i64 (s.O e), .nilIface]) ∧ w' = w := by
  have hS := size_any g c w0 w hP
  rw [hL.n] at hS
  have hl := lacks_ok g e s.n w (by omega) (by omega)
  have c1 := hP.cell (i := 2002 + e) (by omega)
  rw [hL.o e he] at c1
  have e0 : (0 : Int) ≤ (e : Int) := by omega
  have e1 : (e : Int) < 1000 := by omega
  generalize s.n = n at hS hl
  generalize s.O e = o at c1
  have H : Hid _ := And.intro hS hl
  clear hS hl hP hL hs he
  go_enter Tryd.func14, Tryd.ntmps14
  go_wp2_with (first
    | (go_at_call 15; refine Calls.mono H.out.1 ?_; rintro r w1 ⟨rfl, hw1⟩; obtain rfl := hw1.symm; clear hw1)
    | (go_at_call 19; refine Calls.mono H.out.2 ?_; rintro r w1 ⟨rfl, hw1⟩; obtain rfl := hw1.symm; clear hw1))
  go_ret2
  exact ⟨rfl, rfl⟩
set_option maxHeartbeats 1000000 in
theorem block_bad (g : Nat) (c : Nat → Int) (s : Pst) (e : Int) (a1 a3 : Addr) (w0 w : World) (hP : Pt w0 w g c) (hL : Lay c s) (hE : EnvR w a1 a3) (h : e < 0 ∨ (s.n : Int) ≤ e) :
    Calls Tryd.prog 14 #[.pointer (some ⟨g, 0, none⟩), .int .i64 e] w fun r w' => ∃ x, r = .returned (.tuple #[.int .i64 0, x]) ∧ Chain w' 0 0 a3 [refB] x ∧ Below w.heap.size w w' := by
  have hS := size_any g c w0 w hP
  rw [hL.n] at hS
  have hl := lacks_bad g e s.n a1 a3 w hE h
  generalize s.n = n at hS hl
  have H : Hid _ := And.intro hS hl
  clear hS hl hP hL hE h
  go_enter Tryd.func14, Tryd.ntmps14
  go_wp2_with (first
    | (go_at_call 15; refine Calls.mono H.out.1 ?_; rintro r w1 ⟨rfl, hw1⟩; obtain rfl := hw1.symm; clear hw1)
    | (go_at_call 19; refine Calls.mono H.out.2 ?_; rintro r w1 ⟨x, rfl, hC, hb⟩; have HB : Hid _ := And.intro hC hb; obtain ⟨T, v, rfl⟩ := hC.iface; clear hC hb))
  go_ret2
  exact ⟨_, rfl, HB.out.1, HB.out.2⟩
end Go.Proofs.YthfnikglcpoioaaDoor
