/- Contracts of the scanner's methods takeName and takeNumber: a word is taken, or api's error against it is told. -/
import Derived.Test.YthcboklkejlifaaGreatDoorTake
import Derived.Test.YthcboklkejlifaaGreatDoorSkip
import Derived.Test.YthcboklkejlifaaGreatDoorValue
namespace Go.Proofs.YthcboklkejlifaaGreatDoor
open Go.RowKit
theorem Sc_belowS {B : Nat} {s : ByteArray} {p l f : Nat} {ts : List Tok} {w w1 : World} (h : Sc B s p l f ts w) (hb : Below w.heap.size w w1) : Sc B s p l f ts w1 := by
  obtain ⟨v, h1, h2⟩ := h
  exact ⟨v, (Sc_below ⟨h1, h2⟩ hb).1, ownsRow_below h2 hb⟩
set_option maxRecDepth 100000 in
set_option maxHeartbeats 1000000 in
theorem name_long (B : Nat) (s : ByteArray) (p l f : Nat) (ts : List Tok) (eL : Value) (w : World) (hS : Sc B s p l f ts w) (hp : p ≤ s.size) (hs : s.size ≤ 65536) (hL : w.cell? ⟨0, 0, none⟩ = some eL) (hr : 32 < Lx.runE s.data.toList p - p) :
    Calls Tryz.prog 17 #[.pointer (some ⟨B, 0, none⟩)] w fun r w' => r = .returned eL ∧ Below w.heap.size w w' := by
  obtain ⟨v, hB, hown⟩ := hS
  obtain ⟨d0, d1, d2, d3, d4⟩ := Sc_cells hB
  have hm : s.size ≤ maxLen := by unfold maxLen; omega
  have hge := Lx.runE_ge s.data.toList p
  have hle := Lx.runE_le s.data.toList p (by simpa using hp)
  rw [show s.data.toList.length = s.size from by simp] at hle
  obtain ⟨e, he⟩ : ∃ e, e = Lx.runE s.data.toList p := ⟨_, rfl⟩
  have hC := runEnd_any s p
  rw [← he] at hge hle hr hC
  clear hB hown d2 d3 d4 he
  go_enter Tryz.func17, Tryz.ntmps17
  go_wp2_with fail
  go_quiet ((go_at_call 82; exact Calls.quiet_of_same (hC _ hm hp)))
  go_wp2
  go_ret
  exact ⟨rfl, below_drewN (Below.refl _ _) _⟩
set_option maxRecDepth 100000 in
set_option maxHeartbeats 1000000 in
theorem name_ok (B : Nat) (s : ByteArray) (p l f : Nat) (ts : List Tok) (w : World) (hS : Sc B s p l f ts w) (hf : f ≤ p) (hp : p ≤ s.size) (hs : s.size ≤ 65536) (hn : ts.length ≤ 200000) (hr : ¬ 32 < Lx.runE s.data.toList p - p) :
    Calls Tryz.prog 17 #[.pointer (some ⟨B, 0, none⟩)] w fun r w' => r = .returned .nilIface ∧ Sc B s (Lx.runE s.data.toList p) l f (ts ++ [⟨2, s.extract p (Lx.runE s.data.toList p), l, p - f + 1⟩]) w' ∧ Below B w w' := by
  have HS : Hid (Sc B s p l f ts w) := hS
  obtain ⟨v, hB, hown⟩ := hS
  obtain ⟨d0, d1, d2, d3, d4⟩ := Sc_cells hB
  have hlt := lt_of_block hB
  have hm : s.size ≤ maxLen := by unfold maxLen; omega
  have hge := Lx.runE_ge s.data.toList p
  have hle := Lx.runE_le s.data.toList p (by simpa using hp)
  rw [show s.data.toList.length = s.size from by simp] at hle
  have hC := runEnd_any s p
  obtain ⟨e, he⟩ : ∃ e, e = Lx.runE s.data.toList p := ⟨_, rfl⟩
  rw [← he] at hge hle hr hC ⊢
  clear hB hown d2 d3 d4 he
  go_enter Tryz.func17, Tryz.ntmps17
  go_wp2_with fail
  go_quiet ((go_at_call 82; exact Calls.quiet_of_same (hC _ hm hp)))
  go_wp2_with (go_at_call 19; refine (take_any B s p l f ts _ (by exact Sc_heap HS.out rfl) 2 e hf hge hle hs hn).mono ?_; rintro r w1 ⟨rfl, hS1, hb1⟩)
  go_ret
  exact ⟨rfl, hS1, ((below_drewN (Below.refl _ _) _).mono (Nat.le_of_lt hlt)).trans hb1⟩
theorem drewN_split (w : World) (a b c : Nat) : ∃ n, (w.drewN (a + b)).drewN c = w.drewN (a + n) := ⟨b + c, by rw [World.drewN_drewN, Nat.add_assoc]⟩
/-- value's answer, by the number's value and code. -/
theorem value_at (s : ByteArray) (eL eW u : Value) (x : Int) (w : World) (hs : s.size ≤ maxLen) (hL : w.cell? ⟨0, 0, none⟩ = some eL) (hW : w.cell? ⟨1, 0, none⟩ = some eW) (h : numOut eL eW (Lx.numR s.data.toList) = .tuple #[.int .i64 x, u]) :
    Calls Tryz.prog 83 #[.string s] w fun e w' => e = .returned (.tuple #[.int .i64 x, u]) ∧ ∃ n, w' = w.drewN n := by
  refine (value_any s eL eW w hs hL hW).mono ?_
  rintro e w' ⟨rfl, h2⟩
  exact ⟨by rw [h], h2⟩
set_option maxRecDepth 100000 in
set_option maxHeartbeats 1000000 in
theorem number_bad (B : Nat) (s : ByteArray) (p l f : Nat) (ts : List Tok) (eL eW : Value) (T : TypeId) (u : Value) (w : World) (hS : Sc B s p l f ts w) (hp : p ≤ s.size) (hs : s.size ≤ 65536) (hL : w.cell? ⟨0, 0, none⟩ = some eL) (hW : w.cell? ⟨1, 0, none⟩ = some eW)
    (hr : numOut eL eW (Lx.numR (s.extract p (Lx.runE s.data.toList p)).data.toList) = .tuple #[.int .i64 0, .iface T u]) :
    Calls Tryz.prog 18 #[.pointer (some ⟨B, 0, none⟩)] w fun r w' => r = .returned (.iface T u) ∧ Below w.heap.size w w' := by
  obtain ⟨v, hB, hown⟩ := hS
  obtain ⟨d0, d1, d2, d3, d4⟩ := Sc_cells hB
  have hm : s.size ≤ maxLen := by unfold maxLen; omega
  have hge := Lx.runE_ge s.data.toList p
  have hle := Lx.runE_le s.data.toList p (by simpa using hp)
  rw [show s.data.toList.length = s.size from by simp] at hle
  obtain ⟨e, he⟩ : ∃ e, e = Lx.runE s.data.toList p := ⟨_, rfl⟩
  have hC := runEnd_any s p
  rw [← he] at hge hle hr hC
  have hx : (s.extract p e).size ≤ maxLen := by rw [ByteArray.size_extract]; unfold maxLen; omega
  have HR : Hid (numOut eL eW (Lx.numR (s.extract p e).data.toList) = .tuple #[.int .i64 0, .iface T u]) := hr
  have q0 : (0 : Int) ≤ (p : Int) := by omega
  have q1 : (p : Int) ≤ (e : Int) := by omega
  have q2 : (e : Int) ≤ (s.size : Int) := by omega
  clear hB hown d2 d3 d4 he hr
  go_enter Tryz.func18, Tryz.ntmps18
  go_wp2_with fail
  go_quiet ((go_at_call 82; exact Calls.quiet_of_same (hC _ hm hp)))
  go_wp2_with fail
  go_quiet ((go_at_call 83; refine (value_at _ eL eW _ _ _ hx (by exact hL) (by exact hW) HR.out).mono ?_; rintro r1 w1 ⟨rfl, m, rfl⟩; exact ⟨rfl, drewN_split _ _ _ _⟩))
  go_wp2
  go_ret
  exact ⟨rfl, below_drewN (Below.refl _ _) _⟩
set_option maxRecDepth 100000 in
set_option maxHeartbeats 1000000 in
theorem number_ok (B : Nat) (s : ByteArray) (p l f : Nat) (ts : List Tok) (eL eW : Value) (x : Int) (w : World) (hS : Sc B s p l f ts w) (hf : f ≤ p) (hp : p ≤ s.size) (hs : s.size ≤ 65536) (hn : ts.length ≤ 200000) (hL : w.cell? ⟨0, 0, none⟩ = some eL) (hW : w.cell? ⟨1, 0, none⟩ = some eW)
    (hr : numOut eL eW (Lx.numR (s.extract p (Lx.runE s.data.toList p)).data.toList) = .tuple #[.int .i64 x, .nilIface]) :
    Calls Tryz.prog 18 #[.pointer (some ⟨B, 0, none⟩)] w fun r w' => r = .returned .nilIface ∧ Sc B s (Lx.runE s.data.toList p) l f (ts ++ [⟨3, s.extract p (Lx.runE s.data.toList p), l, p - f + 1⟩]) w' ∧ Below B w w' := by
  have HS : Hid (Sc B s p l f ts w) := hS
  obtain ⟨v, hB, hown⟩ := hS
  obtain ⟨d0, d1, d2, d3, d4⟩ := Sc_cells hB
  have hlt := lt_of_block hB
  have hm : s.size ≤ maxLen := by unfold maxLen; omega
  have hge := Lx.runE_ge s.data.toList p
  have hle := Lx.runE_le s.data.toList p (by simpa using hp)
  rw [show s.data.toList.length = s.size from by simp] at hle
  obtain ⟨e, he⟩ : ∃ e, e = Lx.runE s.data.toList p := ⟨_, rfl⟩
  have hC := runEnd_any s p
  rw [← he] at hge hle hr hC ⊢
  have hx : (s.extract p e).size ≤ maxLen := by rw [ByteArray.size_extract]; unfold maxLen; omega
  have HR : Hid (numOut eL eW (Lx.numR (s.extract p e).data.toList) = .tuple #[.int .i64 x, .nilIface]) := hr
  have q0 : (0 : Int) ≤ (p : Int) := by omega
  have q1 : (p : Int) ≤ (e : Int) := by omega
  have q2 : (e : Int) ≤ (s.size : Int) := by omega
  clear hB hown d2 d3 d4 he hr
  go_enter Tryz.func18, Tryz.ntmps18
  go_wp2_with fail
  go_quiet ((go_at_call 82; exact Calls.quiet_of_same (hC _ hm hp)))
  go_wp2_with fail
  go_quiet ((go_at_call 83; refine (value_at _ eL eW _ _ _ hx (by exact hL) (by exact hW) HR.out).mono ?_; rintro r1 w1 ⟨rfl, m, rfl⟩; exact ⟨rfl, drewN_split _ _ _ _⟩))
  go_wp2_with (go_at_call 19; refine (take_any B s p l f ts _ (by exact Sc_heap HS.out rfl) 3 e hf hge hle hs hn).mono ?_; rintro r w1 ⟨rfl, hS1, hb1⟩)
  go_ret
  exact ⟨rfl, hS1, ((below_drewN (Below.refl _ _) _).mono (Nat.le_of_lt hlt)).trans hb1⟩
end Go.Proofs.YthcboklkejlifaaGreatDoor
