/- The scanner in memory ('Sc'), and contracts of its methods that only read: col and powersHere; and of strings.Clone. -/
import Derived.Test.YthcboklkejlifaaGreatDoorRun
import Derived.Deep.RegionHeld3
import Derived.Deep.AppendLies
import Derived.Deep.DrawnRows
import Derived.WalkSmall
namespace Go.Proofs.YthcboklkejlifaaGreatDoor
open Go.RowKit
/-- A word of a text. -/
structure Tok where
  kind : Nat
  text : ByteArray
  line : Nat
  col : Nat
def tokCells (t : Tok) : List Value := [.int .i64 t.kind, .string t.text, .int .i64 t.line, .int .i64 t.col]
def toksCells (ts : List Tok) : List Value := (ts.map tokCells).flatten
theorem toksCells_snoc (ts : List Tok) (t : Tok) : toksCells (ts ++ [t]) = toksCells ts ++ tokCells t := by simp [toksCells]
/-- The scanner lies in block B: its text, place, line, the line's first byte, and the words, which it owns. -/
def Sc (B : Nat) (s : ByteArray) (at_ line first : Nat) (ts : List Tok) (w : World) : Prop :=
  ∃ v, w.heap[B]? = some (.cells #[.string s, .int .i64 at_, .int .i64 line, .int .i64 first, v] 62 (0, 0)) ∧ w.ownsRow (B + 1) 57 4 v ts.length (toksCells ts)
theorem cell_of_block {w : World} {B : Nat} {cs : Array Value} {t : TypeId} (h : w.heap[B]? = some (.cells cs t (0, 0))) (k : Nat) : w.cell? ⟨B, k, none⟩ = cs[k]? := by
  simp [World.cell?, h]
theorem free_of_block {w : World} {B : Nat} {cs : Array Value} {t : TypeId} (h : w.heap[B]? = some (.cells cs t (0, 0))) (k : Nat) : w.frozen? ⟨B, k, none⟩ = false := by
  simp [World.frozen?, h]
theorem ownsRow_below {w w1 : World} {base : Nat} {e : TypeId} {size : Nat} {v : Value} {n : Nat} {xs : List Value} (h : w.ownsRow base e size v n xs) (hb : Below w.heap.size w w1) : w1.ownsRow base e size v n xs := by
  refine ⟨h.1, ?_⟩
  rcases h.2 with h2 | ⟨g, cap, cur, hv, h3, hg, h4⟩
  · exact .inl h2
  · exact .inr ⟨g, cap, cur, hv, h3, by rw [hb.block g (lt_of_block hg)]; exact hg, h4⟩
theorem ownsRow_heap {w w1 : World} {base : Nat} {e : TypeId} {size : Nat} {v : Value} {n : Nat} {xs : List Value} (h : w.ownsRow base e size v n xs) (hb : w1.heap = w.heap) : w1.ownsRow base e size v n xs := by
  unfold World.ownsRow at h ⊢
  rw [hb]; exact h
theorem drewN_heap (w : World) (n : Nat) : (w.drewN n).heap = w.heap := rfl
set_option maxHeartbeats 400000 in
theorem col_any (B p f : Nat) (w : World) (hc1 : w.cell? ⟨B, 1, none⟩ = some (.int .i64 p)) (hc3 : w.cell? ⟨B, 3, none⟩ = some (.int .i64 f)) (h1 : f ≤ p) (h2 : p ≤ 1000000) :
    Calls Tryz.prog 22 #[.pointer (some ⟨B, 0, none⟩)] w fun e w' => e = .returned (.int .i64 ((p : Int) - f + 1)) ∧ ∃ n, w' = w.drewN n := by
  go_enter Tryz.func22, Tryz.ntmps22
  go_wp2
  go_quiet (fail)
  go_wp2
  go_ret
  exact ⟨rfl, _, rfl⟩
set_option maxHeartbeats 400000 in
theorem here_end (B : Nat) (s : ByteArray) (w : World) (hc1 : w.cell? ⟨B, 1, none⟩ = some (.int .i64 (s.size : Int))) (hc0 : w.cell? ⟨B, 0, none⟩ = some (.string s)) :
    Calls Tryz.prog 16 #[.pointer (some ⟨B, 0, none⟩)] w fun e w' => e = .returned (.int .i64 128) ∧ ∃ n, w' = w.drewN n := by
  have he : ((s.size : Int) == (s.size : Int)) = true := by simp
  go_enter Tryz.func16, Tryz.ntmps16
  go_wp2
  go_quiet (fail)
  go_wp2
  go_ret
  exact ⟨rfl, _, rfl⟩
set_option maxHeartbeats 400000 in
theorem here_at (B : Nat) (s : ByteArray) (p : Nat) (w : World) (hc1 : w.cell? ⟨B, 1, none⟩ = some (.int .i64 (p : Int))) (hc0 : w.cell? ⟨B, 0, none⟩ = some (.string s)) (hp : p < s.size) :
    Calls Tryz.prog 16 #[.pointer (some ⟨B, 0, none⟩)] w fun e w' => e = .returned (.int .i64 (Lx.powZ (s[p].toNat : Int))) ∧ ∃ n, w' = w.drewN n := by
  have he : ((p : Int) == (s.size : Int)) = false := by simp; omega
  have hb := byte_range s p hp
  have hp0 : (0 : Int) ≤ (p : Int) := by omega
  have hp1 : (p : Int) < (s.size : Int) := by omega
  go_enter Tryz.func16, Tryz.ntmps16
  go_wp2
  go_quiet (fail)
  go_wp2
  go_quiet ((go_at_call 81; refine (powers_any _ _ hb.1 hb.2).mono ?_; rintro e w' ⟨rfl, rfl⟩; exact ⟨rfl, _, by first | rfl | exact (World.drewN_drewN _ _ _).symm⟩))
  go_wp2
  go_ret
  exact ⟨rfl, _, World.drewN_drewN _ _ _⟩
theorem clone_any (s : ByteArray) (w : World) (hlim : s.size ≤ 281474976710656) :
    Calls Tryz.prog 84 #[.string s] w fun e w' => e = .returned (.string s) ∧ Below w.heap.size w w' := by
  go_enter Tryz.func84, Tryz.ntmps84
  go_wp2_with (go_at_call 127; refine (Tryz.stringslite_Clone _ _ hlim).mono ?_; rintro e w' ⟨rfl, hb⟩)
  go_ret
  exact ⟨rfl, hb⟩
end Go.Proofs.YthcboklkejlifaaGreatDoor
