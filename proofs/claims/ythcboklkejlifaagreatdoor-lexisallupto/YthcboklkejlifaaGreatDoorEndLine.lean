/- Contract of the scanner's method endLine: it closes a line that has words, and goes to the next one. -/
import Derived.Test.YthcboklkejlifaaGreatDoorTake
import Derived.Test.YthcboklkejlifaaGreatDoorSkip
namespace Go.Proofs.YthcboklkejlifaaGreatDoor
open Go.RowKit
attribute [local go_sem ↓] Go.wp_at_zero Go.wp_at_succ
/-- Does the last word stand on this line? -/
def lastOn (ts : List Tok) (l : Nat) : Bool := match ts.getLast? with
  | some t => t.line == l
  | none => false
def nlB : ByteArray := ⟨#[10]⟩
/-- The words behind the end of a line. -/
def endTs (ts : List Tok) (l c : Nat) : List Tok := if lastOn ts l then ts ++ [⟨1, nlB, l, c⟩] else ts
theorem endTs_nil (l c : Nat) : endTs [] l c = [] := rfl
theorem endTs_no (ts : List Tok) (t : Tok) (l c : Nat) (h : t.line ≠ l) : endTs (ts ++ [t]) l c = ts ++ [t] := by simp [endTs, lastOn, h]
theorem endTs_yes (ts : List Tok) (t : Tok) (l c : Nat) (h : t.line = l) : endTs (ts ++ [t]) l c = ts ++ [t] ++ [⟨1, nlB, l, c⟩] := by simp [endTs, lastOn, h]
theorem toksCells_length (ts : List Tok) : (toksCells ts).length = ts.length * 4 := by
  induction ts with
  | nil => rfl
  | cons t r ih =>
    have : toksCells (t :: r) = tokCells t ++ toksCells r := by simp [toksCells]
    rw [this, List.length_append, ih]
    simp [tokCells]; omega
theorem last_cell (ts : List Tok) (t : Tok) : (toksCells (ts ++ [t]))[ts.length * 4 + 2]? = some (.int .i64 t.line) := by
  rw [toksCells_snoc, List.getElem?_append_right (by rw [toksCells_length]; omega), toksCells_length]
  rw [show ts.length * 4 + 2 - ts.length * 4 = 2 from by omega]
  rfl
/-- The scanner behind the three stores. -/
theorem Sc_next {B : Nat} {s : ByteArray} {p l f : Nat} {ts : List Tok} {w : World} (h : Sc B s p l f ts w) (q m : Nat) :
    Sc B s q m q ts (((w.setCell ⟨B, 1, none⟩ (.int .i64 q)).setCell ⟨B, 2, none⟩ (.int .i64 m)).setCell ⟨B, 3, none⟩ (.int .i64 q)) := by
  obtain ⟨v, h1, h2⟩ := h
  refine ⟨v, ?_, ownsRow_setCell_below (ownsRow_setCell_below (ownsRow_setCell_below h2 (Nat.lt_succ_self _) _) (Nat.lt_succ_self _) _) (Nat.lt_succ_self _) _⟩
  rw [heap_setCell_same _ B 3 _ _ _ (heap_setCell_same _ B 2 _ _ _ (heap_setCell_same _ B 1 _ _ _ h1))]; rfl
theorem below_next {B : Nat} {w w1 : World} (h : Below B w w1) (a b c : Value) : Below B w (((w1.setCell ⟨B, 1, none⟩ a).setCell ⟨B, 2, none⟩ b).setCell ⟨B, 3, none⟩ c) :=
  ((h.setCell (Nat.le_refl _) _).setCell (Nat.le_refl _) _).setCell (Nat.le_refl _) _
theorem wrap_small (x : Int) (h0 : 0 ≤ x) (h1 : x ≤ 1000000000) : IntKind.i64.wrap x = x := by
  rw [IntKind.wrap_i64]; omega
set_option maxRecDepth 100000 in
set_option maxHeartbeats 1600000 in
theorem endLine_nil (B : Nat) (s : ByteArray) (p l f c : Nat) (w : World) (hS : Sc B s p l f [] w) (hp : p ≤ s.size) (hs : s.size ≤ 65536) (hl : l ≤ 100000) :
    Calls Tryz.prog 21 #[.pointer (some ⟨B, 0, none⟩)] w fun r w' => r = .returned (.tuple #[]) ∧ Sc B s (p + 1) (l + 1) (p + 1) (endTs [] l c) w' ∧ Below B w w' := by
  rw [endTs_nil]
  have HS : Hid (Sc B s p l f [] w) := hS
  obtain ⟨v, hB, hown⟩ := hS
  obtain ⟨ao, cap, rfl⟩ : ∃ ao cap, v = .slice ao 0 cap := by
    rcases hown.2 with ⟨h, _⟩ | ⟨g, cap, cur, h, _⟩
    · exact ⟨_, _, h⟩
    · exact ⟨_, _, h⟩
  obtain ⟨d0, d1, d2, d3, d4⟩ := Sc_cells hB
  have f1 := free_of_block hB 1
  have f2 := free_of_block hB 2
  have f3 := free_of_block hB 3
  clear hB hown d0
  have q1 : decide ((0 : Int) < 0) = false := by decide
  go_enter Tryz.func21, Tryz.ntmps21
  go_wp2_with fail
  go_quiet (fail)
  go_wp2
  go_end0
  exact ⟨rfl, Sc_next (Sc_heap HS.out rfl) (p + 1) (l + 1), below_next (below_drewN (Below.refl _ _) _) _ _ _⟩
set_option maxRecDepth 100000 in
set_option maxHeartbeats 1600000 in
theorem endLine_no (B : Nat) (s : ByteArray) (p l f c : Nat) (ts : List Tok) (t : Tok) (w : World) (hS : Sc B s p l f (ts ++ [t]) w) (ht : t.line ≠ l) (hp : p ≤ s.size) (hs : s.size ≤ 65536) (hl : l ≤ 100000) (hn : ts.length ≤ 200000) :
    Calls Tryz.prog 21 #[.pointer (some ⟨B, 0, none⟩)] w fun r w' => r = .returned (.tuple #[]) ∧ Sc B s (p + 1) (l + 1) (p + 1) (endTs (ts ++ [t]) l c) w' ∧ Below B w w' := by
  rw [endTs_no _ _ _ _ ht]
  have HS : Hid (Sc B s p l f (ts ++ [t]) w) := hS
  obtain ⟨v, hB, hown⟩ := hS
  have hlc := last_cell ts t
  obtain ⟨tl, htl⟩ : ∃ tl, tl = t.line := ⟨_, rfl⟩
  rw [← htl] at hlc ht
  rw [List.length_append, List.length_singleton] at hown
  obtain ⟨g, cap, rfl, hbg, _⟩ := hown.form (by omega)
  have hcl : w.cell? ⟨g, ts.length * 4 + 2, none⟩ = some (.int .i64 tl) := by simpa [Addr.add] using hown.cells (g := g) rfl _ _ hlc
  obtain ⟨d0, d1, d2, d3, d4⟩ := Sc_cells hB
  have f1 := free_of_block hB 1
  have f2 := free_of_block hB 2
  have f3 := free_of_block hB 3
  clear hB hown d0 hlc htl
  have q0 : (0 : Int) < (ts.length : Int) + 1 := by omega
  have q1 : (0 : Int) ≤ (ts.length : Int) := by omega
  have q5 : (ts.length : Int) < (ts.length : Int) + 1 := by omega
  have q6 : IntKind.i64.wrap (ts.length : Int) = (ts.length : Int) := wrap_small _ (by omega) (by omega)
  have q3 : ((tl : Int) == (l : Int)) = false := by simp; omega
  go_enter Tryz.func21, Tryz.ntmps21
  go_wp2_with fail
  go_quiet (fail)
  go_wp2
  go_end0
  exact ⟨rfl, Sc_next (Sc_heap HS.out rfl) (p + 1) (l + 1), below_next (below_drewN (Below.refl _ _) _) _ _ _⟩
theorem end_fin {w w1 w2 w3 : World} {B : Nat} {s : ByteArray} {p l f k c n q m : Nat} {x : ByteArray} {v : Value} {us : List Tok} {gg cap : Nat} {o : Obj} {ob : Obj} (hu : us.length = n)
    (hb : Below w.heap.size w w1) (hb' : Below w1.heap.size w1 w2) (hB : w2.heap[B]? = some ob)
    (hT : w3.heap[B]? = some (.cells #[.string s, .int .i64 p, .int .i64 l, .int .i64 f, v] 62 (0, 0)) ∧ w3.ownsRow (B + 1) 57 4 (.slice (some ⟨gg, 0, none⟩) (n + 1) cap) (n + 1) (toksCells us ++ [.int .i64 k, .string x, .int .i64 l, .int .i64 c]) ∧ (w2.alloc o).grownBy w3 v.ownBlock)
    (hG : (v.ownBlock = some gg ∨ gg = w2.heap.size + 1) ∧ gg < w3.heap.size) (hv : ∀ g, v.ownBlock = some g → B < g) (hBw : B < w.heap.size) :
    Sc B s q m q (us ++ [⟨k, x, l, c⟩]) ((((w3.setCell ⟨B, 4, none⟩ (.slice (some ⟨gg, 0, none⟩) (n + 1) cap)).setCell ⟨B, 1, none⟩ (.int .i64 q)).setCell ⟨B, 2, none⟩ (.int .i64 m)).setCell ⟨B, 3, none⟩ (.int .i64 q)) ∧ Below B w ((((w3.setCell ⟨B, 4, none⟩ (.slice (some ⟨gg, 0, none⟩) (n + 1) cap)).setCell ⟨B, 1, none⟩ (.int .i64 q)).setCell ⟨B, 2, none⟩ (.int .i64 m)).setCell ⟨B, 3, none⟩ (.int .i64 q)) := by
  obtain ⟨h3, ho, hg⟩ := hT
  have hlt2 := lt_of_block hB
  have hgg : B < gg := by
    rcases hG.1 with h | h
    · exact hv _ h
    · omega
  have b1 : Below B w w2 := (hb.mono (by omega)).trans (hb'.mono (by have := hb.size; omega))
  have b2 : Below B w (w3.setCell ⟨B, 4, none⟩ (.slice (some ⟨gg, 0, none⟩) (n + 1) cap)) := ((b1.alloc (by omega) o).grown hg (by simp; omega) (fun k hk => by have := hv k hk; omega)).setCell (Nat.le_refl _) _
  have b3 : Sc B s p l f (us ++ [⟨k, x, l, c⟩]) (w3.setCell ⟨B, 4, none⟩ (.slice (some ⟨gg, 0, none⟩) (n + 1) cap)) := by
    refine ⟨.slice (some ⟨gg, 0, none⟩) (n + 1) cap, ?_, ?_⟩
    · rw [heap_setCell_same _ B 4 _ _ _ h3]; rfl
    · rw [toksCells_snoc, List.length_append, List.length_singleton, hu]
      exact ownsRow_setCell_other ho (by simp [Value.ownBlock]; omega) _
  exact ⟨Sc_next b3 q m, below_next b2 _ _ _⟩
set_option maxRecDepth 100000 in
set_option maxHeartbeats 3200000 in
theorem endLine_yes (B : Nat) (s : ByteArray) (p l f c : Nat) (ts : List Tok) (t : Tok) (w : World) (hS : Sc B s p l f (ts ++ [t]) w) (ht : t.line = l) (hp : p ≤ s.size) (hf : f ≤ p) (hc : (c : Int) = (p : Int) - f + 1) (hs : s.size ≤ 65536) (hl : l ≤ 100000) (hn : ts.length ≤ 200000) :
    Calls Tryz.prog 21 #[.pointer (some ⟨B, 0, none⟩)] w fun r w' => r = .returned (.tuple #[]) ∧ Sc B s (p + 1) (l + 1) (p + 1) (endTs (ts ++ [t]) l c) w' ∧ Below B w w' := by
  rw [endTs_yes _ _ _ _ ht]
  obtain ⟨v, hB, hown⟩ := hS
  obtain ⟨i0, hi0, hz0, hz1, hz2⟩ := info_parts Tryz.infoTok
  have hlc := last_cell ts t
  rw [ht] at hlc
  obtain ⟨us, hus⟩ : ∃ us, us = ts ++ [t] := ⟨_, rfl⟩
  have hul : us.length = ts.length + 1 := by rw [hus]; simp
  rw [← hus] at hown hlc ⊢
  rw [hul] at hown
  obtain ⟨g, cap, rfl, hbg, _⟩ := hown.form (by omega)
  have hcl : w.cell? ⟨g, ts.length * 4 + 2, none⟩ = some (.int .i64 l) := by simpa [Addr.add] using hown.cells (g := g) rfl _ _ hlc
  have HV : Hid ((∀ k, (Value.slice (some ⟨g, 0, none⟩) (ts.length + 1) cap).ownBlock = some k → B < k) ∧ B < w.heap.size) := ⟨fun k h => by have := hown.lt _ h; omega, lt_of_block hB⟩
  have hBn : (Value.slice (some ⟨g, 0, none⟩) (ts.length + 1) cap).ownBlock ≠ some B := fun h => by have := hown.lt _ h; omega
  have HU : Hid (us.length = ts.length + 1) := hul
  obtain ⟨d0, d1, d2, d3, d4⟩ := Sc_cells hB
  have HP : Hid (w.heap[B]? = some (.cells #[.string s, .int .i64 p, .int .i64 l, .int .i64 f, .slice (some ⟨g, 0, none⟩) (ts.length + 1) cap] 62 (0, 0)) ∧ w.ownsRow (B + 1) 57 4 (.slice (some ⟨g, 0, none⟩) (ts.length + 1) cap) (ts.length + 1) (toksCells us)) := ⟨hB, hown⟩
  have HC : Hid ((c : Int) = (p : Int) - f + 1) := hc
  have hml : ts.length + 1 + 1 ≤ maxLen := by unfold maxLen; omega
  have hby : (ts.length + 1 + 1) * 40 ≤ 140737488355328 := by omega
  have hp6 : p ≤ 1000000 := by omega
  clear hB hown d0 hlc ht hus hul hc
  have q0 : (0 : Int) < (ts.length : Int) + 1 := by omega
  have q1 : (0 : Int) ≤ (ts.length : Int) := by omega
  have q5 : (ts.length : Int) < (ts.length : Int) + 1 := by omega
  have q6 : IntKind.i64.wrap (ts.length : Int) = (ts.length : Int) := wrap_small _ (by omega) (by omega)
  have q3 : ((l : Int) == (l : Int)) = true := by simp
  go_enter Tryz.func21, Tryz.ntmps21
  go_wp2_with fail
  go_quiet (fail)
  go_wp2_with fail
  obtain ⟨w1, hw1⟩ : ∃ w1, w1 = w.drewN nq := ⟨_, rfl⟩
  rw [← hw1]
  have HB2 : Hid (Below w.heap.size w w1) := (by rw [hw1]; exact below_drewN (Below.refl _ _) _ : Below w.heap.size w w1)
  have HQ : Hid _ := Sc_below HP.out HB2.out
  clear hw1 d1 d2 d3 d4 hcl HP
  obtain ⟨d0, d1, d2, d3, d4⟩ := Sc_cells HQ.out.1
  go_region_law
    ((first
      | (go_simp; go_at_call 22; refine (col_c B p f c _ (by exact d1) (by exact d3) HC.out hf hp6).mono ?_; rintro r2 w2 ⟨rfl, hb1⟩; have hb2 := below_of_drew hb1; clear hb1; have HP2 := Sc_below HQ.out hb2; clear d0 d1 d2 d3 d4; obtain ⟨d0, d1, d2, d3, d4⟩ := Sc_cells HP2.1; have hlt2 := lt_of_block HP2.1; have HB3 : Hid (Below w1.heap.size w1 w2) := hb2; have HR : Hid _ := HP2; clear hb2 HP2 HQ)
      | (refine step_append_lies _ (by rfl) _ _ _ (by rfl) (B + 1) 57 i0 _ 4 40 Tryz.underlying38 hi0 hz0 hz1 hz2 rfl (Nat.succ_pos 3) (.slice (some ⟨g, 0, none⟩) (ts.length + 1) cap) (ts.length + 1) (toksCells us) (by rfl) (HR.out.2.alloc _)
          ⟨w2.heap.size, 0, none⟩ 1 1 [.int .i64 1, .string nlB, .int .i64 l, .int .i64 c] (by rfl) (by rfl) (World.news_of_block (cs := #[.int .i64 1, .string nlB, .int .i64 l, .int .i64 c]) (t := 57) (fr := (0, 0)) (heap_alloc_new w2 _)) (by simp [Value.oneCell'])
          Nat.one_pos hml hby (Nat.le_trans hlt2 (by simp)) (w2.heap.size + 1) (by simp) ?_; intro gg cap2 w3 hown3 hgrow hat hlt; have hB3 := grown_block HR.out.1 hgrow hBn; obtain ⟨z0, z1, z2, z3, z4⟩ := Sc_cells hB3; have f4 := free_of_block hB3 4; have f1 := free_of_block hB3 1; have f2 := free_of_block hB3 2; have f3 := free_of_block hB3 3; have HT : Hid _ := And.intro hB3 (And.intro hown3 hgrow); have HG : Hid _ := And.intro hat hlt; clear hB3 hown3 hgrow hat hlt d0 d1 d2 d3 d4)))
  all_goals go_wp2
  all_goals go_end0
  all_goals exact ⟨rfl, end_fin HU.out HB2.out HB3.out HR.out.1 HT.out HG.out HV.out.1 HV.out.2⟩
end Go.Proofs.YthcboklkejlifaaGreatDoor
