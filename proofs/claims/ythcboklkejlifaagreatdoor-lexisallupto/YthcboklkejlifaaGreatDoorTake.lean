/- Contract of the scanner's method take: it puts one word behind the others and goes to its end. -/
import Derived.Test.YthcboklkejlifaaGreatDoorScanner
import Derived.Deep.RegionLaw
namespace Go.Proofs.YthcboklkejlifaaGreatDoor
open Go.RowKit
attribute [local go_sem ↓] Go.wp_at_zero Go.wp_at_succ
theorem Tryz.infoTok : (Tryz.prog.info? 57).map (fun i => (i.zero, i.size, i.bytes)) = some (some (.agg #[.int .i64 0, .string ⟨#[]⟩, .int .i64 0, .int .i64 0]), 4, 40) := by kernel_rfl
theorem col_c (B p f c : Nat) (w : World) (hc1 : w.cell? ⟨B, 1, none⟩ = some (.int .i64 p)) (hc3 : w.cell? ⟨B, 3, none⟩ = some (.int .i64 f)) (hc : (c : Int) = (p : Int) - f + 1) (h1 : f ≤ p) (h2 : p ≤ 1000000) :
    Calls Tryz.prog 22 #[.pointer (some ⟨B, 0, none⟩)] w fun e w' => e = .returned (.int .i64 c) ∧ Below w.heap.size w w' := by
  refine (col_any B p f w hc1 hc3 h1 h2).mono ?_
  rintro e w' ⟨rfl, n, rfl⟩
  exact ⟨by rw [hc], below_drewN (Below.refl _ _) n⟩
theorem grown_block {w w3 : World} {B : Nat} {o x : Obj} {row : Option Nat} (h : w.heap[B]? = some o) (hg : (w.alloc x).grownBy w3 row) (hne : row ≠ some B) : w3.heap[B]? = some o := by
  have hlt := lt_of_block h
  rw [hg.block B (by simp; omega) (fun h => hne h.symm), Below.heap_alloc w x B hlt]
  exact h
theorem below_of_drew {w w1 : World} (h : Below w.drew.heap.size w.drew w1) : Below w.heap.size w w1 := (Below.refl _ w).drew.trans h
theorem Sc_below {w w1 : World} {B : Nat} {o : Obj} {base : Nat} {e : TypeId} {size : Nat} {v : Value} {n : Nat} {xs : List Value} (h : w.heap[B]? = some o ∧ w.ownsRow base e size v n xs) (hb : Below w.heap.size w w1) : w1.heap[B]? = some o ∧ w1.ownsRow base e size v n xs :=
  ⟨by rw [hb.block B (lt_of_block h.1)]; exact h.1, ownsRow_below h.2 hb⟩
theorem Sc_cells {w : World} {B : Nat} {a b c d e : Value} {t : TypeId} (h : w.heap[B]? = some (.cells #[a, b, c, d, e] t (0, 0))) :
    w.cell? ⟨B, 0, none⟩ = some a ∧ w.cell? ⟨B, 1, none⟩ = some b ∧ w.cell? ⟨B, 2, none⟩ = some c ∧ w.cell? ⟨B, 3, none⟩ = some d ∧ w.cell? ⟨B, 4, none⟩ = some e := by
  refine ⟨?_, ?_, ?_, ?_, ?_⟩ <;> (rw [cell_of_block h]; rfl)
theorem take_fin {w w1 w2 w3 : World} {B : Nat} {s : ByteArray} {p e l f k c : Nat} {x : ByteArray} {v : Value} {ts : List Tok} {gg cap : Nat} {o : Obj} {ob : Obj}
    (hb : Below w.heap.size w w1) (hb' : Below w1.heap.size w1 w2) (hB : w2.heap[B]? = some ob)
    (hT : w3.heap[B]? = some (.cells #[.string s, .int .i64 p, .int .i64 l, .int .i64 f, v] 62 (0, 0)) ∧ w3.ownsRow (B + 1) 57 4 (.slice (some ⟨gg, 0, none⟩) (ts.length + 1) cap) (ts.length + 1) (toksCells ts ++ [.int .i64 k, .string x, .int .i64 l, .int .i64 c]) ∧ (w2.alloc o).grownBy w3 v.ownBlock)
    (hG : (v.ownBlock = some gg ∨ gg = w2.heap.size + 1) ∧ gg < w3.heap.size) (hv : ∀ g, v.ownBlock = some g → B < g) (hBw : B < w.heap.size) :
    Sc B s e l f (ts ++ [⟨k, x, l, c⟩]) ((w3.setCell ⟨B, 4, none⟩ (.slice (some ⟨gg, 0, none⟩) (ts.length + 1) cap)).setCell ⟨B, 1, none⟩ (.int .i64 e)) ∧ Below B w ((w3.setCell ⟨B, 4, none⟩ (.slice (some ⟨gg, 0, none⟩) (ts.length + 1) cap)).setCell ⟨B, 1, none⟩ (.int .i64 e)) := by
  obtain ⟨h3, ho, hg⟩ := hT
  have hlt2 := lt_of_block hB
  have hgg : B < gg := by
    rcases hG.1 with h | h
    · exact hv _ h
    · omega
  refine ⟨⟨.slice (some ⟨gg, 0, none⟩) (ts.length + 1) cap, ?_, ?_⟩, ?_⟩
  · rw [heap_setCell_same _ B 1 _ _ _ (heap_setCell_same _ B 4 _ _ _ h3)]
    rfl
  · rw [toksCells_snoc]
    simp only [List.length_append, List.length_singleton]
    exact ownsRow_setCell_other (ownsRow_setCell_other ho (by simp [Value.ownBlock]; omega) _) (by simp [Value.ownBlock]; omega) _
  · have b1 : Below B w w2 := (hb.mono (by omega)).trans (hb'.mono (by have := hb.size; omega))
    exact (((b1.alloc (by omega) o).grown hg (by simp; omega) (fun k hk => by have := hv k hk; omega)).setCell (Nat.le_refl _) _).setCell (Nat.le_refl _) _
set_option maxRecDepth 100000 in
set_option maxHeartbeats 1600000 in
theorem take_any (B : Nat) (s : ByteArray) (p l f : Nat) (ts : List Tok) (w : World) (hS : Sc B s p l f ts w) (k e : Nat) (hf : f ≤ p) (hpe : p ≤ e) (hes : e ≤ s.size) (hs : s.size ≤ 65536) (hn : ts.length ≤ 200000) :
    Calls Tryz.prog 19 #[.pointer (some ⟨B, 0, none⟩), .int .i64 k, .int .i64 e] w fun r w' => r = .returned (.tuple #[]) ∧ Sc B s e l f (ts ++ [⟨k, s.extract p e, l, p - f + 1⟩]) w' ∧ Below B w w' := by
  obtain ⟨v, hB, hown⟩ := hS
  obtain ⟨i0, hi0, hz0, hz1, hz2⟩ := info_parts Tryz.infoTok
  have hc0 : w.cell? ⟨B, 0, none⟩ = some (.string s) := by rw [cell_of_block hB]; rfl
  have hc1 : w.cell? ⟨B, 1, none⟩ = some (.int .i64 p) := by rw [cell_of_block hB]; rfl
  have hc2 : w.cell? ⟨B, 2, none⟩ = some (.int .i64 l) := by rw [cell_of_block hB]; rfl
  have hc3 : w.cell? ⟨B, 3, none⟩ = some (.int .i64 f) := by rw [cell_of_block hB]; rfl
  have hc4 : w.cell? ⟨B, 4, none⟩ = some v := by rw [cell_of_block hB]; rfl
  have q0 : (0 : Int) ≤ (p : Int) := by omega
  have q1 : (p : Int) ≤ (e : Int) := by omega
  have q2 : (e : Int) ≤ (s.size : Int) := by omega
  have hBn : v.ownBlock ≠ some B := fun h => by have := hown.lt _ h; omega
  have hx : (s.extract p e).size ≤ 281474976710656 := by rw [ByteArray.size_extract]; omega
  have hml : ts.length + 1 ≤ maxLen := by unfold maxLen; omega
  have hby : (ts.length + 1) * 40 ≤ 140737488355328 := by omega
  have hp6 : p ≤ 1000000 := by omega
  obtain ⟨c, hc⟩ : ∃ c : Nat, c = p - f + 1 := ⟨_, rfl⟩
  rw [← hc]
  have HC : Hid ((c : Int) = (p : Int) - f + 1) := (by omega : (c : Int) = (p : Int) - f + 1)
  clear hc
  have HV : Hid ((∀ g, v.ownBlock = some g → B < g) ∧ B < w.heap.size) := ⟨fun g h => by have := hown.lt _ h; omega, lt_of_block hB⟩
  have HP : Hid (w.heap[B]? = some (.cells #[.string s, .int .i64 p, .int .i64 l, .int .i64 f, v] 62 (0, 0)) ∧ w.ownsRow (B + 1) 57 4 v ts.length (toksCells ts)) := ⟨hB, hown⟩
  clear hB hown hc2 hc3 hc4
  go_enter Tryz.func19, Tryz.ntmps19
  go_wp2_with fail
  go_region_held3 (fun w' => w'.cell? ⟨B, 0, none⟩ = some (.string s) ∧ w'.cell? ⟨B, 1, none⟩ = some (.int .i64 p)) (go_keep)
    ((go_at_call 84; refine (clone_any _ _ hx).mono ?_; rintro r1 w1 ⟨rfl, hb1⟩; have hb2 := below_of_drew hb1; clear hb1; have HP1 := Sc_below HP.out hb2; obtain ⟨d0, d1, d2, d3, d4⟩ := Sc_cells HP1.1; have HB2 : Hid (Below w.heap.size w w1) := hb2; have HQ : Hid _ := HP1; clear hb2 HP1 HP hc0 hc1))
  go_wp2_with fail
  go_region_law
    ((first
      | (go_simp; go_at_call 22; refine (col_c B p f c _ (by exact d1) (by exact d3) HC.out hf hp6).mono ?_; rintro r2 w2 ⟨rfl, hb1⟩; have hb2 := below_of_drew hb1; clear hb1; have HP2 := Sc_below HQ.out hb2; clear d0 d1 d2 d3 d4; obtain ⟨d0, d1, d2, d3, d4⟩ := Sc_cells HP2.1; have hlt2 := lt_of_block HP2.1; have HB3 : Hid (Below w1.heap.size w1 w2) := hb2; have HR : Hid _ := HP2; clear hb2 HP2 HQ)
      | (refine step_append_lies _ (by rfl) _ _ _ (by rfl) (B + 1) 57 i0 _ 4 40 Tryz.underlying38 hi0 hz0 hz1 hz2 rfl (Nat.succ_pos 3) v ts.length (toksCells ts) (by rfl) (HR.out.2.alloc _)
          ⟨w2.heap.size, 0, none⟩ 1 1 [.int .i64 k, .string (s.extract p e), .int .i64 l, .int .i64 c] (by rfl) (by rfl) (World.news_of_block (cs := #[.int .i64 k, .string (s.extract p e), .int .i64 l, .int .i64 c]) (t := 57) (fr := (0, 0)) (heap_alloc_new w2 _)) (by simp [Value.oneCell'])
          Nat.one_pos hml hby (Nat.le_trans hlt2 (by simp)) (w2.heap.size + 1) (by simp) ?_; intro gg cap w3 hown3 hgrow hat hlt; have hB3 := grown_block HR.out.1 hgrow hBn; obtain ⟨z0, z1, z2, z3, z4⟩ := Sc_cells hB3; have f4 := free_of_block hB3 4; have f1 := free_of_block hB3 1; have HT : Hid _ := And.intro hB3 (And.intro hown3 hgrow); have HG : Hid _ := And.intro hat hlt; clear hB3 hown3 hgrow hat hlt d0 d1 d2 d3 d4)))
  all_goals go_wp2
  all_goals go_end0
  all_goals exact ⟨rfl, take_fin HB2.out HB3.out HR.out.1 HT.out HG.out HV.out.1 HV.out.2⟩
end Go.Proofs.YthcboklkejlifaaGreatDoor
