/- What stands in the second loop of the statement TermWeights. -/
import Derived.Test.YthnenpncajpibaaGreatDoorTmPr
import Derived.Test.YthnenpncajpibaaGreatDoorTmConstsNo
import Derived.Test.YthnenpncajpibaaGreatDoorRtConsts
import Derived.Test.YthnenpncajpibaaGreatDoorRtWeight
import Derived.Test.YthnenpncajpibaaGreatDoorBookI7
namespace Go.Proofs.YthnenpncajpibaaGreatDoor
open Go.RowKit Go.Maps
/-- A book without a list, in new memory. -/
def bookZ : Array Value := Array.replicate 22 (.slice none 0 0)
theorem bs_new {w : World} {bk : Nat} (h : w.heap[bk]? = some (.cells bookZ 49 (0, 0))) : Bs w bk (.slice none 0 0) (.slice none 0 0) [] [] [] ∧ Oth w bk := by
  have hc : ∀ k, k < 22 → w.cell? ⟨bk, k, none⟩ = some (.slice none 0 0) := fun k hk => by
    have : bookZ[k]? = some (.slice none 0 0) := by unfold bookZ; rw [Array.getElem?_replicate, if_pos hk]
    simp [World.cell?, h, this]
  refine ⟨⟨⟨hc 0 (by omega), World.ownsRow_nil _ _ _ _, fun k l zs h1 => by simp at h1, ⟨fun l hl => by simp at hl, fun l hl => by simp at hl, by simp [Value.ownBlock], fun i j l m hl => by simp at hl⟩, by simp, fun zs h => by simp at h⟩, hc 1 (by omega), World.ownsRow_nil _ _ _ _, fun k l zs h1 => by simp at h1, ⟨_, h, by unfold bookZ; simp⟩, fun k hk => by simp [Value.ownBlock] at hk⟩, ?_⟩
  exact ⟨hc _ (by omega), hc _ (by omega), hc _ (by omega), hc _ (by omega), hc _ (by omega), hc _ (by omega), hc _ (by omega), hc _ (by omega), hc _ (by omega), hc _ (by omega)⟩
/-- A block of another type is none of those that turn when the book takes a list. -/
theorem Bs.far {w : World} {bk : Nat} {vi vw : Value} {ls ws : List Value} {zss : List (List Int)} (h : Bs w bk vi vw ls ws zss) {g : Nat} {cs : Array Value} {t : TypeId} (hg : w.heap[g]? = some (.cells cs t (0, 0))) (h1 : 49 ≠ t) (h2 : 29 ≠ t) : ¬ (g = bk ∨ vi.ownBlock = some g ∨ vw.ownBlock = some g) := fun hf => by
  rcases hf with rfl | hf | hf
  · obtain ⟨cs', hc, _⟩ := h.bt
    rw [hg] at hc
    injection hc with e
    injection e with _ e
    exact h1 e.symm
  · exact own_bk h.p.ri hg h2 hf
  · exact own_bk h.rw hg h2 hf
/-- The book at a round: made in the world wB, k lists in it; nothing that was there then has turned. -/
structure Wk (wB wr : World) (k : Nat) (vi vw : Value) (ls ws : List Value) (zss : List (List Int)) : Prop where
  bs : Bs wr wB.heap.size vi vw ls ws zss
  ot : Oth wr wB.heap.size
  len : zss.length = k
  bl : Below wB.heap.size wB wr
  rows : ∀ b, (vi.ownBlock = some b ∨ vw.ownBlock = some b) → wB.heap.size ≤ b
  lis : ∀ l ∈ ls, ∀ b, l.ownBlock = some b → wB.heap.size ≤ b
theorem wk_new (wB : World) : Wk wB (wB.alloc (.cells bookZ 49)) 0 (.slice none 0 0) (.slice none 0 0) [] [] [] := by
  have h := bs_new (MapKept.heap_alloc wB (.cells bookZ 49)).1
  exact ⟨h.1, h.2, rfl, (Below.refl _ _).alloc (Nat.le_refl _) _, fun b hb => by simp [Value.ownBlock] at hb, fun l hl => by simp at hl⟩
theorem Wk.below {wB wr w' : World} {k : Nat} {vi vw : Value} {ls ws : List Value} {zss : List (List Int)} (h : Wk wB wr k vi vw ls ws zss) (hb : Below wr.heap.size wr w') : Wk wB w' k vi vw ls ws zss :=
  ⟨h.bs.below hb, h.ot.below hb, h.len, h.bl.trans (hb.mono h.bl.size), h.rows, h.lis⟩
/-- One more list of the call's own. -/
theorem Wk.ints {wB wr : World} {k : Nat} {vi vw : Value} {ls ws : List Value} {zss : List (List Int)} (h : Wk wB wr k vi vw ls ws zss) (hk : k < 400) (v : Value) (cs : List Int) (B : Nat) (hO : OwnI wr B v cs) (hB : wB.heap.size ≤ B) (hap : ∀ l ∈ ls, ∀ q, l.ownBlock = some q → q < B) (hsz : cs.length ≤ 1000000) :
    Calls Tryz.prog 11 #[.pointer (some ⟨wB.heap.size, 0, none⟩), v] wr fun r w' => r = .returned (.tuple #[]) ∧ ∃ vi' vw' ws', Wk wB w' (k + 1) vi' vw' (ls ++ [v]) ws' (zss ++ [cs]) ∧ HasI w' v cs ∧ Kept (fun b => b = wB.heap.size ∨ vi.ownBlock = some b ∨ vw.ownBlock = some b) wr w' := by
  have hO0 : OwnI wr 0 v cs := row_base hO (Nat.zero_le _)
  refine (ints_any wB.heap.size vi vw v ls ws zss cs wr h.bs hO0 (fun l hl q hq e => ?_) (by rw [h.len]; exact hk) hsz).mono ?_
  · have h1 := hap l hl q hq
    have h2 := (hO.lt q e).1
    omega
  rintro r w' ⟨rfl, vi', vw', v1, hN⟩
  have hup : ∀ b, (b = wB.heap.size ∨ vi.ownBlock = some b ∨ vw.ownBlock = some b) → wB.heap.size ≤ b := fun b hb => by
    rcases hb with rfl | hb
    · exact Nat.le_refl _
    · exact h.rows b hb
  refine ⟨rfl, vi', vw', _, ⟨hN.b, ?_, by rw [List.length_append, h.len]; rfl, h.bl.trans (hN.k.below h.bl.size hup), fun b hb => ?_, fun l hl b hb => ?_⟩, ?_, hN.k⟩
  · exact ⟨(hN.o _ (by omega)).trans h.ot.d1, (hN.o _ (by omega)).trans h.ot.d2, (hN.o _ (by omega)).trans h.ot.d3, (hN.o _ (by omega)).trans h.ot.d4, (hN.o _ (by omega)).trans h.ot.d5, (hN.o _ (by omega)).trans h.ot.d6, (hN.o _ (by omega)).trans h.ot.d7, (hN.o _ (by omega)).trans h.ot.d8, (hN.o _ (by omega)).trans h.ot.d9, (hN.o _ (by omega)).trans h.ot.d10⟩
  · rcases hN.f b hb with e | e
    · exact h.rows b e
    · have := h.bl.size; omega
  · rcases List.mem_append.1 hl with hl | hl
    · exact h.lis l hl b hb
    · rw [List.mem_singleton.1 hl] at hb; have := (hO.lt b hb).1; omega
  · have hll := h.bs.p.ll
    refine (hN.b.p.li zss.length v cs ?_ ?_).has
    · rw [List.getElem?_append_right (by omega), hll, Nat.sub_self]; rfl
    · rw [List.getElem?_append_right (by omega), Nat.sub_self]; rfl
theorem Wk.ls_lt {wB wr : World} {k : Nat} {vi vw : Value} {ls ws : List Value} {zss : List (List Int)} (h : Wk wB wr k vi vw ls ws zss) : ∀ l ∈ ls, ∀ q, l.ownBlock = some q → q < wr.heap.size := fun l hl q hq => by
  obtain ⟨i, hi, rfl⟩ := List.getElem_of_mem hl
  have hz : i < zss.length := by have := h.bs.p.ll; omega
  exact ((h.bs.p.li i _ _ (List.getElem?_eq_getElem hi) (List.getElem?_eq_getElem hz)).lt q hq).2
end Go.Proofs.YthnenpncajpibaaGreatDoor
