/- What stands in a round of the law's put: the two stores, the box with the lent names and the copied pairs. -/
import Derived.Test.YthnenpncajpibaaGreatDoorTmTwo
namespace Go.Proofs.YthnenpncajpibaaGreatDoor
open Go.RowKit Go.Maps
def lentV (g cap : Nat) (t : Tm) : Value := .slice (some ⟨g, 0, none⟩) t.names.length cap
/-- The blocks of the round's own. -/
def Mine (B g : Nat) (vq : Value) (i : Nat) : Prop := i = B ∨ i = g ∨ vq.ownBlock = some i
structure Rd (w W : World) (b c : Nat) (L M : List Tm) (F G F' G' : Nat → Prop) (t : Tm) (B g cap : Nat) (vq : Value) : Prop where
  two : Two w W b c L M F G F' G'
  box : W.heap[B]? = some (.cells #[.int .i64 t.kind, .int .i64 t.label, .int .i64 t.a, .int .i64 t.b, lentV g cap t, vq] 35 (0, 0))
  lent : Lent W w.heap.size g cap t.names
  prs : OwnP W w.heap.size vq t.pairs
  ap : ∀ i, Mine B g vq i → w.heap.size ≤ i ∧ ¬ F' i ∧ ¬ G' i
  d1 : g ≠ B
  d2 : vq.ownBlock ≠ some g
  d3 : vq.ownBlock ≠ some B
theorem Rd.lt {w W : World} {b c : Nat} {L M : List Tm} {F G F' G' : Nat → Prop} {t : Tm} {B g cap : Nat} {vq : Value} (h : Rd w W b c L M F G F' G' t B g cap vq) {i : Nat} (hi : Mine B g vq i) : i < W.heap.size := by
  rcases hi with rfl | rfl | hi
  · exact t_lt h.box
  · exact h.lent.lt.2
  · exact (h.prs.lt i hi).2
theorem Rd.move {w W W' : World} {b c : Nat} {L M L' M' : List Tm} {F G F' G' F2 G2 : Nat → Prop} {t : Tm} {B g cap : Nat} {vq : Value} (h : Rd w W b c L M F G F' G' t B g cap vq) (h2 : Two w W' b c L' M' F G F2 G2) (hk : ∀ i, Mine B g vq i → W'.heap[i]? = W.heap[i]?) (hf : ∀ i, F2 i → F' i ∨ W.heap.size ≤ i) (hg : ∀ i, G2 i → G' i ∨ W.heap.size ≤ i) : Rd w W' b c L' M' F G F2 G2 t B g cap vq := by
  refine ⟨h2, (hk B (.inl rfl)).trans h.box, h.lent.at (hk g (.inr (.inl rfl))), trow_at h.prs fun i hi => hk i (.inr (.inr hi)), fun i hi => ⟨(h.ap i hi).1, fun e => ?_, fun e => ?_⟩, h.d1, h.d2, h.d3⟩
  · have := h.lt hi
    rcases hf i e with e | e
    · exact (h.ap i hi).2.1 e
    · omega
  · have := h.lt hi
    rcases hg i e with e | e
    · exact (h.ap i hi).2.2 e
    · omega
theorem Rd.below {w W W' : World} {b c : Nat} {L M : List Tm} {F G F' G' : Nat → Prop} {t : Tm} {B g cap : Nat} {vq : Value} (h : Rd w W b c L M F G F' G' t B g cap vq) (hb : Below W.heap.size W W') : Rd w W' b c L M F G F' G' t B g cap vq :=
  h.move (h.two.below hb) (fun i hi => hb.block i (h.lt hi)) (fun _ h => .inl h) (fun _ h => .inl h)
theorem Rd.sput {w W W' : World} {b c : Nat} {L M L' : List Tm} {F G F' G' F2 : Nat → Prop} {t : Tm} {B g cap : Nat} {vq : Value} (h : Rd w W b c L M F G F' G' t B g cap vq) (hs : StoB W' b L' F2) (hk : Kept F' W W') (hf : ∀ i, F2 i → F' i ∨ W.heap.size ≤ i) : Rd w W' b c L' M F G F2 G' t B g cap vq :=
  h.move (h.two.sput hs hk hf) (fun i hi => hk.block i (h.lt hi) (h.ap i hi).2.1) hf (fun _ h => .inl h)
theorem Rd.rput {w W W' : World} {b c : Nat} {L M M' : List Tm} {F G F' G' G2 : Nat → Prop} {t : Tm} {B g cap : Nat} {vq : Value} (h : Rd w W b c L M F G F' G' t B g cap vq) (hs : RStoB W' c M' G2) (hk : Kept G' W W') (hf : ∀ i, G2 i → G' i ∨ W.heap.size ≤ i) : Rd w W' b c L M' F G F' G2 t B g cap vq :=
  h.move (h.two.rput hs hk hf) (fun i hi => hk.block i (h.lt hi) (h.ap i hi).2.2) (fun _ h => .inl h) hf
theorem Rd.hand {w W : World} {b c : Nat} {L M : List Tm} {F G F' G' : Nat → Prop} {t : Tm} {B g cap : Nat} {vq : Value} (h : Rd w W b c L M F G F' G' t B g cap vq) : Hand W F' t (lentV g cap t) vq :=
  ⟨h.lent.has, h.prs.has, fun _ i hi => (h.ap i (.inr (.inl (by simpa [lentV, Value.ownBlock] using hi.symm)))).2.1, fun _ i hi => (h.ap i (.inr (.inr hi))).2.1⟩
/-- The round's start: the box is laid, then the lent names, then the copied pairs. -/
theorem rd_start {w wr W0 W1 W3 : World} {b c : Nat} {L M : List Tm} {F G F' G' : Nat → Prop} {t : Tm} {vn vp vq : Value} {g cap : Nat} (h : Two w wr b c L M F G F' G') (e0 : W0 = wr.alloc (.cells #[.int .i64 t.kind, .int .i64 t.label, .int .i64 t.a, .int .i64 t.b, vn, vp] 35))
    (hl : Lent W1 W0.heap.size g cap t.names) (hb1 : Below W0.heap.size W0 W1) (W2 : World) (e2 : W2 = W1.setCell ⟨wr.heap.size, 4, none⟩ (lentV g cap t))
    (hp : OwnP W3 W2.heap.size vq t.pairs) (hb3 : Below W2.heap.size W2 W3) (W4 : World) (e4 : W4 = W3.setCell ⟨wr.heap.size, 5, none⟩ vq) : Rd w W4 b c L M F G F' G' t wr.heap.size g cap vq := by
  have s0 : W0.heap.size = wr.heap.size + 1 := by rw [e0]; simp
  have s2 : W2.heap.size = W1.heap.size := by rw [e2, set_size]
  have s4 : W4.heap.size = W3.heap.size := by rw [e4, set_size]
  have b0 : Below wr.heap.size wr W0 := by rw [e0]; exact (Below.refl _ _).alloc (Nat.le_refl _) _
  have z1 := hb1.size
  have z3 := hb3.size
  have zw := h.k.size
  obtain ⟨g1, g2⟩ := hl.lt
  have b1 : Below wr.heap.size wr W1 := b0.trans (hb1.mono (by omega))
  have b2 : Below wr.heap.size wr W2 := by rw [e2]; exact b1.setCell (Nat.le_refl _) _
  have b3 : Below wr.heap.size wr W3 := b2.trans (hb3.mono (by omega))
  have b4 : Below wr.heap.size wr W4 := by rw [e4]; exact b3.setCell (Nat.le_refl _) _
  have x0 : W0.heap[wr.heap.size]? = some (.cells #[.int .i64 t.kind, .int .i64 t.label, .int .i64 t.a, .int .i64 t.b, vn, vp] 35 (0, 0)) := by rw [e0]; exact (MapKept.heap_alloc wr _).1
  have x1 := (hb1.block wr.heap.size (by omega)).trans x0
  have x2 : W2.heap[wr.heap.size]? = some (.cells #[.int .i64 t.kind, .int .i64 t.label, .int .i64 t.a, .int .i64 t.b, lentV g cap t, vp] 35 (0, 0)) := by
    rw [e2, heap_setCell_same _ _ _ _ _ _ x1]; rfl
  have x3 := (hb3.block wr.heap.size (by omega)).trans x2
  have x4 : W4.heap[wr.heap.size]? = some (.cells #[.int .i64 t.kind, .int .i64 t.label, .int .i64 t.a, .int .i64 t.b, lentV g cap t, vq] 35 (0, 0)) := by
    rw [e4, heap_setCell_same _ _ _ _ _ _ x3]; rfl
  have hq : ∀ i, vq.ownBlock = some i → W2.heap.size ≤ i ∧ i < W3.heap.size := fun i hi => hp.lt i hi
  have hL2 : Lent W2 W0.heap.size g cap t.names := hl.at (by rw [e2]; exact set_other _ _ _ _ _ (by omega))
  have hL3 : Lent W3 W0.heap.size g cap t.names := hL2.at (hb3.block g (by omega))
  have hL4 : Lent W4 W0.heap.size g cap t.names := hL3.at (by rw [e4]; exact set_other _ _ _ _ _ (by omega))
  have hp4 : OwnP W4 W2.heap.size vq t.pairs := trow_at hp fun i hi => by rw [e4]; exact set_other _ _ _ _ _ (by have := hq i hi; omega)
  have hap : ∀ i, wr.heap.size ≤ i → w.heap.size ≤ i ∧ ¬ F' i ∧ ¬ G' i := fun i hi => ⟨by omega, fun e => by have := h.s.foot_lt e; omega, fun e => by have := h.r.foot_lt e; omega⟩
  refine ⟨h.below b4, x4, row_base hL4 (by omega), row_base hp4 (by omega), fun i hi => hap i ?_, by omega, fun e => ?_, fun e => ?_⟩
  · rcases hi with rfl | rfl | hi
    · exact Nat.le_refl _
    · omega
    · have := hq i hi; omega
  · have := hq g e; omega
  · have := hq _ e; omega
/-- The cells of the box. -/
theorem Rd.cells {w W : World} {b c : Nat} {L M : List Tm} {F G F' G' : Nat → Prop} {t : Tm} {B g cap : Nat} {vq : Value} (h : Rd w W b c L M F G F' G' t B g cap vq) : W.cell? ⟨B, 0, none⟩ = some (.int .i64 t.kind) ∧ W.cell? ⟨B, 1, none⟩ = some (.int .i64 t.label) ∧ W.cell? ⟨B, 2, none⟩ = some (.int .i64 t.a) ∧ W.cell? ⟨B, 3, none⟩ = some (.int .i64 t.b) ∧ W.cell? ⟨B, 4, none⟩ = some (lentV g cap t) ∧ W.cell? ⟨B, 5, none⟩ = some vq := by
  obtain ⟨y0, y1, y2, y3, y4, y5, _⟩ := six6 h.box
  exact ⟨y0, y1, y2, y3, y4, y5⟩
end Go.Proofs.YthnenpncajpibaaGreatDoor
