/- Texts of this claim, joined: TmTwin, TmStore, TmSto. -/
import Derived.Test.YthnenpncajpibaaGreatDoorPart0
/- Contract of term.twin: the same term with lists of its own. -/
namespace Go.Proofs.YthnenpncajpibaaGreatDoor
open Go.RowKit Go.Maps
def iC (zs : List Int) : List Value := zs.map (Value.int .i64)
def pC (ps : List (Int × Int)) : List Value := (ps.map fun p => [Value.int .i64 p.1, Value.int .i64 p.2]).flatten
theorem iC_length (zs : List Int) : (iC zs).length = zs.length * 1 := by simp [iC]
theorem pC_length (ps : List (Int × Int)) : (pC ps).length = ps.length * 2 := by
  induction ps with
  | nil => rfl
  | cons p r ih =>
    have : pC (p :: r) = [Value.int .i64 p.1, Value.int .i64 p.2] ++ pC r := by simp [pC]
    rw [this, List.length_append, ih]; simp; omega
theorem pC_at (ps : List (Int × Int)) : ∀ (k : Nat) (p : Int × Int), ps[k]? = some p → (pC ps)[k * 2]? = some (.int .i64 p.1) ∧ (pC ps)[k * 2 + 1]? = some (.int .i64 p.2) := by
  induction ps with
  | nil => intro k p h; simp at h
  | cons q r ih =>
    intro k p h
    have e : pC (q :: r) = [Value.int .i64 q.1, Value.int .i64 q.2] ++ pC r := by simp [pC]
    rw [e]
    cases k with
    | zero => simp at h; subst h; exact ⟨rfl, rfl⟩
    | succ k =>
      obtain ⟨c0, c1⟩ := ih k p (by simpa using h)
      refine ⟨?_, ?_⟩
      · rw [List.getElem?_append_right (by simp; omega)]; simpa [Nat.succ_mul] using c0
      · rw [List.getElem?_append_right (by simp; omega)]
        have : (k + 1) * 2 + 1 - [Value.int .i64 q.1, Value.int .i64 q.2].length = k * 2 + 1 := by simp; omega
        rw [this]; exact c1
theorem pC_inv (ps : List (Int × Int)) (j : Nat) (u : Value) (h : (pC ps)[j]? = some u) : ∃ p, ps[j / 2]? = some p ∧ u = if j % 2 = 0 then .int .i64 p.1 else .int .i64 p.2 := by
  have hl : j < ps.length * 2 := by rw [← pC_length]; exact (List.getElem?_eq_some_iff.1 h).1
  have hk : j / 2 < ps.length := by omega
  have he : ps[j / 2]? = some ps[j / 2] := List.getElem?_eq_getElem hk
  obtain ⟨c0, c1⟩ := pC_at ps (j / 2) _ he
  refine ⟨_, he, ?_⟩
  by_cases h2 : j % 2 = 0
  · rw [if_pos h2]
    have : j / 2 * 2 = j := by omega
    rw [this, h] at c0
    exact Option.some.inj c0
  · rw [if_neg h2]
    have : j / 2 * 2 + 1 = j := by omega
    rw [this, h] at c1
    exact Option.some.inj c1
theorem iC_one (zs : List Int) : ∀ u ∈ iC zs, u.oneCell' = true := fun u hu => by
  obtain ⟨z, _, rfl⟩ := List.mem_map.1 hu; rfl
theorem pC_one (ps : List (Int × Int)) : ∀ u ∈ pC ps, u.oneCell' = true := fun u hu => by
  simp only [pC, List.mem_flatten, List.mem_map] at hu
  obtain ⟨l, ⟨p, _, rfl⟩, hu⟩ := hu
  simp only [List.mem_cons, List.not_mem_nil, or_false] at hu
  rcases hu with rfl | rfl <;> rfl
theorem iC_news {w : World} {a : Addr} {zs : List Int} (h : ∀ (i : Nat) (z : Int), zs[i]? = some z → w.cell? (a.add i) = some (.int .i64 z)) : ∀ j u, (iC zs)[j]? = some u → w.cell? (a.add j) = some u := by
  intro j u hu
  unfold iC at hu
  rw [List.getElem?_map] at hu
  cases e : zs[j]? with
  | none => rw [e] at hu; simp at hu
  | some z =>
    rw [e] at hu
    simp at hu
    subst hu
    exact h j z e
theorem pC_news {w : World} {a : Addr} {ps : List (Int × Int)} (h : ∀ (i : Nat) (p : Int × Int), ps[i]? = some p → w.cell? (a.add (i * 2)) = some (.int .i64 p.1) ∧ w.cell? (a.add (i * 2 + 1)) = some (.int .i64 p.2)) : ∀ j u, (pC ps)[j]? = some u → w.cell? (a.add j) = some u := by
  intro j u hu
  obtain ⟨p, hp, rfl⟩ := pC_inv ps j u hu
  obtain ⟨c0, c1⟩ := h _ p hp
  by_cases h2 : j % 2 = 0
  · rw [if_pos h2]; have : j / 2 * 2 = j := by omega
    rw [this] at c0; exact c0
  · rw [if_neg h2]; have : j / 2 * 2 + 1 = j := by omega
    rw [this] at c1; exact c1
theorem HasI.news {w : World} {a : Addr} {n cap : Nat} {zs : List Int} (h : HasI w (.slice (some a) n cap) zs) : n = zs.length ∧ ∀ j u, (iC zs)[j]? = some u → w.cell? (a.add j) = some u := by
  obtain ⟨ao, cap', h1, h2⟩ := h
  injection h1 with e1 e2 e3
  subst e1
  refine ⟨e2, iC_news fun i z hi => ?_⟩
  obtain ⟨a', ha, hc⟩ := h2 i z hi
  cases ha
  exact hc
theorem HasP.news {w : World} {a : Addr} {n cap : Nat} {ps : List (Int × Int)} (h : HasP w (.slice (some a) n cap) ps) : n = ps.length ∧ ∀ j u, (pC ps)[j]? = some u → w.cell? (a.add j) = some u := by
  obtain ⟨ao, cap', h1, h2⟩ := h
  injection h1 with e1 e2 e3
  subst e1
  refine ⟨e2, pC_news fun i z hi => ?_⟩
  obtain ⟨a', ha, hc⟩ := h2 i z hi
  cases ha
  exact hc
theorem HasI.none {w : World} {n cap : Nat} {zs : List Int} (h : HasI w (.slice none n cap) zs) : zs = [] ∧ n = 0 := by
  obtain ⟨ao, cap', h1, h2⟩ := h
  injection h1 with e1 e2 e3
  subst e1
  cases zs with
  | nil => exact ⟨rfl, e2⟩
  | cons z r => obtain ⟨a, h, _⟩ := h2 0 z rfl; cases h
theorem HasP.none {w : World} {n cap : Nat} {ps : List (Int × Int)} (h : HasP w (.slice none n cap) ps) : ps = [] ∧ n = 0 := by
  obtain ⟨ao, cap', h1, h2⟩ := h
  injection h1 with e1 e2 e3
  subst e1
  cases ps with
  | nil => exact ⟨rfl, e2⟩
  | cons z r => obtain ⟨a, h, _⟩ := h2 0 z rfl; cases h
/-- A row of numbers, a row of pairs: lists of the call's own. -/
def OwnI (w : World) (B : Nat) (v : Value) (zs : List Int) : Prop := w.ownsRow B 3 1 v zs.length (iC zs)
def OwnP (w : World) (B : Nat) (v : Value) (ps : List (Int × Int)) : Prop := w.ownsRow B 75 2 v ps.length (pC ps)
theorem addz (g i : Nat) : (⟨g, 0, none⟩ : Addr).add i = ⟨g, i, none⟩ := by unfold Addr.add; split <;> simp_all
theorem OwnI.has {w : World} {B : Nat} {v : Value} {zs : List Int} (h : OwnI w B v zs) : HasI w v zs := by
  rcases h.2 with ⟨rfl, h0⟩ | ⟨g, cap, cur, rfl, _⟩
  · obtain rfl : zs = [] := List.eq_nil_of_length_eq_zero h0
    exact ⟨none, 0, rfl, fun i z hi => by simp at hi⟩
  · refine ⟨_, cap, rfl, fun i z hi => ⟨_, rfl, ?_⟩⟩
    have hlt := (List.getElem?_eq_some_iff.1 hi).1
    rw [addz, h.cellAt i (by omega)]
    simp [iC, hi]
theorem OwnP.has {w : World} {B : Nat} {v : Value} {ps : List (Int × Int)} (h : OwnP w B v ps) : HasP w v ps := by
  rcases h.2 with ⟨rfl, h0⟩ | ⟨g, cap, cur, rfl, _⟩
  · obtain rfl : ps = [] := List.eq_nil_of_length_eq_zero h0
    exact ⟨none, 0, rfl, fun i z hi => by simp at hi⟩
  · refine ⟨_, cap, rfl, fun i p hi => ⟨_, rfl, ?_⟩⟩
    have hlt := (List.getElem?_eq_some_iff.1 hi).1
    obtain ⟨c0, c1⟩ := pC_at ps i p hi
    rw [addz, addz, h.cellAt (i * 2) (by omega), h.cellAt (i * 2 + 1) (by omega)]
    exact ⟨c0, c1⟩
theorem row_shape {w : World} {base : Nat} {e : TypeId} {size : Nat} {v : Value} {n : Nat} {xs : List Value} (h : w.ownsRow base e size v n xs) : ∃ ao cap, v = .slice ao n cap := by
  rcases h.2 with ⟨rfl, h0⟩ | ⟨g, cap, cur, rfl, _⟩
  · exact ⟨none, 0, by rw [h0]⟩
  · exact ⟨_, _, rfl⟩
theorem trow_at {w w' : World} {base : Nat} {e : TypeId} {size : Nat} {v : Value} {n : Nat} {xs : List Value} (h : w.ownsRow base e size v n xs) (hb : ∀ i, v.ownBlock = some i → w'.heap[i]? = w.heap[i]?) : w'.ownsRow base e size v n xs := by
  refine ⟨h.1, ?_⟩
  rcases h.2 with h2 | ⟨g, cap, cur, rfl, h3, hg, h4⟩
  · exact .inl h2
  · exact .inr ⟨g, cap, cur, rfl, h3, by rw [hb g rfl]; exact hg, h4⟩
theorem row_base {w : World} {base base' : Nat} {e : TypeId} {size : Nat} {v : Value} {n : Nat} {xs : List Value} (h : w.ownsRow base e size v n xs) (hb : base' ≤ base) : w.ownsRow base' e size v n xs := by
  refine ⟨h.1, ?_⟩
  rcases h.2 with h2 | ⟨g, cap, cur, rfl, h3, hg, h4⟩
  · exact .inl h2
  · exact .inr ⟨g, cap, cur, rfl, by omega, hg, h4⟩
theorem set_other (w : World) (b o i : Nat) (u : Value) (h : i ≠ b) : (w.setCell ⟨b, o, none⟩ u).heap[i]? = w.heap[i]? := by
  simp only [World.setCell]
  rw [Array.getElem?_modify, if_neg (fun e => h e.symm)]
theorem row0 {w : World} {base : Nat} {e : TypeId} {size : Nat} {v : Value} {n : Nat} {xs : List Value} (h : w.ownsRow base e size v (0 + n) ([] ++ xs)) : w.ownsRow base e size v n xs := by simpa using h
theorem tgrown0 {w w1 : World} (hg : w.grownBy w1 (Value.slice none 0 0).ownBlock) : Below w.heap.size w w1 := ⟨hg.os, hg.tape, hg.output, hg.size, fun k hk => hg.block k hk (by simp [Value.ownBlock])⟩
theorem Tryz.infoI3 : (Tryz.prog.info? 3).map (fun i => (i.zero, i.size, i.bytes)) = some (some (.int .i64 0), 1, 8) := by kernel_rfl
theorem Tryz.infoP3 : (Tryz.prog.info? 75).map (fun i => (i.zero, i.size, i.bytes)) = some (some (.agg #[.int .i64 0, .int .i64 0]), 2, 16) := by kernel_rfl
/-- The two boxes of twin. -/
def twW (t : Tm) (vn vp : Value) (w : World) : World := (w.alloc (.cells #[.int .i64 t.kind, .int .i64 t.label, .int .i64 t.a, .int .i64 t.b, vn, vp] 35)).alloc (.cells #[.int .i64 0, .int .i64 0, .int .i64 0, .int .i64 0, .slice none 0 0, .slice none 0 0] 35)
theorem twW_size (t : Tm) (vn vp : Value) (w : World) : (twW t vn vp w).heap.size = w.heap.size + 2 := by simp [twW]
theorem twW_below (t : Tm) (vn vp : Value) (w : World) : Below w.heap.size w (twW t vn vp w) := by unfold twW; exact (by repeat (first | exact Below.refl _ _ | assumption | refine Below.drew ?_ | refine Below.setCell ?_ (by simp) _ | refine Below.alloc ?_ (by simp) _))
theorem twW_box (t : Tm) (vn vp : Value) (w : World) : (twW t vn vp w).heap[w.heap.size]? = some (.cells #[.int .i64 t.kind, .int .i64 t.label, .int .i64 t.a, .int .i64 t.b, vn, vp] 35 (0, 0)) := by
  unfold twW
  rw [Below.heap_alloc _ _ _ (by simp)]
  exact (MapKept.heap_alloc w _).1
theorem twW_res (t : Tm) (vn vp : Value) (w : World) : (twW t vn vp w).heap[w.heap.size + 1]? = some (.cells #[.int .i64 0, .int .i64 0, .int .i64 0, .int .i64 0, .slice none 0 0, .slice none 0 0] 35 (0, 0)) := by
  unfold twW
  have h := (MapKept.heap_alloc (w.alloc (.cells #[.int .i64 t.kind, .int .i64 t.label, .int .i64 t.a, .int .i64 t.b, vn, vp] 35)) (.cells #[.int .i64 0, .int .i64 0, .int .i64 0, .int .i64 0, .slice none 0 0, .slice none 0 0] 35)).1
  simpa using h
/-- The world behind both copies: the box bears the new lists, the result is written. -/
def twF (B : Nat) (t : Tm) (v1 v2 : Value) (w2 : World) : World := ((((((w2.setCell ⟨B, 5, none⟩ v2).setCell ⟨B + 1, 0, none⟩ (.int .i64 t.kind)).setCell ⟨B + 1, 1, none⟩ (.int .i64 t.label)).setCell ⟨B + 1, 2, none⟩ (.int .i64 t.a)).setCell ⟨B + 1, 3, none⟩ (.int .i64 t.b)).setCell ⟨B + 1, 4, none⟩ v1).setCell ⟨B + 1, 5, none⟩ v2
theorem twF_other (B : Nat) (t : Tm) (v1 v2 : Value) (w2 : World) (i : Nat) (h0 : i ≠ B) (h1 : i ≠ B + 1) : (twF B t v1 v2 w2).heap[i]? = w2.heap[i]? := by
  unfold twF
  exact (set_other _ _ _ _ _ h1).trans ((set_other _ _ _ _ _ h1).trans ((set_other _ _ _ _ _ h1).trans ((set_other _ _ _ _ _ h1).trans ((set_other _ _ _ _ _ h1).trans ((set_other _ _ _ _ _ h1).trans (set_other _ _ _ _ _ h0))))))
theorem twF_below {w w2 : World} (t : Tm) (v1 v2 : Value) (h : Below w.heap.size w w2) : Below w.heap.size w (twF w.heap.size t v1 v2 w2) :=
  ((((((h.setCell (Nat.le_refl _) _).setCell (Nat.le_succ _) _).setCell (Nat.le_succ _) _).setCell (Nat.le_succ _) _).setCell (Nat.le_succ _) _).setCell (Nat.le_succ _) _).setCell (Nat.le_succ _) _
/-- What twin leaves. -/
structure Twin (w w' : World) (t : Tm) (v1 v2 : Value) : Prop where
  n : OwnI w' w.heap.size v1 t.names
  p : OwnP w' w.heap.size v2 t.pairs
  bl : Below w.heap.size w w'
theorem twin_fin {w W0 w1 w2 : World} {t : Tm} {v1 v2 : Value} (hs : W0.heap.size = w.heap.size + 2) (h0 : Below w.heap.size w W0) (b1 : Below W0.heap.size W0 w1) (o1 : OwnI w1 W0.heap.size v1 t.names)
    (b2 : Below (w1.setCell ⟨w.heap.size, 4, none⟩ v1).heap.size (w1.setCell ⟨w.heap.size, 4, none⟩ v1) w2) (o2 : OwnP w2 W0.heap.size v2 t.pairs) : Twin w (twF w.heap.size t v1 v2 w2) t v1 v2 := by
  have e1 : (w1.setCell ⟨w.heap.size, 4, none⟩ v1).heap.size = w1.heap.size := by simp [World.setCell]
  have s1 := b1.size
  refine ⟨row_base (trow_at o1 fun i hi => ?_) (by omega), row_base (trow_at o2 fun i hi => ?_) (by omega), twF_below t v1 v2 ?_⟩
  · obtain ⟨g1, g2⟩ := o1.lt i hi
    rw [twF_other _ _ _ _ _ _ (by omega) (by omega), b2.block i (by omega), set_other _ _ _ _ _ (by omega)]
  · obtain ⟨g1, g2⟩ := o2.lt i hi
    rw [twF_other _ _ _ _ _ _ (by omega) (by omega)]
  · exact ((h0.trans (b1.mono (by omega))).setCell (Nat.le_refl _) _).trans (b2.mono (by omega))
/-- The cells of a box with six of them. -/
structure Six6 (w : World) (B : Nat) (a b c d e f : Value) : Prop where
  c0 : w.cell? ⟨B, 0, none⟩ = some a
  c1 : w.cell? ⟨B, 1, none⟩ = some b
  c2 : w.cell? ⟨B, 2, none⟩ = some c
  c3 : w.cell? ⟨B, 3, none⟩ = some d
  c4 : w.cell? ⟨B, 4, none⟩ = some e
  c5 : w.cell? ⟨B, 5, none⟩ = some f
  fr : ∀ k, w.frozen? ⟨B, k, none⟩ = false
theorem six6 {w : World} {B : Nat} {a b c d e f : Value} {ty : TypeId} (h : w.heap[B]? = some (.cells #[a, b, c, d, e, f] ty (0, 0))) : Six6 w B a b c d e f :=
  ⟨tb_cell h 0, tb_cell h 1, tb_cell h 2, tb_cell h 3, tb_cell h 4, tb_cell h 5, blk_free h⟩
/-- Behind the first copy. -/
structure Tw1 (w w1 : World) (t : Tm) (vn vp v1 : Value) : Prop where
  b : Below (twW t vn vp w).heap.size (twW t vn vp w) w1
  o : OwnI w1 (twW t vn vp w).heap.size v1 t.names
theorem Tw1.box {w w1 : World} {t : Tm} {vn vp v1 : Value} (h : Tw1 w w1 t vn vp v1) : w1.heap[w.heap.size]? = some (.cells #[.int .i64 t.kind, .int .i64 t.label, .int .i64 t.a, .int .i64 t.b, vn, vp] 35 (0, 0)) :=
  (h.b.block _ (by rw [twW_size]; omega)).trans (twW_box t vn vp w)
theorem Tw1.res {w w1 : World} {t : Tm} {vn vp v1 : Value} (h : Tw1 w w1 t vn vp v1) : w1.heap[w.heap.size + 1]? = some (.cells #[.int .i64 0, .int .i64 0, .int .i64 0, .int .i64 0, .slice none 0 0, .slice none 0 0] 35 (0, 0)) :=
  (h.b.block _ (by rw [twW_size]; omega)).trans (twW_res t vn vp w)
theorem Tw1.bl {w w1 : World} {t : Tm} {vn vp v1 : Value} (h : Tw1 w w1 t vn vp v1) : Below w.heap.size w w1 :=
  (twW_below t vn vp w).trans (h.b.mono (by rw [twW_size]; omega))
theorem Tw1.bl4 {w w1 : World} {t : Tm} {vn vp v1 : Value} (h : Tw1 w w1 t vn vp v1) : Below w.heap.size w (w1.setCell ⟨w.heap.size, 4, none⟩ v1) := h.bl.setCell (Nat.le_refl _) _
theorem Tw1.le {w w1 : World} {t : Tm} {vn vp v1 : Value} (h : Tw1 w w1 t vn vp v1) : (twW t vn vp w).heap.size ≤ (w1.setCell ⟨w.heap.size, 4, none⟩ v1).heap.size := by
  have := h.b.size
  simpa [World.setCell] using this
/-- Behind the second copy. -/
structure Tw2 (w w1 w2 : World) (t : Tm) (vn vp v1 v2 : Value) : Prop where
  b : Below (w1.setCell ⟨w.heap.size, 4, none⟩ v1).heap.size (w1.setCell ⟨w.heap.size, 4, none⟩ v1) w2
  o : OwnP w2 (twW t vn vp w).heap.size v2 t.pairs
theorem Tw2.box {w w1 w2 : World} {t : Tm} {vn vp v1 v2 : Value} (h1 : Tw1 w w1 t vn vp v1) (h : Tw2 w w1 w2 t vn vp v1 v2) : w2.heap[w.heap.size]? = some (.cells #[.int .i64 t.kind, .int .i64 t.label, .int .i64 t.a, .int .i64 t.b, v1, vp] 35 (0, 0)) := by
  have hl := t_lt h1.box
  rw [h.b.block _ (by simpa [World.setCell] using hl), heap_setCell_same _ _ 4 _ _ _ h1.box]
  rfl
theorem Tw2.res {w w1 w2 : World} {t : Tm} {vn vp v1 v2 : Value} (h1 : Tw1 w w1 t vn vp v1) (h : Tw2 w w1 w2 t vn vp v1 v2) : w2.heap[w.heap.size + 1]? = some (.cells #[.int .i64 0, .int .i64 0, .int .i64 0, .int .i64 0, .slice none 0 0, .slice none 0 0] 35 (0, 0)) := by
  have hl := t_lt h1.res
  rw [h.b.block _ (by simpa [World.setCell] using hl), set_other _ _ _ _ _ (by omega)]
  exact h1.res
theorem Tw2.fin {w w1 w2 : World} {t : Tm} {vn vp v1 v2 : Value} (h1 : Tw1 w w1 t vn vp v1) (h : Tw2 w w1 w2 t vn vp v1 v2) : Twin w (twF w.heap.size t v1 v2 w2) t v1 v2 :=
  twin_fin (twW_size t vn vp w) (twW_below t vn vp w) h1.b h1.o h.b h.o
theorem tw1_none (t : Tm) (cn : Nat) (vp : Value) (w : World) (h : t.names = []) : Tw1 w (twW t (.slice none 0 cn) vp w) t (.slice none 0 cn) vp (.slice none 0 0) :=
  ⟨Below.refl _ _, by unfold OwnI; rw [h]; exact World.ownsRow_nil _ _ _ _⟩
theorem tw2_none {w w1 : World} {t : Tm} {vn v1 : Value} {cp : Nat} (h : t.pairs = []) : Tw2 w w1 (w1.setCell ⟨w.heap.size, 4, none⟩ v1) t vn (.slice none 0 cp) v1 (.slice none 0 0) :=
  ⟨Below.refl _ _, by unfold OwnP; rw [h]; exact World.ownsRow_nil _ _ _ _⟩
theorem twW_set4 (t : Tm) (vn vp v : Value) (w : World) : (twW t vn vp w).setCell ⟨w.heap.size, 4, none⟩ v = twW t v vp w := by
  simp [twW, go_sem]
set_option maxRecDepth 100000 in
set_option maxHeartbeats 1000000 in
theorem twin_ss (t : Tm) (an : Addr) (ap : Addr) (cn cp : Nat) (w : World) (hn : HasI w (.slice (some an) t.names.length cn) t.names) (hp : HasP w (.slice (some ap) t.pairs.length cp) t.pairs) (ln : t.names.length * 8 ≤ 140737488355328) (lp : t.pairs.length * 16 ≤ 140737488355328) :
    Calls Tryz.prog 78 #[tmV t (.slice (some an) t.names.length cn) (.slice (some ap) t.pairs.length cp)] w fun r w' => ∃ v1 v2, r = .returned (tmV t v1 v2) ∧ Twin w w' t v1 v2 := by
  obtain ⟨i0, hi0, hz0, hz1, hz2⟩ := info_parts Tryz.infoI3
  obtain ⟨j0, hj0, hy0, hy1, hy2⟩ := info_parts Tryz.infoP3
  unfold tmV
  have HP : Hid _ := And.intro hn hp
  have hml : 0 + t.names.length ≤ maxLen := by unfold maxLen; omega
  have hby : (0 + t.names.length) * 8 ≤ 140737488355328 := by omega
  have hml2 : 0 + t.pairs.length ≤ maxLen := by unfold maxLen; omega
  have hby2 : (0 + t.pairs.length) * 16 ≤ 140737488355328 := by omega
  clear hn hp
  go_enter Tryz.func78, Tryz.ntmps78
  go_wp2_with (first | (at_builtin; refine wpList_append_own_at _ rfl _ _ 29 rfl (twW t (.slice (some an) t.names.length cn) (.slice (some ap) t.pairs.length cp) w).heap.size 3 i0 (.int .i64 0) 1 8 Tryz.underlying29 hi0 hz0 hz1 hz2 rfl (by decide) (.slice none 0 0) 0 [] rfl (World.ownsRow_nil _ _ _ _) an t.names.length cn (iC t.names) rfl (iC_length _) ((HP.out.1.below (twW_below t (.slice (some an) t.names.length cn) (.slice (some ap) t.pairs.length cp) w)).news).2 (iC_one _) hml hby (Nat.le_refl _) ?_; intro v1 w1 hown1 hgrow1 hnil1 hat1; obtain ⟨ao1, cap1, rfl⟩ := row_shape (row0 hown1); have T1 : Tw1 w w1 t (.slice (some an) t.names.length cn) (.slice (some ap) t.pairs.length cp) _ := ⟨tgrown0 hgrow1, row0 hown1⟩; obtain ⟨x0, x1, x2, x3, x4, x5, xf⟩ := six6 T1.box; have H1 : Hid _ := T1; clear hown1 hgrow1 hnil1 hat1 T1) | (at_builtin; refine wpList_append_own_at _ rfl _ _ 33 rfl (twW t (.slice (some an) t.names.length cn) (.slice (some ap) t.pairs.length cp) w).heap.size 75 j0 (.agg #[.int .i64 0, .int .i64 0]) 2 16 Tryz.underlying33 hj0 hy0 hy1 hy2 rfl (by decide) (.slice none 0 0) 0 [] rfl (World.ownsRow_nil _ _ _ _) ap t.pairs.length cp (pC t.pairs) rfl (pC_length _) ((HP.out.2.below H1.out.bl4).news).2 (pC_one _) hml2 hby2 H1.out.le ?_; intro v2 w2 hown2 hgrow2 hnil2 hat2; obtain ⟨ao2, cap2, rfl⟩ := row_shape (row0 hown2); have T2 : Tw2 w w1 w2 t (.slice (some an) t.names.length cn) (.slice (some ap) t.pairs.length cp) _ _ := ⟨tgrown0 hgrow2, row0 hown2⟩; obtain ⟨z0, z1, z2, z3, z4, z5, zf⟩ := six6 (T2.box H1.out); obtain ⟨y0, y1, y2, y3, y4, y5, yf⟩ := six6 (T2.res H1.out); have H2 : Hid _ := T2; clear hown2 hgrow2 hnil2 hat2 T2))
  exact bodyPost_ret (v := tmV t (.slice ao1 t.names.length cap1) (.slice ao2 t.pairs.length cap2)) (by simp [results, Tryz.results78, go_sem, tmV, *]) rfl ⟨_, _, rfl, H2.out.fin H1.out⟩
set_option maxRecDepth 100000 in
set_option maxHeartbeats 1000000 in
theorem twin_ns (t : Tm) (ap : Addr) (cn cp : Nat) (w : World) (hn : HasI w (.slice none 0 cn) t.names) (hp : HasP w (.slice (some ap) t.pairs.length cp) t.pairs) (lp : t.pairs.length * 16 ≤ 140737488355328) :
    Calls Tryz.prog 78 #[tmV t (.slice none 0 cn) (.slice (some ap) t.pairs.length cp)] w fun r w' => ∃ v1 v2, r = .returned (tmV t v1 v2) ∧ Twin w w' t v1 v2 := by
  obtain ⟨j0, hj0, hy0, hy1, hy2⟩ := info_parts Tryz.infoP3
  have H1 : Hid _ := tw1_none t cn (.slice (some ap) t.pairs.length cp) w hn.none.1
  unfold tmV
  have HP : Hid _ := And.intro hn hp
  have hml2 : 0 + t.pairs.length ≤ maxLen := by unfold maxLen; omega
  have hby2 : (0 + t.pairs.length) * 16 ≤ 140737488355328 := by omega
  have hle : (twW t (.slice none 0 cn) (.slice (some ap) t.pairs.length cp) w).heap.size ≤ (twW t (.slice none 0 0) (.slice (some ap) t.pairs.length cp) w).heap.size := by rw [twW_size, twW_size]; exact Nat.le_refl _
  clear hn hp
  go_enter Tryz.func78, Tryz.ntmps78
  go_wp2_with (at_builtin; refine wpList_append_own_at _ rfl _ _ 33 rfl (twW t (.slice none 0 cn) (.slice (some ap) t.pairs.length cp) w).heap.size 75 j0 (.agg #[.int .i64 0, .int .i64 0]) 2 16 Tryz.underlying33 hj0 hy0 hy1 hy2 rfl (by decide) (.slice none 0 0) 0 [] rfl (World.ownsRow_nil _ _ _ _) ap t.pairs.length cp (pC t.pairs) rfl (pC_length _) ((HP.out.2.below (twW_below t (.slice none 0 0) (.slice (some ap) t.pairs.length cp) w)).news).2 (pC_one _) hml2 hby2 hle ?_; intro v2 w2 hown2 hgrow2 hnil2 hat2; obtain ⟨ao2, cap2, rfl⟩ := row_shape (row0 hown2); have T2 : Tw2 w (twW t (.slice none 0 cn) (.slice (some ap) t.pairs.length cp) w) w2 t (.slice none 0 cn) (.slice (some ap) t.pairs.length cp) (.slice none 0 0) _ := ⟨by rw [twW_set4]; exact tgrown0 hgrow2, row0 hown2⟩; obtain ⟨z0, z1, z2, z3, z4, z5, zf⟩ := six6 (T2.box H1.out); obtain ⟨y0, y1, y2, y3, y4, y5, yf⟩ := six6 (T2.res H1.out); have H2 : Hid _ := T2; clear hown2 hgrow2 hnil2 hat2 T2)
  exact bodyPost_ret (v := tmV t (.slice none 0 0) (.slice ao2 t.pairs.length cap2)) (by simp [results, Tryz.results78, go_sem, tmV, *]) rfl ⟨_, _, rfl, H2.out.fin H1.out⟩
set_option maxRecDepth 100000 in
set_option maxHeartbeats 1000000 in
theorem twin_sn (t : Tm) (an : Addr) (cn cp : Nat) (w : World) (hn : HasI w (.slice (some an) t.names.length cn) t.names) (hp : HasP w (.slice none 0 cp) t.pairs) (ln : t.names.length * 8 ≤ 140737488355328) :
    Calls Tryz.prog 78 #[tmV t (.slice (some an) t.names.length cn) (.slice none 0 cp)] w fun r w' => ∃ v1 v2, r = .returned (tmV t v1 v2) ∧ Twin w w' t v1 v2 := by
  obtain ⟨i0, hi0, hz0, hz1, hz2⟩ := info_parts Tryz.infoI3
  unfold tmV
  have HP : Hid _ := And.intro hn hp
  have hml : 0 + t.names.length ≤ maxLen := by unfold maxLen; omega
  have hby : (0 + t.names.length) * 8 ≤ 140737488355328 := by omega
  clear hn hp
  go_enter Tryz.func78, Tryz.ntmps78
  go_wp2_with (at_builtin; refine wpList_append_own_at _ rfl _ _ 29 rfl (twW t (.slice (some an) t.names.length cn) (.slice none 0 cp) w).heap.size 3 i0 (.int .i64 0) 1 8 Tryz.underlying29 hi0 hz0 hz1 hz2 rfl (by decide) (.slice none 0 0) 0 [] rfl (World.ownsRow_nil _ _ _ _) an t.names.length cn (iC t.names) rfl (iC_length _) ((HP.out.1.below (twW_below t (.slice (some an) t.names.length cn) (.slice none 0 cp) w)).news).2 (iC_one _) hml hby (Nat.le_refl _) ?_; intro v1 w1 hown1 hgrow1 hnil1 hat1; obtain ⟨ao1, cap1, rfl⟩ := row_shape (row0 hown1); have T1 : Tw1 w w1 t (.slice (some an) t.names.length cn) (.slice none 0 cp) _ := ⟨tgrown0 hgrow1, row0 hown1⟩; obtain ⟨x0, x1, x2, x3, x4, x5, xf⟩ := six6 T1.box; obtain ⟨y0, y1, y2, y3, y4, y5, yf⟩ := six6 T1.res; have H1 : Hid _ := T1; clear hown1 hgrow1 hnil1 hat1 T1)
  exact bodyPost_ret (v := tmV t (.slice ao1 t.names.length cap1) (.slice none 0 0)) (by simp [results, Tryz.results78, go_sem, tmV, *]) rfl ⟨_, _, rfl, (tw2_none HP.out.2.none.1).fin H1.out⟩
set_option maxRecDepth 100000 in
set_option maxHeartbeats 1000000 in
theorem twin_nn (t : Tm) (cn cp : Nat) (w : World) (hn : HasI w (.slice none 0 cn) t.names) (hp : HasP w (.slice none 0 cp) t.pairs) :
    Calls Tryz.prog 78 #[tmV t (.slice none 0 cn) (.slice none 0 cp)] w fun r w' => ∃ v1 v2, r = .returned (tmV t v1 v2) ∧ Twin w w' t v1 v2 := by
  have hN := hn.none.1
  have hP := hp.none.1
  unfold tmV
  have HP : Hid _ := And.intro hN hP
  clear hn hp hN hP
  go_enter Tryz.func78, Tryz.ntmps78
  go_wp2
  refine bodyPost_ret (v := tmV t (.slice none 0 0) (.slice none 0 0)) (by simp [results, Tryz.results78, go_sem, tmV]) rfl ⟨_, _, rfl, ?_, ?_, (by repeat (first | exact Below.refl _ _ | assumption | refine Below.drew ?_ | refine Below.setCell ?_ (by simp) _ | refine Below.alloc ?_ (by simp) _))⟩
  · unfold OwnI; rw [HP.out.1]; exact World.ownsRow_nil _ _ _ _
  · unfold OwnP; rw [HP.out.2]; exact World.ownsRow_nil _ _ _ _
theorem twin_any (t : Tm) (vn vp : Value) (w : World) (hn : HasI w vn t.names) (hp : HasP w vp t.pairs) (ln : t.names.length * 8 ≤ 140737488355328) (lp : t.pairs.length * 16 ≤ 140737488355328) :
    Calls Tryz.prog 78 #[tmV t vn vp] w fun r w' => ∃ v1 v2, r = .returned (tmV t v1 v2) ∧ Twin w w' t v1 v2 := by
  obtain ⟨an, cn, rfl, hcn⟩ := id hn
  obtain ⟨ap, cp, rfl, hcp⟩ := id hp
  cases an with
  | none =>
    have e1 := hn.none.2
    rw [e1] at hn ⊢
    cases ap with
    | none =>
      have e2 := hp.none.2
      rw [e2] at hp ⊢
      exact twin_nn t cn cp w hn hp
    | some ap => exact twin_ns t ap cn cp w hn hp lp
  | some an =>
    cases ap with
    | none =>
      have e2 := hp.none.2
      rw [e2] at hp ⊢
      exact twin_sn t an cn cp w hn hp ln
    | some ap => exact twin_ss t an ap cn cp w hn hp ln lp
end Go.Proofs.YthnenpncajpibaaGreatDoor
/- Stores in memory: the key's law, what a map of keys tells, what a store holds, what of it stays. -/
namespace Go.Proofs.YthnenpncajpibaaGreatDoor
open Go.RowKit Go.Maps
theorem Tryz.laidOut0 : laidOutB Tryz.prog = true := by kernel_rfl
theorem Tryz.rowKey : (115 : TypeId) < Tryz.prog.types.size := of_decide_eq_true (by kernel_rfl)
theorem Tryz.wideKey : (match Tryz.prog.underlying 115 with | some (.array _ _) | some (.struct _) => true | _ => false) = true := by kernel_rfl
set_option maxRecDepth 100000 in
theorem Tryz.lawK : Keyed Tryz.prog 115 := Keyed.of_law (deep_law_laid Tryz.laidOut0 (m := 3) (by omega) Tryz.rowKey (by kernel_rfl) Tryz.wideKey)
def tkey (t : Tm) : Lit := .string (keyBytes [.int .i64 t.kind, .int .i64 t.label, .int .i64 t.a, .int .i64 t.b, .string t.lists])
/-- The fields fit. -/
structure Tm.Fits (t : Tm) : Prop where
  k : (Lit.int .i64 t.kind).wf = true
  l : (Lit.int .i64 t.label).wf = true
  a : (Lit.int .i64 t.a).wf = true
  b : (Lit.int .i64 t.b).wf = true
  len : t.lists.length ≤ maxLen
theorem Tryz.cellsKey : Tryz.prog.cellsOf 115 = 5 := by kernel_rfl
theorem Tryz.cellsInt : Tryz.prog.cellsOf 3 = 1 := by kernel_rfl
theorem Tryz.cellsStr : Tryz.prog.cellsOf 9 = 1 := by kernel_rfl
theorem Tryz.keyTypeK : Tryz.prog.keyType 115 = true := by kernel_rfl
theorem Tryz.sizeT : ∃ m, Tryz.prog.types.size = m + 1 := ⟨_, (by kernel_rfl : Tryz.prog.types.size = 237)⟩
set_option maxRecDepth 100000 in
theorem keyOf_keyV (t : Tm) (h : t.Fits) : keyOf Tryz.prog 115 (keyV t) = some (tkey t) := by
  obtain ⟨m, hm⟩ := Tryz.sizeT
  have hsz : (⟨t.lists.toArray⟩ : ByteArray).size ≤ maxLen := by
    have := h.len
    simpa [ByteArray.size] using this
  have hform : (keyV t).formed Tryz.prog 115 = true := by simp [keyV, Value.formed, Tryz.underlying115, Tryz.cellsKey]
  unfold keyOf
  rw [Tryz.underlying115]
  simp only [Tryz.keyTypeK, hform, Bool.and_self, if_true]
  rw [hm]
  simp [Program.keyLits, Tryz.underlying115, Tryz.underlying3, Tryz.underlying9, Tryz.cellsKey, Tryz.cellsInt, Tryz.cellsStr, keyV, Value.cells, h.k, h.l, h.a, h.b, hsz, tkey]
/-- A term that may stand in a store: its key tells it. -/
structure Tm.Wf (t : Tm) : Prop where
  fits : t.Fits
  n : t.kind ≠ 5 → t.names = []
  p : t.kind ≠ 6 → t.pairs = []
  nb : ∀ z ∈ t.names, 0 ≤ z ∧ z ≤ 255
  pb : ∀ p ∈ t.pairs, (0 ≤ p.1 ∧ p.1 ≤ 255) ∧ (0 ≤ p.2 ∧ p.2 ≤ 255)
  nl : t.names.length ≤ 100
  pl : t.pairs.length ≤ 100
theorem byteOf_inj {x y : Int} (hx : 0 ≤ x ∧ x ≤ 255) (hy : 0 ≤ y ∧ y ≤ 255) (h : Tm.byteOf x = Tm.byteOf y) : x = y := by
  rw [← byteOf_toNat hx.1 hx.2, ← byteOf_toNat hy.1 hy.2, h]
theorem nB_inj : ∀ (l m : List Int), (∀ z ∈ l, 0 ≤ z ∧ z ≤ 255) → (∀ z ∈ m, 0 ≤ z ∧ z ≤ 255) → Tm.nB l = Tm.nB m → l = m
  | [], [], _, _, _ => rfl
  | [], y :: m, _, _, h => by simp [Tm.nB] at h
  | x :: l, [], _, _, h => by simp [Tm.nB] at h
  | x :: l, y :: m, h1, h2, h => by
    simp only [Tm.nB, List.map_cons, List.cons.injEq] at h
    rw [byteOf_inj (h1 x (by simp)) (h2 y (by simp)) h.1, nB_inj l m (fun z hz => h1 z (by simp [hz])) (fun z hz => h2 z (by simp [hz])) h.2]
theorem pB_inj : ∀ (l m : List (Int × Int)), (∀ p ∈ l, (0 ≤ p.1 ∧ p.1 ≤ 255) ∧ (0 ≤ p.2 ∧ p.2 ≤ 255)) → (∀ p ∈ m, (0 ≤ p.1 ∧ p.1 ≤ 255) ∧ (0 ≤ p.2 ∧ p.2 ≤ 255)) → Tm.pB l = Tm.pB m → l = m
  | [], [], _, _, _ => rfl
  | [], y :: m, _, _, h => by simp [Tm.pB] at h
  | x :: l, [], _, _, h => by simp [Tm.pB] at h
  | x :: l, y :: m, h1, h2, h => by
    simp only [Tm.pB, List.map_cons, List.flatten_cons, List.cons_append, List.nil_append, List.cons.injEq] at h
    have e1 := byteOf_inj (h1 x (by simp)).1 (h2 y (by simp)).1 h.1
    have e2 := byteOf_inj (h1 x (by simp)).2 (h2 y (by simp)).2 h.2.1
    have e3 := pB_inj l m (fun z hz => h1 z (by simp [hz])) (fun z hz => h2 z (by simp [hz])) h.2.2
    obtain ⟨x1, x2⟩ := x
    obtain ⟨y1, y2⟩ := y
    simp only at e1 e2
    rw [e1, e2, e3]
theorem tkey_inj {s t : Tm} (hs : s.Wf) (ht : t.Wf) (h : tkey s = tkey t) : s = t := by
  have h1 := keyOf_keyV s hs.fits
  have h2 := keyOf_keyV t ht.fits
  rw [← h] at h2
  have h3 := Tryz.lawK.inj h1 h2
  unfold keyV at h3
  simp only [Value.agg.injEq, Array.mk.injEq, List.cons.injEq, Value.int.injEq, true_and, Value.string.injEq, ByteArray.mk.injEq, and_true] at h3
  obtain ⟨hk, hl, ha, hb, hx⟩ := h3
  have hx' : s.lists = t.lists := by simpa using hx
  rw [Tm.lists_eq, Tm.lists_eq] at hx'
  obtain ⟨k, l, a, b, ns, ps⟩ := s
  obtain ⟨k', l', a', b', ns', ps'⟩ := t
  simp only at hk hl ha hb hx'
  subst hk; subst hl; subst ha; subst hb
  have w1 := hs.n; have w2 := ht.n; have w3 := hs.p; have w4 := ht.p
  simp only at w1 w2 w3 w4
  by_cases h5 : k = 5
  · have e1 := w3 (by omega)
    have e2 := w4 (by omega)
    subst e1; subst e2
    simp only [Tm.pB, List.map_nil, List.flatten_nil, List.append_nil] at hx'
    have e : ns = ns' := nB_inj _ _ hs.nb ht.nb hx'
    rw [e]
  · have e1 := w1 h5
    have e2 := w2 h5
    subst e1; subst e2
    simp only [Tm.nB, List.map_nil, List.nil_append] at hx'
    have e : ps = ps' := pB_inj _ _ hs.pb ht.pb hx'
    rw [e]
theorem rising_all : ∀ (zs : List Int) (last : Int), -1 ≤ last → Ac.rising last zs = true → (∀ z ∈ zs, 0 ≤ z ∧ z < 100) ∧ (zs = [] ∨ last + zs.length ≤ 99)
  | [], _, _, _ => ⟨fun z hz => by simp at hz, .inl rfl⟩
  | z :: r, last, hl, h => by
    unfold Ac.rising at h
    split at h
    · cases h
    · rename_i hc
      have hz : 0 ≤ z ∧ z < 100 := by
        have : ¬ Ac.isN z = false := fun e => hc (.inr e)
        simpa [Ac.isN] using this
      have hlt : last < z := by
        have : ¬ z ≤ last := fun e => hc (.inl e)
        omega
      obtain ⟨i1, i2⟩ := rising_all r z (by omega) h
      refine ⟨fun y hy => ?_, .inr ?_⟩
      · rcases List.mem_cons.1 hy with rfl | hy
        · exact hz
        · exact i1 y hy
      · rcases i2 with rfl | i2
        · simp; omega
        · simp; omega
theorem pairs_all : ∀ (ps : List (Int × Int)) (last : Int), -1 ≤ last → Ac.pairs last ps = true → (∀ p ∈ ps, (0 ≤ p.1 ∧ p.1 < 100) ∧ (0 ≤ p.2 ∧ p.2 < 100)) ∧ (ps = [] ∨ last + ps.length ≤ 99)
  | [], _, _, _ => ⟨fun z hz => by simp at hz, .inl rfl⟩
  | p :: r, last, hl, h => by
    unfold Ac.pairs at h
    split at h
    · cases h
    · rename_i hc
      have hz : 0 ≤ p.1 ∧ p.1 < 100 := by
        have : ¬ Ac.isN p.1 = false := fun e => hc (.inr (.inl e))
        simpa [Ac.isN] using this
      have hy : 0 ≤ p.2 ∧ p.2 < 100 := by
        have : ¬ Ac.isN p.2 = false := fun e => hc (.inr (.inr e))
        simpa [Ac.isN] using this
      have hlt : last < p.1 := by
        have : ¬ p.1 ≤ last := fun e => hc (.inl e)
        omega
      obtain ⟨i1, i2⟩ := pairs_all r p.1 (by omega) h
      refine ⟨fun y hy => ?_, .inr ?_⟩
      · rcases List.mem_cons.1 hy with rfl | hy
        · exact ⟨hz, by assumption⟩
        · exact i1 y hy
      · rcases i2 with rfl | i2
        · simp; omega
        · simp; omega
theorem wf64 {z : Int} (h0 : -1000000000 ≤ z) (h1 : z ≤ 1000000000) : (Lit.int .i64 z).wf = true := WalkArith.wf_i64 (by omega)
theorem has_iff {n : Nat} {i : Int} : Tm.has n i = true ↔ 0 ≤ i ∧ i < (n : Int) := by simp [Tm.has]
/-- What may be put is told by its key. -/
theorem may_wf {n : Nat} {t : Tm} (hn : n ≤ 1000000) (h : t.may n = true) : t.Wf := by
  obtain ⟨k, l, a, b, ns, ps⟩ := t
  have h' := h
  simp only [Tm.may, Bool.and_eq_true] at h'
  obtain ⟨hr, hz⟩ := h'
  simp only [Tm.rest, Bool.and_eq_true, Bool.or_eq_true, beq_iff_eq, bne_iff_ne, List.length_eq_zero_iff] at hz
  obtain ⟨⟨⟨⟨z1, z2⟩, z3⟩, z4⟩, z5⟩ := hz
  unfold Tm.right at hr
  simp only at hr
  have core : (1 ≤ k ∧ k ≤ 7) ∧ (0 ≤ l ∧ l ≤ 1000) ∧ (0 ≤ a ∧ a ≤ 1000000) ∧ (0 ≤ b ∧ b ≤ 1000000) ∧ (k = 5 → Ac.rising (-1) ns = true) ∧ (k = 6 → Ac.pairs (-1) ps = true) := by
    split at hr
    · rename_i hk; subst hk
      simp at z1 z2 z3
      refine ⟨?_, ?_, ?_, ?_, ?_, ?_⟩ <;> omega
    split at hr
    · rename_i hk; subst hk
      simp at z3
      simp only [Bool.and_eq_true, decide_eq_true_eq, has_iff] at hr
      refine ⟨?_, ?_, ?_, ?_, ?_, ?_⟩ <;> omega
    split at hr
    · rename_i hk
      simp only [Bool.and_eq_true, has_iff] at hr
      refine ⟨?_, ?_, ?_, ?_, ?_, ?_⟩ <;> omega
    split at hr
    · rename_i hk; subst hk
      simp at z1 z3
      simp only [Bool.and_eq_true, has_iff] at hr
      exact ⟨by omega, by omega, by omega, by omega, fun _ => hr.2, fun h => by omega⟩
    split at hr
    · rename_i hk; subst hk
      simp at z1 z3
      simp only [Bool.and_eq_true, has_iff] at hr
      exact ⟨by omega, by omega, by omega, by omega, fun h => by omega, fun _ => hr.2⟩
    split at hr
    · rename_i hk; subst hk
      simp at z1 z3
      simp only [decide_eq_true_eq] at hr
      refine ⟨?_, ?_, ?_, ?_, ?_, ?_⟩ <;> omega
    · cases hr
  obtain ⟨c1, c2, c3, c4, c5, c6⟩ := core
  have hns : (∀ z ∈ ns, 0 ≤ z ∧ z ≤ 255) ∧ ns.length ≤ 100 := by
    rcases z4 with hk | e
    · obtain ⟨i1, i2⟩ := rising_all ns (-1) (by omega) (c5 hk)
      refine ⟨fun z hz => by have := i1 z hz; omega, ?_⟩
      rcases i2 with rfl | i2
      · simp
      · omega
    · subst e; exact ⟨fun z hz => by simp at hz, by simp⟩
  have hps : (∀ p ∈ ps, (0 ≤ p.1 ∧ p.1 ≤ 255) ∧ (0 ≤ p.2 ∧ p.2 ≤ 255)) ∧ ps.length ≤ 100 := by
    rcases z5 with hk | e
    · obtain ⟨i1, i2⟩ := pairs_all ps (-1) (by omega) (c6 hk)
      refine ⟨fun z hz => by have := i1 z hz; omega, ?_⟩
      rcases i2 with rfl | i2
      · simp
      · omega
    · subst e; exact ⟨fun z hz => by simp at hz, by simp⟩
  refine ⟨⟨wf64 ?_ ?_, wf64 ?_ ?_, wf64 ?_ ?_, wf64 ?_ ?_, ?_⟩, fun hk => ?_, fun hk => ?_, hns.1, hps.1, hns.2, hps.2⟩
  any_goals (simp only; omega)
  · rw [Tm.lists_eq, List.length_append, Tm.nB_length, Tm.pB_length]
    have := hns.2; have := hps.2
    simp only; unfold maxLen; omega
  · exact z4.resolve_left hk
  · exact z5.resolve_left hk
end Go.Proofs.YthnenpncajpibaaGreatDoor
/- What a store holds in memory, and what of it stays. -/
namespace Go.Proofs.YthnenpncajpibaaGreatDoor
open Go.RowKit Go.Maps
/-- All blocks but those of F stand. -/
structure Kept (F : Nat → Prop) (w w' : World) : Prop where
  os : w'.os = w.os
  tape : w'.tape = w.tape
  output : w'.output = w.output
  size : w.heap.size ≤ w'.heap.size
  block : ∀ k, k < w.heap.size → ¬ F k → w'.heap[k]? = w.heap[k]?
theorem Kept.refl (F : Nat → Prop) (w : World) : Kept F w w := ⟨rfl, rfl, rfl, Nat.le_refl _, fun _ _ _ => rfl⟩
theorem Kept.trans {F : Nat → Prop} {a b c : World} (h : Kept F a b) (k : Kept F b c) : Kept F a c :=
  ⟨k.os.trans h.os, k.tape.trans h.tape, k.output.trans h.output, Nat.le_trans h.size k.size, fun i hi hf => (k.block i (Nat.lt_of_lt_of_le hi h.size) hf).trans (h.block i hi hf)⟩
theorem Kept.mono {F G : Nat → Prop} {a b : World} (h : Kept F a b) (hs : ∀ k, k < a.heap.size → F k → G k) : Kept G a b := ⟨h.os, h.tape, h.output, h.size, fun i hi hg => h.block i hi fun hf => hg (hs i hi hf)⟩
theorem Kept.of_below {F : Nat → Prop} {a b : World} (h : Below a.heap.size a b) : Kept F a b := ⟨h.os, h.tape, h.output, h.size, fun i hi _ => h.block i hi⟩
theorem Kept.of_grown {a b : World} {row : Option Nat} (h : a.grownBy b row) : Kept (fun i => row = some i) a b := ⟨h.os, h.tape, h.output, h.size, fun i hi hn => h.block i hi fun e => hn e.symm⟩
theorem Kept.below {F : Nat → Prop} {a b : World} (h : Kept F a b) {B : Nat} (hB : B ≤ a.heap.size) (hF : ∀ k, F k → B ≤ k) : Below B a b := ⟨h.os, h.tape, h.output, h.size, fun i hi => h.block i (by omega) fun hf => by have := hF i hf; omega⟩
theorem Kept.setCell (a : World) (b o : Nat) (u : Value) : Kept (fun i => i = b) a (a.setCell ⟨b, o, none⟩ u) := by
  have h : Below b a (a.setCell ⟨b, o, none⟩ u) := Below.setCell (Below.refl b a) (Nat.le_refl _) u
  exact ⟨h.os, h.tape, h.output, h.size, fun i _ hn => set_other _ _ _ _ _ hn⟩
/-- The map tells each term's place. -/
structure MapOf3 (D : DataW Unit) (L : List Tm) : Prop where
  yes : ∀ (i : Nat) (t : Tm), L[i]? = some t → Maps.has D (tkey t) = true ∧ D.atKey (tkey t) (.lit (.int .i64 0)) = .lit (.int .i64 i)
  no : ∀ t : Tm, t.Wf → t ∉ L → Maps.has D (tkey t) = false
theorem tkey_key (t : Tm) : WideAt.IsKeyLit (tkey t) := by unfold tkey; exact trivial
theorem MapOf3.nil : MapOf3 (.map []) [] := ⟨fun i s h => by simp at h, fun s _ _ => rfl⟩
theorem MapOf3.snoc {D : DataW Unit} {L : List Tm} (h : MapOf3 D L) (hD : IsMap D) (hL : ∀ t ∈ L, t.Wf) (t : Tm) (ht : t.Wf) (hn : t ∉ L) : MapOf3 (D.put (tkey t) (.lit (.int .i64 L.length))) (L ++ [t]) := by
  refine ⟨fun i s hs => ?_, fun s hw hs => ?_⟩
  · rcases Nat.lt_or_ge i L.length with hi | hi
    · rw [List.getElem?_append_left hi] at hs
      have hm := List.mem_of_getElem? hs
      have hne : tkey s ≠ tkey t := fun e => hn (tkey_inj (hL s hm) ht e ▸ hm)
      rw [has_put_other hne, atKey_put_other hne]
      exact h.yes i s hs
    · rw [List.getElem?_append_right hi] at hs
      have hi0 : i - L.length = 0 := by
        have := (List.getElem?_eq_some_iff.1 hs).1
        simp at this; omega
      rw [hi0] at hs
      simp at hs
      subst hs
      have : i = L.length := by omega
      subst this
      exact ⟨has_put_same hD (tkey_key _) _, atKey_put_same hD (tkey_key _) _ _⟩
  · have hne : tkey s ≠ tkey t := fun e => hs (by rw [tkey_inj hw ht e]; simp)
    rw [has_put_other hne]
    exact h.no s hw fun hm => hs (by simp [hm])
theorem MapOf3.nodup {D : DataW Unit} {L : List Tm} (h : MapOf3 D L) {i j : Nat} {s : Tm} (hi : L[i]? = some s) (hj : L[j]? = some s) : i = j := by
  have h1 := (h.yes i s hi).2
  rw [(h.yes j s hj).2] at h1
  injection h1 with h1
  injection h1 with _ h1
  omega
/-- The store's map: none yet, or one that tells the terms' places. -/
def MapIn3 (w : World) (vm : Value) (L : List Tm) : Prop := (vm = .map none ∧ L = []) ∨ ∃ bm D, vm = .map (some bm) ∧ w.ownsMap (H := Unit) Tryz.prog 115 (plainElem Tryz.prog 3) bm L.length D ∧ MapOf3 D L
/-- The cells of the terms, one behind the other. -/
def rowC : List Tm → List (Value × Value) → List Value
  | t :: L, v :: vs => tmC t v.1 v.2 ++ rowC L vs
  | _, _ => []
theorem rowC_snoc : ∀ (L : List Tm) (vs : List (Value × Value)), vs.length = L.length → ∀ (t : Tm) (v : Value × Value), rowC (L ++ [t]) (vs ++ [v]) = rowC L vs ++ tmC t v.1 v.2
  | [], [], _, t, v => by simp [rowC]
  | [], _ :: _, h, _, _ => by simp at h
  | _ :: _, [], h, _, _ => by simp at h
  | s :: L, u :: vs, h, t, v => by
    simp only [List.cons_append, rowC, List.append_assoc]
    rw [rowC_snoc L vs (by simpa using h) t v]
theorem rowC_at : ∀ (L : List Tm) (vs : List (Value × Value)), vs.length = L.length → ∀ (i : Nat) (t : Tm) (v : Value × Value), L[i]? = some t → vs[i]? = some v → ∀ k, k < 6 → (rowC L vs)[i * 6 + k]? = (tmC t v.1 v.2)[k]?
  | [], _, _, _, _, _, h, _, _, _ => by simp at h
  | _ :: _, [], h, _, _, _, _, _, _, _ => by simp at h
  | s :: L, u :: vs, h, i, t, v, h1, h2, k, hk => by
    have hl : (tmC s u.1 u.2).length = 6 := rfl
    cases i with
    | zero =>
      simp at h1 h2
      subst h1; subst h2
      rw [rowC, Nat.zero_mul, Nat.zero_add, List.getElem?_append_left (by omega)]
    | succ i =>
      rw [rowC, List.getElem?_append_right (by omega), ← rowC_at L vs (by simpa using h) i t v (by simpa using h1) (by simpa using h2) k hk]
      congr 1
      omega
/-- A store in block b: its terms, its map, the lists of each term. -/
structure Sto (w : World) (b : Nat) (vt vm : Value) (L : List Tm) (vs : List (Value × Value)) : Prop where
  cell : w.heap[b]? = some (.cells #[vt, vm] 71 (0, 0))
  row : w.ownsRow 0 35 6 vt L.length (rowC L vs)
  map : MapIn3 w vm L
  len : vs.length = L.length
  lists : ∀ (i : Nat) (t : Tm) (v : Value × Value), L[i]? = some t → vs[i]? = some v → OwnI w 0 v.1 t.names ∧ OwnP w 0 v.2 t.pairs
  wf : ∀ t ∈ L, t.Wf
  big : L.length ≤ 100000
/-- The blocks of a store. -/
def Foot3 (b : Nat) (vt vm : Value) (vs : List (Value × Value)) (i : Nat) : Prop := i = b ∨ vt.ownBlock = some i ∨ vm = .map (some i) ∨ ∃ v ∈ vs, v.1.ownBlock = some i ∨ v.2.ownBlock = some i
theorem Sto.list_at {w : World} {b : Nat} {vt vm : Value} {L : List Tm} {vs : List (Value × Value)} (h : Sto w b vt vm L vs) {v : Value × Value} (hv : v ∈ vs) : ∃ t ∈ L, OwnI w 0 v.1 t.names ∧ OwnP w 0 v.2 t.pairs := by
  obtain ⟨i, hi, rfl⟩ := List.getElem_of_mem hv
  have hl : i < L.length := by rw [← h.len]; exact hi
  exact ⟨L[i], List.getElem_mem hl, h.lists i _ _ (List.getElem?_eq_getElem hl) (List.getElem?_eq_getElem hi)⟩
theorem Sto.foot_lt {w : World} {b : Nat} {vt vm : Value} {L : List Tm} {vs : List (Value × Value)} (h : Sto w b vt vm L vs) {i : Nat} (hi : Foot3 b vt vm vs i) : i < w.heap.size := by
  rcases hi with rfl | hi | hi | ⟨v, hv, hi | hi⟩
  · exact t_lt h.cell
  · exact (h.row.lt i hi).2
  · rcases h.map with ⟨rfl, _⟩ | ⟨bm, D, rfl, ho, _⟩
    · cases hi
    · injection hi with hi
      injection hi with hi
      exact hi ▸ ho.lt
  · obtain ⟨t, _, h1, _⟩ := h.list_at hv
    exact (h1.lt i hi).2
  · obtain ⟨t, _, _, h1⟩ := h.list_at hv
    exact (h1.lt i hi).2
theorem map_at {w w' : World} {k : TypeId} {R : Value → Option (DataW Unit × List MemPlace)} {b n : Nat} {D : DataW Unit} (h : w.ownsMap Tryz.prog k R b n D) (hb : w'.heap[b]? = w.heap[b]?) : w'.ownsMap Tryz.prog k R b n D := by
  obtain ⟨es, clock, h1, h2⟩ := h
  exact ⟨es, clock, hb.trans h1, h2⟩
theorem MapIn3.at {w w' : World} {vm : Value} {L : List Tm} (h : MapIn3 w vm L) (hb : ∀ i, vm = .map (some i) → w'.heap[i]? = w.heap[i]?) : MapIn3 w' vm L := by
  rcases h with h | ⟨bm, D, rfl, ho, hm⟩
  · exact .inl h
  · exact .inr ⟨bm, D, rfl, map_at ho (hb bm rfl), hm⟩
/-- A store stays where its blocks do. -/
theorem Sto.at {w w' : World} {b : Nat} {vt vm : Value} {L : List Tm} {vs : List (Value × Value)} (h : Sto w b vt vm L vs) (hb : ∀ i, Foot3 b vt vm vs i → w'.heap[i]? = w.heap[i]?) : Sto w' b vt vm L vs :=
  ⟨by rw [hb b (.inl rfl)]; exact h.cell, trow_at h.row fun i hi => hb i (.inr (.inl hi)), h.map.at fun i hi => hb i (.inr (.inr (.inl hi))), h.len,
    fun i t v h1 h2 => ⟨trow_at (h.lists i t v h1 h2).1 fun k hk => hb k (.inr (.inr (.inr ⟨v, List.mem_of_getElem? h2, .inl hk⟩))), trow_at (h.lists i t v h1 h2).2 fun k hk => hb k (.inr (.inr (.inr ⟨v, List.mem_of_getElem? h2, .inr hk⟩)))⟩, h.wf, h.big⟩
theorem Sto.below {w w' : World} {b : Nat} {vt vm : Value} {L : List Tm} {vs : List (Value × Value)} (h : Sto w b vt vm L vs) (hb : Below w.heap.size w w') : Sto w' b vt vm L vs := h.at fun i hi => hb.block i (h.foot_lt hi)
theorem Sto.kept {w w' : World} {b : Nat} {vt vm : Value} {L : List Tm} {vs : List (Value × Value)} {F : Nat → Prop} (h : Sto w b vt vm L vs) (hk : Kept F w w') (hF : ∀ i, Foot3 b vt vm vs i → ¬ F i) : Sto w' b vt vm L vs := h.at fun i hi => hk.block i (h.foot_lt hi) (hF i hi)
/-- Blocks of unlike types are unlike. -/
theorem cells_ne {w : World} {i j : Nat} {c c' : Array Value} {s t : TypeId} {f f' : Nat × Nat} (hi : w.heap[i]? = some (.cells c s f)) (hj : w.heap[j]? = some (.cells c' t f')) (hne : s ≠ t) : i ≠ j := by
  rintro rfl
  rw [hi] at hj
  injection hj with hj
  injection hj with _ h2
  exact hne h2
theorem map_ne {w : World} {i b : Nat} {c : Array Value} {s : TypeId} {f : Nat × Nat} {k : TypeId} {R : Value → Option (DataW Unit × List MemPlace)} {n : Nat} {D : DataW Unit} (hi : w.heap[i]? = some (.cells c s f)) (h : w.ownsMap Tryz.prog k R b n D) : i ≠ b := by
  rintro rfl
  obtain ⟨es, clock, h1, _⟩ := h
  rw [hi] at h1
  cases h1
theorem row_cells {w : World} {base : Nat} {e : TypeId} {size : Nat} {v : Value} {n : Nat} {xs : List Value} (h : w.ownsRow base e size v n xs) {i : Nat} (hi : v.ownBlock = some i) : ∃ c, w.heap[i]? = some (.cells c e (0, 0)) := by
  rcases h.2 with ⟨rfl, _⟩ | ⟨g, cap, cur, rfl, _, hg, _⟩
  · cases hi
  · simp only [Value.ownBlock, Option.some.injEq] at hi
    exact ⟨cur, hi ▸ hg⟩
end Go.Proofs.YthnenpncajpibaaGreatDoor
