/- What the statement TermBack keeps: the list that came in, a store of its own, the numbers that were told. -/
import Derived.Test.YthnenpncajpibaaGreatDoorTmSameT
import Derived.Test.YthnenpncajpibaaGreatDoorTmAlive
import Derived.Laws.MakeOwn
namespace Go.Proofs.YthnenpncajpibaaGreatDoor
open Go.RowKit Go.Maps
/-- A term as six cells. -/
structure Row6 (w : World) (g o : Nat) (t : Tm) (vn vp : Value) : Prop where
  x0 : w.cell? ⟨g, o, none⟩ = some (.int .i64 t.kind)
  x1 : w.cell? ⟨g, o + 1, none⟩ = some (.int .i64 t.label)
  x2 : w.cell? ⟨g, o + 2, none⟩ = some (.int .i64 t.a)
  x3 : w.cell? ⟨g, o + 3, none⟩ = some (.int .i64 t.b)
  x4 : w.cell? ⟨g, o + 4, none⟩ = some vn
  x5 : w.cell? ⟨g, o + 5, none⟩ = some vp
theorem Row6.below {w w' : World} {g o : Nat} {t : Tm} {vn vp : Value} (h : Row6 w g o t vn vp) (hb : Below w.heap.size w w') : Row6 w' g o t vn vp :=
  ⟨cell_up h.x0 hb, cell_up h.x1 hb, cell_up h.x2 hb, cell_up h.x3 hb, cell_up h.x4 hb, cell_up h.x5 hb⟩
theorem Row6.lt {w : World} {g o : Nat} {t : Tm} {vn vp : Value} (h : Row6 w g o t vn vp) : g < w.heap.size := World.block_lt_of_cell? w _ h.x0
/-- A term of the list that came in. -/
structure OneT (w : World) (ao : Option Addr) (i : Nat) (t : Tm) (g o : Nat) (vn vp : Value) : Prop where
  ad : ao = some ⟨g, o, none⟩
  row : Row6 w g (o + i * 6) t vn vp
  n : HasI w vn t.names
  p : HasP w vp t.pairs
  nl : t.names.length ≤ maxLen
  pl : t.pairs.length ≤ maxLen
theorem OneT.below {w w' : World} {ao : Option Addr} {i : Nat} {t : Tm} {g o : Nat} {vn vp : Value} (h : OneT w ao i t g o vn vp) (hb : Below w.heap.size w w') : OneT w' ao i t g o vn vp :=
  ⟨h.ad, h.row.below hb, h.n.below hb, h.p.below hb, h.nl, h.pl⟩
/-- The value is a list of these terms. -/
def HasT (w : World) (v : Value) (l : List Tm) : Prop := ∃ ao cap, v = .slice ao l.length cap ∧ ∀ (i : Nat) (t : Tm), l[i]? = some t → ∃ g o vn vp, OneT w ao i t g o vn vp
/-- What came in is apart from a store of the call's own. -/
theorem OneT.hand {w0 w : World} {ao : Option Addr} {i : Nat} {t : Tm} {g o : Nat} {vn vp : Value} (h : OneT w0 ao i t g o vn vp) {F : Nat → Prop} (hF : ∀ i, F i → w0.heap.size ≤ i) (hb : Below w0.heap.size w0 w) : Hand w F t vn vp :=
  ⟨h.n.below hb, h.p.below hb, fun hz i hi hf => by have h1 := made_far h.n hz hi; have h2 := hF i hf; omega, fun hz i hi hf => by have h1 := made_farP h.p hz hi; have h2 := hF i hf; omega⟩
/-- The state of the loop. -/
structure Bk (w0 w : World) (b gi : Nat) (L : List Tm) (F : Nat → Prop) (xs : List Int) : Prop where
  s : StoB w b L F
  up : ∀ i, F i → w0.heap.size ≤ i
  good : Tm.Good L
  ids : ∃ cs, w.heap[gi]? = some (.cells cs 3 (0, 0)) ∧ cs.toList = iC xs
  gu : w0.heap.size ≤ gi
  gf : ¬ F gi
  bl : Below w0.heap.size w0 w
theorem Bk.lt {w0 w : World} {b gi : Nat} {L : List Tm} {F : Nat → Prop} {xs : List Int} (h : Bk w0 w b gi L F xs) : gi < w.heap.size := by
  obtain ⟨cs, hc, _⟩ := h.ids
  exact t_lt hc
theorem Bk.below {w0 w w' : World} {b gi : Nat} {L : List Tm} {F : Nat → Prop} {xs : List Int} (h : Bk w0 w b gi L F xs) (hb : Below w.heap.size w w') : Bk w0 w' b gi L F xs := by
  obtain ⟨cs, hc, hx⟩ := h.ids
  exact ⟨h.s.below hb, h.up, h.good, ⟨cs, (hb.block _ (t_lt hc)).trans hc, hx⟩, h.gu, h.gf, h.bl.trans (hb.mono h.bl.size)⟩
theorem Bk.put {w0 w w' : World} {b gi : Nat} {L : List Tm} {F F' : Nat → Prop} {xs : List Int} {t : Tm} (h : Bk w0 w b gi L F xs) (ht : t.may L.length = true) (h1 : StoB w' b (L ++ [t]) F') (h2 : Kept F w w') (h3 : ∀ i, F' i → F i ∨ w.heap.size ≤ i) : Bk w0 w' b gi (L ++ [t]) F' xs := by
  obtain ⟨cs, hc, hx⟩ := h.ids
  have hlt := t_lt hc
  refine ⟨h1, fun i hi => ?_, h.good.snoc ht, ⟨cs, (h2.block _ hlt h.gf).trans hc, hx⟩, h.gu, fun hf => ?_, h.bl.trans (h2.below h.bl.size h.up)⟩
  · rcases h3 i hi with e | e
    · exact h.up i e
    · have := h.bl.size; omega
  · rcases h3 gi hf with e | e
    · exact h.gf e
    · omega
theorem Bk.cell {w0 w : World} {b gi : Nat} {L : List Tm} {F : Nat → Prop} {xs : List Int} (h : Bk w0 w b gi L F xs) {i : Nat} {x : Int} (hi : xs[i]? = some x) : w.cell? ⟨gi, i, none⟩ = some (.int .i64 x) := by
  obtain ⟨cs, hc, hx⟩ := h.ids
  rw [tb_cell hc, ← Array.getElem?_toList, hx]
  simp [iC, hi]
theorem Bk.free {w0 w : World} {b gi : Nat} {L : List Tm} {F : Nat → Prop} {xs : List Int} (h : Bk w0 w b gi L F xs) (i : Nat) : w.frozen? ⟨gi, i, none⟩ = false := by
  obtain ⟨cs, hc, hx⟩ := h.ids
  exact blk_free hc i
theorem Bk.set {w0 w : World} {b gi : Nat} {L : List Tm} {F : Nat → Prop} {xs : List Int} (h : Bk w0 w b gi L F xs) (i : Nat) (x : Int) : Bk w0 (w.setCell ⟨gi, i, none⟩ (.int .i64 x)) b gi L F (xs.set i x) := by
  obtain ⟨cs, hc, hx⟩ := h.ids
  refine ⟨h.s.kept (Kept.setCell w gi i _) (fun k hk e => h.gf (e ▸ hk)), h.up, h.good, ⟨_, heap_setCell_same w gi i cs _ _ hc, ?_⟩, h.gu, h.gf, h.bl.setCell h.gu _⟩
  rw [Array.toList_setIfInBounds, hx]
  unfold iC
  rw [List.map_set]
/-- What is known of the numbers that were told. -/
def Told3 (L l : List Tm) (xs : List Int) (i : Nat) : Prop := ∀ (q : Nat) (t : Tm), q < i → l[q]? = some t → xs[q]? = some (-1) ∨ ∃ k : Nat, xs[q]? = some (k : Int) ∧ L[k]? = some t
theorem Told3.mono {L l : List Tm} {xs : List Int} {i : Nat} (h : Told3 L l xs i) (t : Tm) : Told3 (L ++ [t]) l xs i := fun q s hq hs => by
  rcases h q s hq hs with e | ⟨k, e1, e2⟩
  · exact .inl e
  · exact .inr ⟨k, e1, by rw [List.getElem?_append_left (List.getElem?_eq_some_iff.1 e2).1]; exact e2⟩
theorem Told3.set {L l : List Tm} {xs : List Int} {i : Nat} (h : Told3 L l xs i) (x : Int) : Told3 L l (xs.set i x) i := fun q s hq hs => by
  have e : (xs.set i x)[q]? = xs[q]? := by rw [List.getElem?_set_ne (by omega)]
  rw [e]
  exact h q s hq hs
theorem Told3.next {L l : List Tm} {xs : List Int} {i : Nat} (h : Told3 L l xs i) (hn : ∀ t, l[i]? = some t → xs[i]? = some (-1) ∨ ∃ k : Nat, xs[i]? = some (k : Int) ∧ L[k]? = some t) : Told3 L l xs (i + 1) := fun q s hq hs => by
  rcases Nat.lt_or_ge q i with e | e
  · exact h q s e hs
  · obtain rfl : q = i := by omega
    exact hn s hs
theorem set_at {xs : List Int} {i : Nat} (h : i < xs.length) (x : Int) : (xs.set i x)[i]? = some x := by
  rw [List.getElem?_set_self h]
/-- The cells of a new list of n noughts. -/
def madeI (n : Nat) : Array Value := madeCells (Value.int .i64 0).cells (n * 1)
theorem madeI_eq (n : Nat) : (madeI n).toList = iC (List.replicate n 0) := by
  apply List.ext_getElem
  · simp [madeI, madeCells, iC]
  · intro i h1 h2
    simp [madeI, madeCells, iC, Value.cells, Nat.mod_one]
theorem make_ints (n : Nat) (hn : n ≤ 100000) (w : World) : (Instr.makeSlice 29 (.int .i64 (n : Int)) (.int .i64 (n : Int))).run Tryz.prog w = .ok (.slice (some ⟨w.heap.size, 0, none⟩) n n) (w.alloc (.cells (madeI n) 3)) := by
  obtain ⟨i0, hi0, hz0, hz1, hz2⟩ := info_parts Tryz.infoI3
  have h := run_makeSlice (P := Tryz.prog) w 29 3 i0 (.int .i64 0) Tryz.underlying29 hi0 hz0 .i64 .i64 (n : Int) (n : Int) (by omega) (Int.le_refl _) (by rw [hz1]; omega) (by rw [hz2]; omega) (by omega)
  rw [h, hz1]
  simp [madeI]
theorem bk_start {w0 w : World} {b : Nat} {L : List Tm} {F : Nat → Prop} (n : Nat) (hs : StoB w b L F) (hu : ∀ i, F i → w0.heap.size ≤ i) (hg : Tm.Good L) (hb : Below w0.heap.size w0 w) : Bk w0 (w.alloc (.cells (madeI n) 3)) b w.heap.size L F (List.replicate n 0) := by
  have h1 : Below w.heap.size w (w.alloc (.cells (madeI n) 3)) := (Below.refl _ _).alloc (Nat.le_refl _) _
  exact ⟨hs.below h1, hu, hg, ⟨_, (MapKept.heap_alloc w _).1, madeI_eq n⟩, hb.size, fun hf => by have := hs.foot_lt hf; omega, hb.trans (h1.mono hb.size)⟩
/-- Put of a term that may be put, there already or new. -/
theorem put_ok (b : Nat) (L : List Tm) (F : Nat → Prop) (t : Tm) (vn vp : Value) (w : World) (hS : StoB w b L F) (hh : Hand w F t vn vp) (hmay : t.may L.length = true) (hlen : L.length < 100000) :
    Calls Tryz.prog 20 #[.pointer (some ⟨b, 0, none⟩), tmV t vn vp] w fun r w' => ∃ (k : Nat) (L' : List Tm) (F' : Nat → Prop), r = .returned (.tuple #[.int .i64 k, .nilIface]) ∧ L'[k]? = some t ∧ k ≤ L.length ∧ L'.length = max L.length (k + 1) ∧ (L' = L ∨ L' = L ++ [t]) ∧ StoB w' b L' F' ∧ Kept F w w' ∧ (∀ i, F' i → F i ∨ w.heap.size ≤ i) := by
  by_cases hin : t ∈ L
  · obtain ⟨k, hk, rfl⟩ := List.getElem_of_mem hin
    refine (put_old b L F _ vn vp w hS hh hmay k (List.getElem?_eq_getElem hk)).mono ?_
    rintro r w' ⟨rfl, hb⟩
    exact ⟨k, L, F, rfl, List.getElem?_eq_getElem hk, by omega, by omega, .inl rfl, hS.below hb, .of_below hb, fun i hi => .inl hi⟩
  · refine (put_new b L F t vn vp w hS hh hmay hin hlen).mono ?_
    rintro r w' ⟨rfl, F', h1, h2, h3⟩
    exact ⟨L.length, L ++ [t], F', rfl, by simp, Nat.le_refl _, by rw [List.length_append, List.length_singleton]; omega, .inr rfl, h1, h2, h3⟩
theorem Bk.putok {w0 w w' : World} {b gi : Nat} {L L' : List Tm} {F F' : Nat → Prop} {xs : List Int} {t : Tm} (h : Bk w0 w b gi L F xs) (ht : t.may L.length = true) (hL : L' = L ∨ L' = L ++ [t]) (h1 : StoB w' b L' F') (h2 : Kept F w w') (h3 : ∀ i, F' i → F i ∨ w.heap.size ≤ i) : Bk w0 w' b gi L' F' xs := by
  obtain ⟨cs, hc, hx⟩ := h.ids
  have hlt := t_lt hc
  refine ⟨h1, fun i hi => ?_, ?_, ⟨cs, (h2.block _ hlt h.gf).trans hc, hx⟩, h.gu, fun hf => ?_, h.bl.trans (h2.below h.bl.size h.up)⟩
  · rcases h3 i hi with e | e
    · exact h.up i e
    · have := h.bl.size; omega
  · rcases hL with rfl | rfl
    · exact h.good
    · exact h.good.snoc ht
  · rcases h3 gi hf with e | e
    · exact h.gf e
    · omega
theorem Told3.ok {L L' l : List Tm} {xs : List Int} {i : Nat} {t : Tm} (h : Told3 L l xs i) (hL : L' = L ∨ L' = L ++ [t]) : Told3 L' l xs i := by
  rcases hL with rfl | rfl
  · exact h
  · exact h.mono t
end Go.Proofs.YthnenpncajpibaaGreatDoor
