/- The book with lists of numbers alone: what it holds in memory. -/
import Derived.Test.YthnenpncajpibaaGreatDoorBookInts1
import Derived.Test.YthnenpncajpibaaGreatDoorBookApp
namespace Go.Proofs.YthnenpncajpibaaGreatDoor
open Go.RowKit Go.Maps
/-- The lists lie apart from each other, from the book and from its row. -/
structure Apt (bk : Nat) (vi : Value) (ls : List Value) : Prop where
  b : ∀ l ∈ ls, l.ownBlock ≠ some bk
  r : ∀ l ∈ ls, ∀ k, l.ownBlock = some k → vi.ownBlock ≠ some k
  rb : vi.ownBlock ≠ some bk
  p : ∀ (i j : Nat) (l m : Value), ls[i]? = some l → ls[j]? = some m → i ≠ j → ∀ k, l.ownBlock = some k → m.ownBlock ≠ some k
/-- The book: its lists of numbers; (The other kinds stand by themselves.) -/
structure Bp (w : World) (bk : Nat) (vi : Value) (ls : List Value) (zss : List (List Int)) : Prop where
  c0 : w.cell? ⟨bk, 0, none⟩ = some vi
  ri : w.ownsRow 0 29 1 vi zss.length ls
  li : ∀ (k : Nat) (l : Value) (zs : List Int), ls[k]? = some l → zss[k]? = some zs → OwnI w 0 l zs
  ap : Apt bk vi ls
  len : zss.length ≤ 400
  sz : ∀ zs ∈ zss, zs.length ≤ 1000000
theorem Bp.ll {w : World} {bk : Nat} {vi : Value} {ls : List Value} {zss : List (List Int)} (h : Bp w bk vi ls zss) : ls.length = zss.length := by
  have := h.ri.1
  rw [Nat.mul_one] at this
  exact this
theorem Bp.below {w w' : World} {bk : Nat} {vi : Value} {ls : List Value} {zss : List (List Int)} (h : Bp w bk vi ls zss) (hb : Below w.heap.size w w') : Bp w' bk vi ls zss :=
  ⟨cell_up h.c0 hb, trow_at h.ri fun i hi => hb.block i (h.ri.lt i hi).2, fun k l zs h1 h2 => trow_at (h.li k l zs h1 h2) fun i hi => hb.block i ((h.li k l zs h1 h2).lt i hi).2, h.ap, h.len, h.sz⟩
/-- A list of the book. -/
theorem Bp.at {w : World} {bk : Nat} {vi : Value} {ls : List Value} {zss : List (List Int)} (h : Bp w bk vi ls zss) {i : Nat} {zs : List Int} (hi : zss[i]? = some zs) : ∃ gi ci l, vi = .slice (some ⟨gi, 0, none⟩) zss.length ci ∧ ls[i]? = some l ∧ w.cell? ⟨gi, i, none⟩ = some l ∧ OwnI w 0 l zs := by
  have hlt := (List.getElem?_eq_some_iff.1 hi).1
  obtain ⟨gi, ci, hv, _, _⟩ := h.ri.form (by omega)
  obtain ⟨l, hl⟩ : ∃ l, ls[i]? = some l := ⟨ls[i]'(by rw [h.ll]; exact hlt), List.getElem?_eq_getElem _⟩
  refine ⟨gi, ci, l, hv, hl, ?_, h.li i l zs hl hi⟩
  have hr := h.ri
  rw [hv] at hr
  rw [hr.cellAt i (by omega), hl]
/-- One cell of one list is turned. -/
theorem Bp.set {w : World} {bk : Nat} {vi : Value} {ls : List Value} {zss : List (List Int)} (h : Bp w bk vi ls zss) {i : Nat} {zs : List Int} {g n c : Nat} (hi : zss[i]? = some zs) (hl : ls[i]? = some (.slice (some ⟨g, 0, none⟩) n c)) (k : Nat) (x : Int) : Bp (w.setCell ⟨g, k, none⟩ (.int .i64 x)) bk vi ls (zss.set i (zs.set k x)) := by
  have hlm := List.mem_of_getElem? hl
  have hbk : bk ≠ g := fun e => h.ap.b _ hlm (by rw [e]; rfl)
  have hcell : ∀ o, (w.setCell ⟨g, k, none⟩ (.int .i64 x)).cell? ⟨bk, o, none⟩ = w.cell? ⟨bk, o, none⟩ := fun o => World.cell?_of_block (set_other _ _ _ _ _ hbk)
  have hO := h.li i _ zs hl hi
  refine ⟨by rw [hcell]; exact h.c0, ?_, fun q l ys h1 h2 => ?_, h.ap, by rw [List.length_set]; exact h.len, fun ys hy => ?_⟩
  · rw [List.length_set]
    exact trow_at h.ri fun j hj => set_other _ _ _ _ _ fun e => h.ap.r _ hlm g rfl (by rw [← e]; exact hj)
  · by_cases hq : q = i
    · subst hq
      rw [hl] at h1
      have e1 := Option.some.inj h1
      rw [List.getElem?_set_self (List.getElem?_eq_some_iff.1 hi).1] at h2
      have e2 := Option.some.inj h2
      subst e1; subst e2
      rcases hO.2 with ⟨e, _⟩ | ⟨g', cap', cur, e, hg, hb, hc, hm, hs, htk⟩
      · cases e
      injection e with e1 e2 e3
      have e4 := Option.some.inj e1
      injection e4 with e5
      subst e5; subst e3
      refine ⟨by simp [iC], .inr ⟨g, c, cur.setIfInBounds k (.int .i64 x), by rw [List.length_set, e2], hg, heap_setCell_same w g k cur _ _ hb, by rw [List.length_set]; exact hc, hm, by simpa using hs, ?_⟩⟩
      rw [Array.toList_setIfInBounds, List.length_set, List.take_set, htk]
      unfold iC
      rw [List.map_set]
    · rw [List.getElem?_set_ne (fun e => hq e.symm)] at h2
      refine trow_at (h.li q l ys h1 h2) fun j hj => set_other _ _ _ _ _ fun e => ?_
      exact h.ap.p i q _ l hl h1 (fun e' => hq e'.symm) g rfl (by rw [← e]; exact hj)
  · rcases List.mem_or_eq_of_mem_set hy with hm | rfl
    · exact h.sz ys hm
    · rw [List.length_set]; exact h.sz zs (List.mem_of_getElem? hi)
/-- The lists as they were, beside. -/
structure Bs (w : World) (bk : Nat) (vi vw : Value) (ls ws : List Value) (zss : List (List Int)) : Prop where
  p : Bp w bk vi ls zss
  c1 : w.cell? ⟨bk, 1, none⟩ = some vw
  rw : w.ownsRow 0 29 1 vw zss.length ws
  lw : ∀ (k : Nat) (l : Value) (zs : List Int), ws[k]? = some l → zss[k]? = some zs → OwnI w 0 l zs
  bt : ∃ cs, w.heap[bk]? = some (.cells cs 49 (0, 0)) ∧ 1 < cs.size
  ne : ∀ k, vi.ownBlock = some k → vw.ownBlock ≠ some k
theorem Bs.below {w w' : World} {bk : Nat} {vi vw : Value} {ls ws : List Value} {zss : List (List Int)} (h : Bs w bk vi vw ls ws zss) (hb : Below w.heap.size w w') : Bs w' bk vi vw ls ws zss :=
  ⟨h.p.below hb, cell_up h.c1 hb, trow_at h.rw fun i hi => hb.block i (h.rw.lt i hi).2, fun k l zs h1 h2 => trow_at (h.lw k l zs h1 h2) fun i hi => hb.block i ((h.lw k l zs h1 h2).lt i hi).2, h.bt.imp fun _ hx => ⟨(hb.block bk (t_lt hx.1)).trans hx.1, hx.2⟩, h.ne⟩
theorem Bs.at {w : World} {bk : Nat} {vi vw : Value} {ls ws : List Value} {zss : List (List Int)} (h : Bs w bk vi vw ls ws zss) {i : Nat} {zs : List Int} (hi : zss[i]? = some zs) : ∃ gw cw l, vw = .slice (some ⟨gw, 0, none⟩) zss.length cw ∧ w.cell? ⟨gw, i, none⟩ = some l ∧ OwnI w 0 l zs := by
  have hlt := (List.getElem?_eq_some_iff.1 hi).1
  obtain ⟨gw, cw, hv, _, _⟩ := h.rw.form (by omega)
  have hwl : ws.length = zss.length := by have := h.rw.1; rw [Nat.mul_one] at this; exact this
  obtain ⟨l, hl⟩ : ∃ l, ws[i]? = some l := ⟨ws[i]'(by rw [hwl]; exact hlt), List.getElem?_eq_getElem _⟩
  refine ⟨gw, cw, l, hv, ?_, h.lw i l zs hl hi⟩
  have hr := h.rw
  rw [hv] at hr
  rw [hr.cellAt i (by omega), hl]
end Go.Proofs.YthnenpncajpibaaGreatDoor
