/- The book's lists of Tokens: what stands while other kinds turn; the marked lists behind Apart's growing. (Written by mkbx.py out of BXa.tmpl.) -/
import Derived.Test.YthcboklkejlifaaGreatDoorBXwTokens
namespace Go.Proofs.YthcboklkejlifaaGreatDoor.BTokens
open Go.RowKit Go.Maps
theorem Bp.lsf_lt {w : World} {bk : Nat} {vi : Value} {ls : List Value} {zss : List (List El)} (h : Bp w bk vi ls zss) {b : Nat} (hb : LsF ls b) : b < w.heap.size := by
  obtain ⟨l, hl, hb⟩ := hb
  obtain ⟨k, hk, rfl⟩ := List.getElem_of_mem hl
  have hz : zss[k]? = some (zss[k]'(by rw [← h.ll]; exact hk)) := List.getElem?_eq_getElem _
  exact ((h.li k _ _ (List.getElem?_eq_getElem hk) hz).lt b hb).2
theorem Bp.keep {w w' : World} {F : Nat → Prop} {bk : Nat} {vi : Value} {ls : List Value} {zss : List (List El)} (h : Bp w bk vi ls zss) (hk : Kept F w w') (hb : ¬ F bk) (hr : ∀ b, vi.ownBlock = some b → ¬ F b) (hl : ∀ b, LsF ls b → ¬ F b) : Bp w' bk vi ls zss :=
  ⟨(World.cell?_of_block (a := ⟨bk, 2, none⟩) (hk.block bk (World.block_lt_of_cell? w _ h.c0) hb)).trans h.c0, trow_at h.ri fun i hi => hk.block i (h.ri.lt i hi).2 (hr i hi), fun k l zs h1 h2 => trow_at (h.li k l zs h1 h2) fun i hi => hk.block i ((h.li k l zs h1 h2).lt i hi).2 (hl i ⟨l, List.mem_of_getElem? h1, hi⟩), h.ap, h.len, h.sz⟩
/-- A row of lists, each with its marks, all in blocks of F. -/
structure Mq (w : World) (v : Value) (ns : List Nat) (F : Nat → Prop) : Prop where
  ex : ∃ ao cap, v = .slice ao ns.length cap ∧ ∀ (k n : Nat), ns[k]? = some n → ∃ g l, ao = some ⟨g, 0, none⟩ ∧ w.cell? ⟨g, k, none⟩ = some l ∧ Has w l (marks k 0 n) ∧ (n ≠ 0 → ∀ b, l.ownBlock = some b → F b)
  row : ∀ b, v.ownBlock = some b → F b
theorem Mq.mr {w : World} {v : Value} {ns : List Nat} {F : Nat → Prop} (h : Mq w v ns F) : Mr w v ns := by
  obtain ⟨ao, cap, hv, h1⟩ := h.ex
  refine ⟨ao, cap, hv, fun k n hk => ?_⟩
  obtain ⟨g, l, ha, hc, hl, _⟩ := h1 k n hk
  exact ⟨_, l, ha, by rw [addz]; exact hc, hl⟩
theorem Mq.kept {w w' : World} {v : Value} {ns : List Nat} {F G : Nat → Prop} (h : Mq w v ns F) (hk : Kept G w w') (hd : ∀ b, F b → ¬ G b) : Mq w' v ns F := by
  obtain ⟨ao, cap, hv, h1⟩ := h.ex
  refine ⟨⟨ao, cap, hv, fun k n hn => ?_⟩, h.row⟩
  obtain ⟨g, l, ha, hc, hl, hF⟩ := h1 k n hn
  refine ⟨g, l, ha, (World.cell?_of_block (a := ⟨g, k, none⟩) (hk.block g (World.block_lt_of_cell? w _ hc) (hd g (h.row g (by rw [hv, ha]; rfl))))).trans hc, hl.kept hk fun hz b hb => hd b (hF (fun e => hz (by rw [e]; rfl)) b hb), hF⟩
theorem Mq.below {w w' : World} {v : Value} {ns : List Nat} {F : Nat → Prop} (h : Mq w v ns F) (hb : Below w.heap.size w w') : Mq w' v ns F := h.kept (G := fun _ => False) (Kept.of_below hb) fun _ _ hg => hg
theorem marks_zero_add (k n m : Nat) : marks k 0 n ++ marks k n m = marks k 0 (n + m) := by have := marks_add k 0 n m; rwa [Nat.zero_add] at this
/-- Behind the growing: the grown lists and the lists have their marks. -/
theorem gr_marked {w wr : World} {bk : Nat} {vi : Value} {ls : List Value} {zss : List (List El)} {vo : Value} {os : List Value} (h : Gr w wr bk vi ls (allM zss) (allM zss).length vo os) : Mq wr vo (zss.map fun z => z.length + 96) (fun b => LsF ls b ∨ vi.ownBlock = some b ∨ w.heap.size ≤ b) ∧ Mq wr vi (zss.map List.length) (fun b => LsF ls b ∨ vi.ownBlock = some b ∨ w.heap.size ≤ b) := by
  have hal : (allM zss).length = zss.length := by unfold allM; rw [List.length_mapIdx]
  have hlo : os.length = zss.length := by have := h.row.1; rw [Nat.mul_one, hal] at this; exact this
  have hll : ls.length = zss.length := by have := h.ri.1; rw [Nat.mul_one, hal] at this; exact this
  have hD : ∀ (k n : Nat), (zss.map List.length)[k]? = some n → ∃ l o, ls[k]? = some l ∧ os[k]? = some o ∧ Has wr l (marks k 0 n) ∧ Has wr o (marks k 0 (n + 96)) ∧ ∀ b, o.ownBlock = some b → LsF ls b ∨ w.heap.size ≤ b := fun k n hk => by
    rw [List.getElem?_map] at hk
    obtain ⟨zs, hz, rfl⟩ := Option.map_eq_some_iff.1 hk
    have hkl := (List.getElem?_eq_some_iff.1 hz).1
    have hl : ls[k]? = some (ls[k]'(by omega)) := List.getElem?_eq_getElem _
    have ha : (allM zss)[k]? = some (marks k 0 zs.length) := by unfold allM; rw [List.getElem?_mapIdx, hz]; rfl
    obtain ⟨d1, o, d2, d3, d4, _⟩ := h.done k _ _ (by omega) hl ha
    rw [marks_len, marks_zero_add] at d3
    refine ⟨_, o, hl, d2, d1, d3, fun b hb => ?_⟩
    rcases d4 with e | e
    · exact .inl ⟨_, List.mem_of_getElem? hl, by rw [← e]; exact hb⟩
    · exact .inr (e b hb)
  constructor
  · obtain ⟨ao, co, hv⟩ := row_shape h.row
    refine ⟨⟨ao, co, by rw [List.length_map, hv, hal], fun k n hk => ?_⟩, fun b hb => .inr (.inr (h.row.lt b hb).1)⟩
    rw [List.getElem?_map] at hk
    obtain ⟨zs, hz, rfl⟩ := Option.map_eq_some_iff.1 hk
    have hkl := (List.getElem?_eq_some_iff.1 hz).1
    obtain ⟨l, o, _, ho, _, hO, hF⟩ := hD k zs.length (by rw [List.getElem?_map, hz]; rfl)
    obtain ⟨g, c, hf, _, _⟩ := h.row.form (by omega)
    rw [hv] at hf
    injection hf with e1 e2 e3
    subst e1; subst e3
    have hr := h.row
    rw [hv] at hr
    exact ⟨_, o, rfl, by rw [hr.cellAt k (by omega), ho], hO, fun _ b hb => (hF b hb).imp_right .inr⟩
  · obtain ⟨ao, co, hv⟩ := row_shape h.ri
    refine ⟨⟨ao, co, by rw [List.length_map, hv, hal], fun k n hk => ?_⟩, fun b hb => .inr (.inl hb)⟩
    obtain ⟨l, o, hl, _, hL, _⟩ := hD k n hk
    rw [List.getElem?_map] at hk
    obtain ⟨zs, hz, rfl⟩ := Option.map_eq_some_iff.1 hk
    have hkl := (List.getElem?_eq_some_iff.1 hz).1
    obtain ⟨g, c, hf, _, _⟩ := h.ri.form (by omega)
    rw [hv] at hf
    injection hf with e1 e2 e3
    subst e1; subst e3
    have hr := h.ri
    rw [hv] at hr
    exact ⟨_, l, rfl, by rw [hr.cellAt k (by omega), hl], hL, fun _ b hb => .inl ⟨l, List.mem_of_getElem? hl, hb⟩⟩
/-- The blocks of lists of another element type, and of rows of another type, are none of these. -/
theorem Bp.far_of {w : World} {bk : Nat} {vi : Value} {ls : List Value} {zss : List (List El)} (h : Bp w bk vi ls zss) {B : Nat} {e : TypeId} {sz : Nat} {v : Value} {n : Nat} {xs : List Value} (ho : w.ownsRow B e sz v n xs) (hne : e ≠ 57) {b : Nat} (hb : v.ownBlock = some b) : ¬ LsF ls b := fun ⟨l, hl, hlb⟩ => by
  obtain ⟨k, hk, rfl⟩ := List.getElem_of_mem hl
  have hz : zss[k]? = some (zss[k]'(by rw [← h.ll]; exact hk)) := List.getElem?_eq_getElem _
  exact own_ne ho (h.li k _ _ (List.getElem?_eq_getElem hk) hz) hne b hb hlb
theorem Bp.far_bk {w : World} {bk : Nat} {vi : Value} {ls : List Value} {zss : List (List El)} (h : Bp w bk vi ls zss) : ¬ LsF ls bk := fun ⟨l, hl, hlb⟩ => h.ap.b l hl hlb
theorem Bp.typed {w : World} {bk : Nat} {vi : Value} {ls : List Value} {zss : List (List El)} (h : Bp w bk vi ls zss) {b : Nat} (hb : LsF ls b) : ∃ B n xs v, w.ownsRow B 57 4 v n xs ∧ v.ownBlock = some b := by
  obtain ⟨l, hl, hlb⟩ := hb
  obtain ⟨k, hk, rfl⟩ := List.getElem_of_mem hl
  have hz : zss[k]? = some (zss[k]'(by rw [← h.ll]; exact hk)) := List.getElem?_eq_getElem _
  exact ⟨_, _, _, _, h.li k _ _ (List.getElem?_eq_getElem hk) hz, hlb⟩
end Go.Proofs.YthcboklkejlifaaGreatDoor.BTokens
