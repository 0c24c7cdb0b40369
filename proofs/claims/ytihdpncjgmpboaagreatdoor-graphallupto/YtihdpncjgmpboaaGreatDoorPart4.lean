/- Texts of this claim, joined: BXaSteps, BXEdges. -/
import Derived.Test.YtihdpncjgmpboaaGreatDoorBXwSteps
import Derived.Test.YtihdpncjgmpboaaGreatDoorPart0
import Derived.Deep.QuietTactic
import Derived.BigQuiet
/- The book's lists of Steps: what stands while other kinds turn; the marked lists behind Apart's growing. (Written by mkbx.py out of BXa.tmpl.) -/
namespace Go.Proofs.YtihdpncjgmpboaaGreatDoor.BSteps
open Go.RowKit Go.Maps
theorem Bp.lsf_lt {w : World} {bk : Nat} {vi : Value} {ls : List Value} {zss : List (List El)} (h : Bp w bk vi ls zss) {b : Nat} (hb : LsF ls b) : b < w.heap.size := by
  obtain ⟨l, hl, hb⟩ := hb
  obtain ⟨k, hk, rfl⟩ := List.getElem_of_mem hl
  have hz : zss[k]? = some (zss[k]'(by rw [← h.ll]; exact hk)) := List.getElem?_eq_getElem _
  exact ((h.li k _ _ (List.getElem?_eq_getElem hk) hz).lt b hb).2
theorem Bp.keep {w w' : World} {F : Nat → Prop} {bk : Nat} {vi : Value} {ls : List Value} {zss : List (List El)} (h : Bp w bk vi ls zss) (hk : Kept F w w') (hb : ¬ F bk) (hr : ∀ b, vi.ownBlock = some b → ¬ F b) (hl : ∀ b, LsF ls b → ¬ F b) : Bp w' bk vi ls zss :=
  ⟨(World.cell?_of_block (a := ⟨bk, 8, none⟩) (hk.block bk (World.block_lt_of_cell? w _ h.c0) hb)).trans h.c0, trow_at h.ri fun i hi => hk.block i (h.ri.lt i hi).2 (hr i hi), fun k l zs h1 h2 => trow_at (h.li k l zs h1 h2) fun i hi => hk.block i ((h.li k l zs h1 h2).lt i hi).2 (hl i ⟨l, List.mem_of_getElem? h1, hi⟩), h.ap, h.len, h.sz⟩
/-- A row of lists, each with its marks, all in blocks of F. -/
structure Mq (w : World) (v : Value) (ns : List Nat) (F : Nat → Prop) : Prop where
  ex : ∃ ao cap, v = .slice ao ns.length cap ∧ ∀ (k n : Nat), ns[k]? = some n → ∃ g l, ao = some ⟨g, 0, none⟩ ∧ w.cell? ⟨g, k, none⟩ = some l ∧ Has w l (marks k 0 n) ∧ (n ≠ 0 → ∀ b, l.ownBlock = some b → F b)
  row : ∀ b, v.ownBlock = some b → F b
theorem Mq.mr {w : World} {v : Value} {ns : List Nat} {F : Nat → Prop} (h : Mq w v ns F) : Mr w v ns := by
  obtain ⟨ao, cap, hv, h1⟩ := h.ex
  refine ⟨ao, cap, hv, fun k n hk => ?_⟩
  obtain ⟨g, l, ha, hc, hl, _⟩ := h1 k n hk
  exact ⟨_, l, ha, by rw [addz]; exact hc, hl⟩
theorem Mq.kept {w w' : World} {v : Value} {ns : List Nat} {F G : Nat → Prop} (h : Mq w v ns F) (hk : Kept G w w') (hd : ∀ b, F b → ¬ G b) : Mq w' v ns F := by
  obtain ⟨ao, cap, hv, h1⟩ := h.ex
  refine ⟨⟨ao, cap, hv, fun k n hn => ?_⟩, h.row⟩
  obtain ⟨g, l, ha, hc, hl, hF⟩ := h1 k n hn
  refine ⟨g, l, ha, (World.cell?_of_block (a := ⟨g, k, none⟩) (hk.block g (World.block_lt_of_cell? w _ hc) (hd g (h.row g (by rw [hv, ha]; rfl))))).trans hc, hl.kept hk fun hz b hb => hd b (hF (fun e => hz (by rw [e]; rfl)) b hb), hF⟩
theorem Mq.below {w w' : World} {v : Value} {ns : List Nat} {F : Nat → Prop} (h : Mq w v ns F) (hb : Below w.heap.size w w') : Mq w' v ns F := h.kept (G := fun _ => False) (Kept.of_below hb) fun _ _ hg => hg
theorem marks_zero_add (k n m : Nat) : marks k 0 n ++ marks k n m = marks k 0 (n + m) := by have := marks_add k 0 n m; rwa [Nat.zero_add] at this
/-- Behind the growing: the grown lists and the lists have their marks. -/
theorem gr_marked {w wr : World} {bk : Nat} {vi : Value} {ls : List Value} {zss : List (List El)} {vo : Value} {os : List Value} (h : Gr w wr bk vi ls (allM zss) (allM zss).length vo os) : Mq wr vo (zss.map fun z => z.length + 96) (fun b => LsF ls b ∨ vi.ownBlock = some b ∨ w.heap.size ≤ b) ∧ Mq wr vi (zss.map List.length) (fun b => LsF ls b ∨ vi.ownBlock = some b ∨ w.heap.size ≤ b) := by
  have hal : (allM zss).length = zss.length := by unfold allM; rw [List.length_mapIdx]
  have hlo : os.length = zss.length := by have := h.row.1; rw [Nat.mul_one, hal] at this; exact this
  have hll : ls.length = zss.length := by have := h.ri.1; rw [Nat.mul_one, hal] at this; exact this
  have hD : ∀ (k n : Nat), (zss.map List.length)[k]? = some n → ∃ l o, ls[k]? = some l ∧ os[k]? = some o ∧ Has wr l (marks k 0 n) ∧ Has wr o (marks k 0 (n + 96)) ∧ ∀ b, o.ownBlock = some b → LsF ls b ∨ w.heap.size ≤ b := fun k n hk => by
    rw [List.getElem?_map] at hk
    obtain ⟨zs, hz, rfl⟩ := Option.map_eq_some_iff.1 hk
    have hkl := (List.getElem?_eq_some_iff.1 hz).1
    have hl : ls[k]? = some (ls[k]'(by omega)) := List.getElem?_eq_getElem _
    have ha : (allM zss)[k]? = some (marks k 0 zs.length) := by unfold allM; rw [List.getElem?_mapIdx, hz]; rfl
    obtain ⟨d1, o, d2, d3, d4, _⟩ := h.done k _ _ (by omega) hl ha
    rw [marks_len, marks_zero_add] at d3
    refine ⟨_, o, hl, d2, d1, d3, fun b hb => ?_⟩
    rcases d4 with e | e
    · exact .inl ⟨_, List.mem_of_getElem? hl, by rw [← e]; exact hb⟩
    · exact .inr (e b hb)
  constructor
  · obtain ⟨ao, co, hv⟩ := row_shape h.row
    refine ⟨⟨ao, co, by rw [List.length_map, hv, hal], fun k n hk => ?_⟩, fun b hb => .inr (.inr (h.row.lt b hb).1)⟩
    rw [List.getElem?_map] at hk
    obtain ⟨zs, hz, rfl⟩ := Option.map_eq_some_iff.1 hk
    have hkl := (List.getElem?_eq_some_iff.1 hz).1
    obtain ⟨l, o, _, ho, _, hO, hF⟩ := hD k zs.length (by rw [List.getElem?_map, hz]; rfl)
    obtain ⟨g, c, hf, _, _⟩ := h.row.form (by omega)
    rw [hv] at hf
    injection hf with e1 e2 e3
    subst e1; subst e3
    have hr := h.row
    rw [hv] at hr
    exact ⟨_, o, rfl, by rw [hr.cellAt k (by omega), ho], hO, fun _ b hb => (hF b hb).imp_right .inr⟩
  · obtain ⟨ao, co, hv⟩ := row_shape h.ri
    refine ⟨⟨ao, co, by rw [List.length_map, hv, hal], fun k n hk => ?_⟩, fun b hb => .inr (.inl hb)⟩
    obtain ⟨l, o, hl, _, hL, _⟩ := hD k n hk
    rw [List.getElem?_map] at hk
    obtain ⟨zs, hz, rfl⟩ := Option.map_eq_some_iff.1 hk
    have hkl := (List.getElem?_eq_some_iff.1 hz).1
    obtain ⟨g, c, hf, _, _⟩ := h.ri.form (by omega)
    rw [hv] at hf
    injection hf with e1 e2 e3
    subst e1; subst e3
    have hr := h.ri
    rw [hv] at hr
    exact ⟨_, l, rfl, by rw [hr.cellAt k (by omega), hl], hL, fun _ b hb => .inl ⟨l, List.mem_of_getElem? hl, hb⟩⟩
/-- The blocks of lists of another element type, and of rows of another type, are none of these. -/
theorem Bp.far_of {w : World} {bk : Nat} {vi : Value} {ls : List Value} {zss : List (List El)} (h : Bp w bk vi ls zss) {B : Nat} {e : TypeId} {sz : Nat} {v : Value} {n : Nat} {xs : List Value} (ho : w.ownsRow B e sz v n xs) (hne : e ≠ 76) {b : Nat} (hb : v.ownBlock = some b) : ¬ LsF ls b := fun ⟨l, hl, hlb⟩ => by
  obtain ⟨k, hk, rfl⟩ := List.getElem_of_mem hl
  have hz : zss[k]? = some (zss[k]'(by rw [← h.ll]; exact hk)) := List.getElem?_eq_getElem _
  exact own_ne ho (h.li k _ _ (List.getElem?_eq_getElem hk) hz) hne b hb hlb
theorem Bp.far_bk {w : World} {bk : Nat} {vi : Value} {ls : List Value} {zss : List (List El)} (h : Bp w bk vi ls zss) : ¬ LsF ls bk := fun ⟨l, hl, hlb⟩ => h.ap.b l hl hlb
theorem Bp.typed {w : World} {bk : Nat} {vi : Value} {ls : List Value} {zss : List (List El)} (h : Bp w bk vi ls zss) {b : Nat} (hb : LsF ls b) : ∃ B n xs v, w.ownsRow B 76 2 v n xs ∧ v.ownBlock = some b := by
  obtain ⟨l, hl, hlb⟩ := hb
  obtain ⟨k, hk, rfl⟩ := List.getElem_of_mem hl
  have hz : zss[k]? = some (zss[k]'(by rw [← h.ll]; exact hk)) := List.getElem?_eq_getElem _
  exact ⟨_, _, _, _, h.li k _ _ (List.getElem?_eq_getElem hk) hz, hlb⟩
end Go.Proofs.YtihdpncjgmpboaaGreatDoor.BSteps
/- The book's lists of Edges: what it holds in memory, and contracts of the book's parts over them. (Written by mkbx.py out of BX.tmpl.) -/
namespace Go.Proofs.YtihdpncjgmpboaaGreatDoor.BEdges
open Go.RowKit Go.Maps
attribute [local go_sem ↓] Go.wp_at_zero Go.wp_at_succ
abbrev El : Type := Int × Int × Int
/-- The cells of an element, of a list. -/
def enc (z : El) : List Value := [.int .i64 z.1, .int .i64 z.2.1, .int .i64 z.2.2]
def C (zs : List El) : List Value := zs.flatMap enc
theorem enc_len (z : El) : (enc z).length = 3 := rfl
theorem C_len (zs : List El) : (C zs).length = zs.length * 3 := by
  unfold C
  induction zs with
  | nil => rfl
  | cons z r ih => rw [List.flatMap_cons, List.length_append, ih, enc_len, List.length_cons]; omega
theorem C_app (a b : List El) : C (a ++ b) = C a ++ C b := List.flatMap_append
theorem C_one (zs : List El) : ∀ u ∈ C zs, u.oneCell' = true := fun u hu => by
  obtain ⟨z, _, hz⟩ := List.mem_flatMap.1 hu
  simp only [enc, List.mem_cons, List.not_mem_nil, or_false] at hz
  rcases hz with rfl | rfl | rfl <;> rfl
theorem C_at : ∀ (zs : List El) (k : Nat) (z : El), zs[k]? = some z → ∀ q, q < 3 → (C zs)[k * 3 + q]? = (enc z)[q]?
  | [], _, _, h, _, _ => by simp at h
  | y :: r, 0, z, h, q, hq => by
    simp at h
    subst h
    show (enc y ++ C r)[0 * 3 + q]? = _
    rw [List.getElem?_append_left (by rw [enc_len]; omega)]
    congr 1
    omega
  | y :: r, k + 1, z, h, q, hq => by
    have ih := C_at r k z (by simpa using h) q hq
    show (enc y ++ C r)[(k + 1) * 3 + q]? = _
    rw [List.getElem?_append_right (by rw [enc_len]; omega), enc_len, ← ih]
    congr 1
    omega
theorem C_set (zs : List El) {k : Nat} (hk : k < zs.length) (x : El) : C (zs.set k x) = ((((C zs).set (k * 3) (.int .i64 x.1)).set (k * 3 + 1) (.int .i64 x.2.1)).set (k * 3 + 2) (.int .i64 x.2.2)) := by
  apply List.ext_getElem?
  intro j
  by_cases hj : j / 3 = k
  · obtain ⟨q, hq, rfl⟩ : ∃ q, q < 3 ∧ j = k * 3 + q := ⟨j % 3, Nat.mod_lt _ (by decide), by omega⟩
    rw [C_at (zs.set k x) k x (List.getElem?_set_self hk) q hq]
    have hl : (C zs).length = zs.length * 3 := C_len zs
    have hq' : q = 0 ∨ q = 1 ∨ q = 2 := by omega
    rcases hq' with rfl | rfl | rfl <;> simp [List.getElem?_set, hl, enc] <;> omega
  · have e : (C (zs.set k x))[j]? = (C zs)[j]? := by
      rcases Nat.lt_or_ge (j / 3) zs.length with h | h
      · obtain ⟨z, hz⟩ : ∃ z, zs[j / 3]? = some z := ⟨_, List.getElem?_eq_getElem h⟩
        have hz' : (zs.set k x)[j / 3]? = some z := by rw [List.getElem?_set_ne (fun e => hj e.symm)]; exact hz
        have e0 : j = j / 3 * 3 + j % 3 := by omega
        rw [e0, C_at _ _ z hz' _ (Nat.mod_lt _ (by decide)), C_at _ _ z hz _ (Nat.mod_lt _ (by decide))]
      · rw [List.getElem?_eq_none (by rw [C_len, List.length_set]; omega), List.getElem?_eq_none (by rw [C_len]; omega)]
    rw [e]
    rw [List.getElem?_set_ne (by omega), List.getElem?_set_ne (by omega), List.getElem?_set_ne (by omega)]
/-- Lists of one's own; lists that are read. -/
def Own (w : World) (B : Nat) (v : Value) (zs : List El) : Prop := w.ownsRow B 65 3 v zs.length (C zs)
def Has (w : World) (v : Value) (zs : List El) : Prop := ∃ ao cap, v = .slice ao zs.length cap ∧ ∀ (j : Nat) (u : Value), (C zs)[j]? = some u → ∃ a, ao = some a ∧ w.cell? (a.add j) = some u
theorem Has.below {w w' : World} {v : Value} {zs : List El} (h : Has w v zs) (hb : Below w.heap.size w w') : Has w' v zs := by
  obtain ⟨ao, cap, h1, h2⟩ := h
  refine ⟨ao, cap, h1, fun i p hi => ?_⟩
  obtain ⟨a, ha, c0⟩ := h2 i p hi
  exact ⟨a, ha, (hb.cell (World.block_lt_of_cell? w _ c0)).trans c0⟩
theorem C_nil {zs : List El} (h : zs ≠ []) : ∃ u, (C zs)[0]? = some u := by
  cases zs with
  | nil => exact absurd rfl h
  | cons z r =>
    have h1 := C_at (z :: r) 0 z rfl 0 (by decide)
    have h2 : (enc z)[0]? = some ((enc z)[0]'(by rw [enc_len]; decide)) := List.getElem?_eq_getElem _
    exact ⟨_, h1.trans h2⟩
theorem Has.kept {w w' : World} {F : Nat → Prop} {v : Value} {zs : List El} (h : Has w v zs) (hk : Kept F w w') (hf : zs ≠ [] → ∀ i, v.ownBlock = some i → ¬ F i) : Has w' v zs := by
  obtain ⟨ao, cap, rfl, h2⟩ := h
  refine ⟨ao, cap, rfl, fun i z hi => ?_⟩
  obtain ⟨a, rfl, c⟩ := h2 i z hi
  exact ⟨a, rfl, cell_same (hk.block _ (block_lt3 c) (hf (by rintro rfl; simp [C] at hi) a.block rfl)) c⟩
theorem far {w : World} {v : Value} {zs : List El} (h : Has w v zs) (hz : zs ≠ []) {i : Nat} (hi : v.ownBlock = some i) : i < w.heap.size := by
  obtain ⟨ao, cap, rfl, h2⟩ := h
  obtain ⟨u, hu⟩ := C_nil hz
  obtain ⟨a, rfl, c⟩ := h2 0 u hu
  have := block_lt3 c
  simp only [Value.ownBlock, Option.some.injEq] at hi
  omega
theorem Own.at {w : World} {B g cap n : Nat} {zs : List El} (h : Own w B (.slice (some ⟨g, 0, none⟩) n cap) zs) {j : Nat} {u : Value} (hj : (C zs)[j]? = some u) : w.cell? ⟨g, j, none⟩ = some u := by
  obtain ⟨ao', cap', hv⟩ := row_shape h
  injection hv with _ e _
  subst e
  have h' : w.ownsRow B 65 3 (.slice (some ⟨g, 0, none⟩) zs.length cap) zs.length (C zs) := h
  rw [h'.cellAt j (by rw [← h'.1]; exact (List.getElem?_eq_some_iff.1 hj).1), hj]
theorem Own.has {w : World} {B : Nat} {v : Value} {zs : List El} (h : Own w B v zs) : Has w v zs := by
  obtain ⟨ao, cap, hv⟩ := row_shape h
  refine ⟨ao, cap, hv, fun j u hj => ?_⟩
  have hlt := (List.getElem?_eq_some_iff.1 hj).1
  rw [C_len] at hlt
  obtain ⟨g, c, hf, _, _⟩ := World.ownsRow.form h (by omega)
  rw [hv] at hf
  injection hf with e1 e2 e3
  subst e1; subst e3
  refine ⟨_, rfl, ?_⟩
  rw [addz]
  rw [hv] at h
  exact Own.at h hj
theorem add_q (a : Addr) (m q : Nat) : (a.add m).add q = a.add (m + q) := by
  unfold Addr.add
  by_cases h1 : m = 0 <;> by_cases h2 : q = 0 <;> simp [h1, h2] <;> omega
theorem copy_of {w : World} {ao : Option Addr} {n cap : Nat} {zs : List El} (h : Has w (.slice ao n cap) zs) : (ao = none → n = 0) ∧ ∀ ad, ao = some ad → ∀ j u, (C zs)[j]? = some u → w.cell? (ad.add j) = some u := by
  obtain ⟨ao', cap', hv, h2⟩ := h
  injection hv with e1 e2 e3
  subst e1
  refine ⟨fun e => ?_, fun ad e j u hj => ?_⟩
  · rw [e2]
    by_cases hz : zs = []
    · rw [hz]; rfl
    · obtain ⟨u, hu⟩ := C_nil hz
      obtain ⟨a, ha, _⟩ := h2 0 u hu
      rw [e] at ha; cases ha
  · obtain ⟨a, ha, hc⟩ := h2 j u hj
    rw [e] at ha
    cases ha
    exact hc
/-- The mark of the list i at the place k. -/
def mk1 (i k : Nat) : El := (-1 - (i : Int), (k : Int), 7)
def marks (i f n : Nat) : List El := (List.range n).map fun k => mk1 i (f + k)
theorem marks_len (i f n : Nat) : (marks i f n).length = n := by simp [marks]
theorem marks_succ (i f n : Nat) : marks i f (n + 1) = marks i f n ++ [mk1 i (f + n)] := by
  unfold marks
  rw [List.range_succ, List.map_append]
  rfl
theorem marks_add (i f n m : Nat) : marks i f n ++ marks i (f + n) m = marks i f (n + m) := by
  induction m with
  | zero => simp [marks]
  | succ m ih => rw [marks_succ, ← List.append_assoc, ih, Nat.add_assoc, ← marks_succ]; rfl
theorem marks_at {i f n j : Nat} (h : j < n) : (marks i f n)[j]? = some (mk1 i (f + j)) := by
  unfold marks
  rw [List.getElem?_map, List.getElem?_range h]
  rfl
theorem Tryz.infoE : (Tryz.prog.info? 65).map (fun i => (i.zero, i.size, i.bytes)) = some (some (.agg #[.int .i64 0, .int .i64 0, .int .i64 0]), 3, 24) := by kernel_rfl
theorem Tryz.infoR : (Tryz.prog.info? 22).map (fun i => (i.zero, i.size, i.bytes)) = some (some (.slice none 0 0), 1, 24) := by kernel_rfl
theorem C_snoc (zs : List El) (z : El) : C (zs ++ [z]) = C zs ++ enc z := by
  rw [C_app]
  show _ ++ (enc z ++ []) = _
  rw [List.append_nil]
theorem below_row {w w2 w4 : World} {x : Obj} {v : Value} {n : Nat} {us : List Value} (h1 : w2.ownsRow w.heap.size 65 3 v n us) (hb : Below w.heap.size w w2) (hg : (w2.alloc x).grownBy w4 v.ownBlock) : Below w.heap.size w w4 :=
  (hb.alloc hb.size x).grown hg (by have := hb.size; simp; omega) (fun k hk => (h1.lt k hk).1)
theorem enc_one (z : El) : ∀ u ∈ enc z, u.oneCell' = true := fun u hu => C_one [z] u (by simpa [C] using hu)
set_option maxRecDepth 100000 in
set_option maxHeartbeats 4000000 in
theorem mark_any (i f n : Nat) (w : World) (hi : i ≤ 1000) (hf : f + n ≤ 1000000000) :
    Calls Tryz.prog 110 #[.int .i64 i, .int .i64 f, .int .i64 n] w fun r w' => ∃ v, r = .returned v ∧ Own w' w.heap.size v (marks i f n) ∧ Below w.heap.size w w' := by
  obtain ⟨i0, hi0, hz0, hz1, hz2⟩ := info_parts Tryz.infoE
  have e1 : IntKind.i64.wrap ((f : Int) + (n : Int)) = (f : Int) + (n : Int) := by rw [IntKind.wrap_i64]; omega
  go_enter Tryz.func110, Tryz.ntmps110
  go_wp2_with fail
  go_loopg [7, 8] n (fun q lv kv wr => ∃ (k : Nat), q = n - k ∧ k ≤ n ∧ kv = .int .i64 ((f : Int) + (k : Int)) ∧ Own wr w.heap.size lv (marks i f k) ∧ Below w.heap.size w wr)
  case atStart => exact ⟨0, rfl, Nat.zero_le _, by simp, World.ownsRow_nil _ _ _ _, Below.refl _ _⟩
  case round =>
    obtain ⟨k, rfl, hk, rfl, hO, hb⟩ := hrel
    by_cases hlt : k < n
    · have q1 : (f : Int) + (k : Int) < (f : Int) + (n : Int) := by omega
      obtain ⟨al, cl, rfl⟩ := row_shape hO
      have hO' : wr.ownsRow w.heap.size 65 3 (.slice al k cl) k (C (marks i f k)) := by have h1 := hO; unfold Own at h1; rw [marks_len] at h1; exact h1
      have hlk : (marks i f k).length = k := marks_len i f k
      rw [hlk]
      have hml : k + 1 ≤ maxLen := by unfold maxLen; omega
      have hby : (k + 1) * 24 ≤ 140737488355328 := by omega
      have w1 : IntKind.i64.wrap (-1 - (i : Int)) = -1 - (i : Int) := by rw [IntKind.wrap_i64]; omega
      have hle : w.heap.size ≤ (wr.alloc (.cells #[.int .i64 (-1 - (i : Int)), .int .i64 ((f : Int) + (k : Int)), .int .i64 7] 65)).heap.size := by have := hb.size; simp; omega
      have HO : Hid _ := And.intro hO' hb
      clear hO hO' hlk
      go_wp2_with (at_builtin; refine wpList_append_own_at _ rfl _ _ 22 rfl w.heap.size 65 i0 (.agg #[.int .i64 0, .int .i64 0, .int .i64 0]) 3 24 Tryz.underlying22 hi0 hz0 hz1 hz2 rfl (by decide) (.slice al k cl) k (C (marks i f k)) rfl (HO.out.1.alloc _) ⟨wr.heap.size, 0, none⟩ 1 1 [.int .i64 (-1 - (i : Int)), .int .i64 ((f : Int) + (k : Int)), .int .i64 7] rfl rfl (World.news_of_block (cs := #[.int .i64 (-1 - (i : Int)), .int .i64 ((f : Int) + (k : Int)), .int .i64 7]) (t := 65) (fr := (0, 0)) (heap_alloc_new wr _)) (by simp [Value.oneCell']) hml hby hle ?_; intro v2 w2 hown2 hgrow2 hnil2 hat2; have H2 : Hid _ := And.intro hown2 hgrow2; clear hown2 hgrow2 hnil2 hat2)
      have HM : Hid (enc (mk1 i (f + k)) = [.int .i64 (-1 - (i : Int)), .int .i64 ((f : Int) + (k : Int)), .int .i64 7]) := (by simp [enc, mk1] : enc (mk1 i (f + k)) = [.int .i64 (-1 - (i : Int)), .int .i64 ((f : Int) + (k : Int)), .int .i64 7])
      go_roundg (n - (k + 1))
      case measure => omega
      case rel => exact ⟨k + 1, rfl, by omega, by first | go_num | (congr 1; omega), by unfold Own; rw [marks_len, marks_succ, C_snoc, HM.out]; exact H2.out.1, below_row HO.out.1 HO.out.2 H2.out.2⟩
    · obtain rfl : k = n := by omega
      have q1 : ¬ (f : Int) + (k : Int) < (f : Int) + (k : Int) := by omega
      have HO : Hid _ := And.intro hO hb
      clear hO hb
      go_wp2_with fail
      go_ret
      exact ⟨_, rfl, HO.out.1, HO.out.2⟩
set_option maxRecDepth 100000 in
set_option maxHeartbeats 4000000 in
theorem same_b (va vb : Value) (zs : List El) (w : World) (hn : zs.length ≤ 1000000000000000) (hA : Has w va zs) (hB : Has w vb zs) :
    Calls Tryz.prog 21 #[va, vb] w fun e w' => e = .returned (.bool true) ∧ Below w.heap.size w w' := by
  obtain ⟨ao, cap, rfl, hcA⟩ := hA
  obtain ⟨ao', cap', rfl, hcB⟩ := hB
  obtain ⟨n, hN⟩ : ∃ n, n = zs.length := ⟨_, rfl⟩
  have HH : Hid _ := And.intro hcA (And.intro hcB hN)
  rw [← hN] at hn ⊢
  clear hcA hcB hN
  have q : ((n : Int) != (n : Int)) = false := by simp
  go_enter Tryz.func21, Tryz.ntmps21
  go_wp2
  go_loopg [5] n (fun g i wr => ∃ j m : Nat, g = n - j ∧ j ≤ n ∧ i = .int .i64 j ∧ wr = w.drewN m)
  case atStart => exact ⟨0, 0, rfl, Nat.zero_le _, rfl, rfl⟩
  case round =>
    obtain ⟨j, m, rfl, hj, rfl, rfl⟩ := hrel
    by_cases hlt : j < n
    · obtain ⟨z, hz⟩ : ∃ z, zs[j]? = some z := ⟨zs[j]'(by have := HH.out.2.2; omega), List.getElem?_eq_getElem _⟩
      obtain ⟨a, rfl, c0'⟩ := HH.out.1 (j * 3 + 0) _ ((C_at zs j z hz 0 (by decide)).trans rfl)
      obtain ⟨b, rfl, d0'⟩ := HH.out.2.1 (j * 3 + 0) _ ((C_at zs j z hz 0 (by decide)).trans rfl)
      have c0 : w.cell? (a.add (j * 3)) = some (.int .i64 z.1) := by first | exact c0' | simpa using c0'
      have d0 : w.cell? (b.add (j * 3)) = some (.int .i64 z.1) := by first | exact d0' | simpa using d0'
      clear c0' d0'
      obtain ⟨_, ec1, c1'⟩ := HH.out.1 (j * 3 + 1) _ ((C_at zs j z hz 1 (by decide)).trans rfl)
      cases ec1
      have c1 : w.cell? ⟨(a.add (j * 3)).block, (a.add (j * 3)).off + 1, none⟩ = some (.int .i64 z.2.1) := by rw [← add_q] at c1'; exact c1'
      clear c1'
      obtain ⟨_, ed1, d1'⟩ := HH.out.2.1 (j * 3 + 1) _ ((C_at zs j z hz 1 (by decide)).trans rfl)
      cases ed1
      have d1 : w.cell? ⟨(b.add (j * 3)).block, (b.add (j * 3)).off + 1, none⟩ = some (.int .i64 z.2.1) := by rw [← add_q] at d1'; exact d1'
      clear d1'
      obtain ⟨_, ec2, c2'⟩ := HH.out.1 (j * 3 + 2) _ ((C_at zs j z hz 2 (by decide)).trans rfl)
      cases ec2
      have c2 : w.cell? ⟨(a.add (j * 3)).block, (a.add (j * 3)).off + 2, none⟩ = some (.int .i64 z.2.2) := by rw [← add_q] at c2'; exact c2'
      clear c2'
      obtain ⟨_, ed2, d2'⟩ := HH.out.2.1 (j * 3 + 2) _ ((C_at zs j z hz 2 (by decide)).trans rfl)
      cases ed2
      have d2 : w.cell? ⟨(b.add (j * 3)).block, (b.add (j * 3)).off + 2, none⟩ = some (.int .i64 z.2.2) := by rw [← add_q] at d2'; exact d2'
      clear d2'
      have q0 : (0 : Int) ≤ (j : Int) := by omega
      have q1 : (j : Int) < (n : Int) := by omega
      clear hz
      go_wp2_with fail
      go_quiet (fail)
      go_wp2
      go_roundg (n - (j + 1))
      case measure => omega
      case rel => exact ⟨j + 1, _, rfl, by omega, by go_num, by first | rfl | exact World.drewN_drewN _ _ _⟩
    · obtain rfl : j = n := by omega
      have q1 : ¬ (j : Int) < (j : Int) := by omega
      go_wp2
      go_ret
      exact ⟨rfl, below_drewN (Below.refl _ _) _⟩
end Go.Proofs.YtihdpncjgmpboaaGreatDoor.BEdges
