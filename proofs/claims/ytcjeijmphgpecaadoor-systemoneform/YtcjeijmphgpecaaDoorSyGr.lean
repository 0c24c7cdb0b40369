/- A graph in memory; contracts of the program's row, States, Out, In. -/
import Derived.Test.YtcjeijmphgpecaaDoorSyTab
namespace Go.Proofs.YtcjeijmphgpecaaDoor
open Go.RowKit Go.Maps
attribute [local go_sem ↓] Go.wp_at_zero Go.wp_at_succ
/-- A block from B on that holds just these cells. -/
def Blk (ty : TypeId) (B : Nat) (w : World) (g : Nat) (vs : List Value) : Prop := (∃ cs, w.heap[g]? = some (.cells cs ty (0, 0)) ∧ cs.toList = vs) ∧ B ≤ g
theorem Blk.of_arr {ty : TypeId} {w wr : World} {g : Nat} {vs : List Value} (h : Arr ty w wr g vs) : Blk ty w.heap.size wr g vs := ⟨h.ids, h.gu⟩
theorem Blk.lt {ty : TypeId} {B : Nat} {w : World} {g : Nat} {vs : List Value} (h : Blk ty B w g vs) : g < w.heap.size := by
  obtain ⟨⟨cs, hc, _⟩, _⟩ := h
  exact t_lt hc
theorem Blk.at {ty : TypeId} {B : Nat} {w w' : World} {g : Nat} {vs : List Value} (h : Blk ty B w g vs) (hb : w'.heap[g]? = w.heap[g]?) : Blk ty B w' g vs := by
  obtain ⟨⟨cs, hc, hx⟩, hg⟩ := h
  exact ⟨⟨cs, hb.trans hc, hx⟩, hg⟩
theorem Blk.below {ty : TypeId} {B : Nat} {w w' : World} {g : Nat} {vs : List Value} (h : Blk ty B w g vs) (hb : Below w.heap.size w w') : Blk ty B w' g vs := h.at (hb.block _ h.lt)
theorem Blk.cell {ty : TypeId} {B : Nat} {w : World} {g : Nat} {vs : List Value} (h : Blk ty B w g vs) {i : Nat} {x : Value} (hi : vs[i]? = some x) : w.cell? ⟨g, i, none⟩ = some x := by
  obtain ⟨⟨cs, hc, hx⟩, _⟩ := h
  refine cell0_of hc ?_
  rw [← Array.getElem?_toList, hx]
  exact hi
theorem Blk.base {ty : TypeId} {B B' : Nat} {w : World} {g : Nat} {vs : List Value} (h : Blk ty B w g vs) (hb : B' ≤ B) : Blk ty B' w g vs := ⟨h.1, Nat.le_trans hb h.2⟩
/-- A table as a value, and in memory. -/
def tabV (bs bb m n : Nat) : Value := .agg #[.slice (some ⟨bs, 0, none⟩) m m, .slice (some ⟨bb, 0, none⟩) (n + 1) (n + 1)]
structure Tb (w : World) (B bs bb n : Nat) (l : List Sy.Ed) : Prop where
  steps : Blk 75 B w bs (BSteps.C (l.map stp))
  nums : Blk 3 B w bb (iC (Sy.bounds n l))
theorem Tb.below {w w' : World} {B bs bb n : Nat} {l : List Sy.Ed} (h : Tb w B bs bb n l) (hb : Below w.heap.size w w') : Tb w' B bs bb n l := ⟨h.steps.below hb, h.nums.below hb⟩
theorem Tb.kept {w w' : World} {B bs bb n : Nat} {l : List Sy.Ed} {F : Nat → Prop} (h : Tb w B bs bb n l) (hk : Kept F w w') (h1 : ¬ F bs) (h2 : ¬ F bb) : Tb w' B bs bb n l := ⟨h.steps.at (hk.block _ h.steps.lt h1), h.nums.at (hk.block _ h.nums.lt h2)⟩
/-- The steps of a state; none of what is no state. -/
def Sy.rowOf (n : Nat) (l : List Sy.Ed) (i : Int) : List BSteps.El := if 0 ≤ i ∧ i < (n : Int) then Sy.steps l i else []
theorem map_stp (l : List Sy.Ed) (i : Int) (h : Sy.Rows l) : Sy.steps l i = ((l.map stp).drop (Sy.cnt l i)).take (Sy.cnt l (i + 1) - Sy.cnt l i) := by
  unfold Sy.steps
  rw [Sy.row_piece h i, List.map_take, List.map_drop]
  rfl
theorem rowOf_len (n : Nat) (l : List Sy.Ed) (i : Int) : (Sy.rowOf n l i).length ≤ l.length := by
  unfold Sy.rowOf
  split
  · exact Sy.steps_len l i
  · simp
theorem hasS_nil (w : World) (c : Nat) : BSteps.Has w (.slice none 0 c) [] := ⟨none, c, rfl, fun j u h => by simp [BSteps.C] at h⟩
theorem hasS_none (w : World) (a : Option Addr) (c : Nat) : BSteps.Has w (.slice a 0 c) [] := ⟨a, c, rfl, fun j u h => by simp [BSteps.C] at h⟩
/-- A piece of a table's steps. -/
theorem piece_has {w : World} {B bs : Nat} {zs : List BSteps.El} (h : Blk 75 B w bs (BSteps.C zs)) (i k c : Nat) (hk : i + k ≤ zs.length) : BSteps.Has w (.slice (some ⟨bs, i * 2, none⟩) k c) ((zs.drop i).take k) := by
  have hl : ((zs.drop i).take k).length = k := by rw [List.length_take, List.length_drop]; omega
  refine ⟨some ⟨bs, i * 2, none⟩, c, by rw [hl], fun j u hj => ⟨_, rfl, ?_⟩⟩
  have hj2 : j < k * 2 := by have := (List.getElem?_eq_some_iff.1 hj).1; rw [BSteps.C_len, hl] at this; exact this
  obtain ⟨z, hz⟩ : ∃ z, ((zs.drop i).take k)[j / 2]? = some z := ⟨_, List.getElem?_eq_getElem (by rw [hl]; omega)⟩
  have h1 := BSteps.C_at _ (j / 2) z hz (j % 2) (Nat.mod_lt _ (by decide))
  rw [show j / 2 * 2 + j % 2 = j by omega, hj] at h1
  have hz2 : zs[i + j / 2]? = some z := by
    rw [List.getElem?_take_of_lt (by omega), List.getElem?_drop] at hz
    exact hz
  have h2 := BSteps.C_at _ (i + j / 2) z hz2 (j % 2) (Nat.mod_lt _ (by decide))
  rw [← h1] at h2
  have h3 := h.cell h2
  rw [show (i + j / 2) * 2 + j % 2 = i * 2 + j by omega] at h3
  rw [Addr.add_lit]
  exact h3
set_option maxRecDepth 100000 in
set_option maxHeartbeats 4000000 in
theorem row_any (bs bb m n B : Nat) (l : List Sy.Ed) (i : Int) (w : World) (hn : n ≤ 100000) (hl : l.length = m) (hs : Sy.Rows l) (hT : Tb w B bs bb n l) :
    Calls Tryd.prog 45 #[tabV bs bb m n, .int .i64 i] w fun r w' => ∃ v, r = .returned v ∧ (∀ W, Tb W B bs bb n l → BSteps.Has W v (Sy.rowOf n l i)) ∧ Below w.heap.size w w' := by
  obtain ⟨w1, hw1⟩ : ∃ w1, w1 = w.alloc (.cells #[.slice (some ⟨bs, 0, none⟩) m m, .slice (some ⟨bb, 0, none⟩) (n + 1) (n + 1)] 69) := ⟨_, rfl⟩
  have hb1 : Below w.heap.size w w1 := by rw [hw1]; exact (Below.refl _ _).alloc (Nat.le_refl _) _
  have hg1 : w1.heap[w.heap.size]? = some (.cells #[.slice (some ⟨bs, 0, none⟩) m m, .slice (some ⟨bb, 0, none⟩) (n + 1) (n + 1)] 69 (0, 0)) := by rw [hw1]; exact heap_alloc_new w _
  have hT1 := hT.below hb1
  have hB := fun W => below_any i (n : Int) W
  have HB : Hid _ := hB
  have r0 : IntKind.i64.wrap ((n : Int) + 1 - 1) = (n : Int) := by rw [IntKind.wrap_i64]; omega
  unfold tabV Sy.rowOf
  by_cases hi : 0 ≤ i ∧ i < (n : Int)
  · rw [if_pos hi]
    rw [decide_eq_true hi] at HB
    obtain ⟨q, rfl⟩ : ∃ q : Nat, i = (q : Int) := ⟨i.toNat, by omega⟩
    have hqn : q < n := by omega
    have c0 : w1.cell? ⟨w.heap.size, 0, none⟩ = some (.slice (some ⟨bs, 0, none⟩) m m) := cell0_of hg1 rfl
    have c1 : w1.cell? ⟨w.heap.size, 1, none⟩ = some (.slice (some ⟨bb, 0, none⟩) (n + 1) (n + 1)) := cell0_of hg1 rfl
    have x0 := hT1.nums.cell (i := q) (x := .int .i64 (Sy.cnt l (q : Int) : Nat)) (by unfold iC; rw [List.getElem?_map, Sy.bounds_at (by omega)]; rfl)
    have x1 := hT1.nums.cell (i := q + 1) (x := .int .i64 (Sy.cnt l ((q : Int) + 1) : Nat)) (by unfold iC; rw [List.getElem?_map, Sy.bounds_at (by omega)]; rfl)
    have hle := Sy.cnt_mono l (q : Int)
    have hlm := Sy.cnt_le l ((q : Int) + 1)
    have hpc : ∀ W, Tb W B bs bb n l → BSteps.Has W (.slice (some ⟨bs, Sy.cnt l (q : Int) * 2, none⟩) (Sy.cnt l ((q : Int) + 1) - Sy.cnt l (q : Int)) (Sy.cnt l ((q : Int) + 1) - Sy.cnt l (q : Int))) (Sy.steps l q) := fun W hW => by
      rw [map_stp l q hs]
      exact piece_has hW.steps (Sy.cnt l (q : Int)) (Sy.cnt l ((q : Int) + 1) - Sy.cnt l (q : Int)) (Sy.cnt l ((q : Int) + 1) - Sy.cnt l (q : Int)) (by rw [List.length_map]; omega)
    have hz : Sy.cnt l ((q : Int) + 1) - Sy.cnt l (q : Int) = 0 → Sy.steps l q = [] := fun e => by rw [map_stp l q hs, e]; simp
    generalize Sy.cnt l (q : Int) = b at x0 hle hpc hz
    generalize Sy.cnt l ((q : Int) + 1) = e at x1 hle hlm hpc hz
    have r1 : (0 : Int) ≤ (q : Int) := by omega
    have r2 : (q : Int) < (n : Int) + 1 := by omega
    have r3 : (0 : Int) ≤ (q : Int) + 1 := by omega
    have r4 : (q : Int) + 1 < (n : Int) + 1 := by omega
    have r5 : ((q : Int) + 1).toNat = q + 1 := by omega
    have r6 : IntKind.i64.wrap ((q : Int) + 1) = (q : Int) + 1 := by rw [IntKind.wrap_i64]; omega
    have r7 : (0 : Int) ≤ (b : Int) := by omega
    have r8 : (b : Int) ≤ (e : Int) := by omega
    have r9 : (e : Int) ≤ (m : Int) := by omega
    have H1 : Hid _ := And.intro hw1 (And.intro hb1 (And.intro hpc hz))
    clear hw1 hb1 hg1 hT1 hT hB hpc hz hs hl hi
    go_enter Tryd.func45, Tryd.ntmps45
    go_upto_region 1 with fail
    rw [← H1.out.1]
    go_wp2_with (go_at_call 55; refine (HB.out _).mono ?_; rintro r w2 ⟨rfl, hw2⟩; obtain rfl := hw2.symm)
    go_quiet (fail)
    go_wp2_with fail
    · go_ret
      refine ⟨_, rfl, fun W _ => ?_, below_drewN H1.out.2.1 _⟩
      rw [H1.out.2.2.2 (by omega)]
      exact hasS_none _ _ _
    · go_ret
      exact ⟨_, rfl, H1.out.2.2.1, below_drewN H1.out.2.1 _⟩
  · rw [if_neg hi]
    rw [decide_eq_false hi] at HB
    have c1 : w1.cell? ⟨w.heap.size, 1, none⟩ = some (.slice (some ⟨bb, 0, none⟩) (n + 1) (n + 1)) := cell0_of hg1 rfl
    have H1 : Hid _ := And.intro hw1 hb1
    clear hw1 hb1 hg1 hT1 hT hB hs hl hi
    go_enter Tryd.func45, Tryd.ntmps45
    go_upto_region 1 with fail
    rw [← H1.out.1]
    go_wp2_with (go_at_call 55; refine (HB.out _).mono ?_; rintro r w2 ⟨rfl, hw2⟩; obtain rfl := hw2.symm)
    go_ret
    exact ⟨_, rfl, fun W _ => hasS_nil _ _, H1.out.2⟩
/-- A graph in memory: its box, and both tables. -/
structure Gr (w : World) (B g bs bb cs cb n : Nat) (k s : Int) (es : List Sy.Ed) : Prop where
  box : w.heap[g]? = some (.cells #[.int .i64 n, .int .i64 k, .int .i64 s, .slice (some ⟨bs, 0, none⟩) (Sy.nf es).length (Sy.nf es).length, .slice (some ⟨bb, 0, none⟩) (n + 1) (n + 1), .slice (some ⟨cs, 0, none⟩) (Sy.nf es).length (Sy.nf es).length, .slice (some ⟨cb, 0, none⟩) (n + 1) (n + 1)] 72 (0, 0))
  up : B ≤ g
  out : Tb w B bs bb n (Sy.nf es)
  inn : Tb w B cs cb n (Sy.nf ((Sy.nf es).map Sy.turn))
  right : Sy.right n k s es = true
theorem Gr.below {w w' : World} {B g bs bb cs cb n : Nat} {k s : Int} {es : List Sy.Ed} (h : Gr w B g bs bb cs cb n k s es) (hb : Below w.heap.size w w') : Gr w' B g bs bb cs cb n k s es :=
  ⟨(hb.block _ (t_lt h.box)).trans h.box, h.up, h.out.below hb, h.inn.below hb, h.right⟩
theorem right_parts {n k s : Int} {es : List Sy.Ed} (h : Sy.right n k s es = true) : (0 ≤ n ∧ n ≤ 1000) ∧ (1 ≤ k ∧ k ≤ 201) ∧ es.length ≤ 10000 ∧ (n = 0 → s = 0) ∧ (0 < n → 0 ≤ s ∧ s < n) ∧ ∀ e ∈ es, 0 ≤ e.1 ∧ e.1 < n ∧ 0 ≤ e.2.2 ∧ e.2.2 < n ∧ 0 ≤ e.2.1 ∧ e.2.1 < k := by
  unfold Sy.right at h
  simp only [Bool.and_eq_true, decide_eq_true_eq, List.all_eq_true] at h
  obtain ⟨⟨h1, h2⟩, h3⟩ := h
  exact ⟨⟨h1.1, h1.2.1⟩, ⟨h1.2.2.1, h1.2.2.2.1⟩, h1.2.2.2.2, h2.1, h2.2, h3⟩
theorem str_rows {l : List Sy.Ed} (h : Sy.Str l) : Sy.Rows l := by
  induction l with
  | nil => exact .nil
  | cons a r ih =>
    refine List.pairwise_cons.2 ⟨fun b hb => ?_, ih h.tail⟩
    have h1 := h.head b hb
    rw [Sy.lt_iff] at h1
    omega
theorem nf_rows (l : List Sy.Ed) : Sy.Rows (Sy.nf l) := str_rows (Sy.nf_str l)
theorem turn_turn (e : Sy.Ed) : Sy.turn (Sy.turn e) = e := rfl
theorem nf_turn_len (l : List Sy.Ed) : (Sy.nf ((Sy.nf l).map Sy.turn)).length = (Sy.nf l).length := by
  apply Nat.le_antisymm
  · have h := Sy.nf_len ((Sy.nf l).map Sy.turn)
    rw [List.length_map] at h
    exact h
  · have h := Sy.str_len (m := Sy.nf l) (l := (Sy.nf ((Sy.nf l).map Sy.turn)).map Sy.turn) (Sy.nf_str l) (fun x hx => by
      refine List.mem_map.2 ⟨Sy.turn x, ?_, turn_turn x⟩
      rw [Sy.nf_mem]
      exact List.mem_map.2 ⟨x, hx, rfl⟩)
    rw [List.length_map] at h
    exact h
theorem Gr.sizes {w : World} {B g bs bb cs cb n : Nat} {k s : Int} {es : List Sy.Ed} (h : Gr w B g bs bb cs cb n k s es) : n ≤ 1000 ∧ (Sy.nf es).length ≤ 10000 := by
  obtain ⟨⟨_, h1⟩, _, h2, _⟩ := right_parts h.right
  have := Sy.nf_len es
  exact ⟨by omega, by omega⟩
theorem Gr.cells {w : World} {B g bs bb cs cb n : Nat} {k s : Int} {es : List Sy.Ed} (h : Gr w B g bs bb cs cb n k s es) :
    w.cell? ⟨g, 0, none⟩ = some (.int .i64 n) ∧ w.cell? ⟨g, 1, none⟩ = some (.int .i64 k) ∧ w.cell? ⟨g, 2, none⟩ = some (.int .i64 s) ∧ (w.cell? ⟨g, 3, none⟩ = some (.slice (some ⟨bs, 0, none⟩) (Sy.nf es).length (Sy.nf es).length) ∧ w.cell? ⟨g, 4, none⟩ = some (.slice (some ⟨bb, 0, none⟩) (n + 1) (n + 1))) ∧ w.cell? ⟨g, 5, none⟩ = some (.slice (some ⟨cs, 0, none⟩) (Sy.nf es).length (Sy.nf es).length) ∧ w.cell? ⟨g, 6, none⟩ = some (.slice (some ⟨cb, 0, none⟩) (n + 1) (n + 1)) :=
  ⟨cell0_of h.box rfl, cell0_of h.box rfl, cell0_of h.box rfl, ⟨cell0_of h.box rfl, cell0_of h.box rfl⟩, cell0_of h.box rfl, cell0_of h.box rfl⟩
theorem Tryd.eqG (g : Nat) (w : World) : (binOp BinOp.eql 43 (.pointer (some ⟨g, 0, none⟩)) (.pointer none)).run Tryd.prog w = .ok (.bool false) w := by kernel_rfl
/-- The rows of a graph's tables. -/
theorem Gr.row {w : World} {B g bs bb cs cb n : Nat} {k s : Int} {es : List Sy.Ed} (h : Gr w B g bs bb cs cb n k s es) (i : Int) : Calls Tryd.prog 45 #[.agg #[.slice (some ⟨bs, 0, none⟩) (Sy.nf es).length (Sy.nf es).length, .slice (some ⟨bb, 0, none⟩) (n + 1) (n + 1)], .int .i64 i] w fun r w' => ∃ v, r = .returned v ∧ (∀ W, Tb W B bs bb n (Sy.nf es) → BSteps.Has W v (Sy.rowOf n (Sy.nf es) i)) ∧ Below w.heap.size w w' := by
  obtain ⟨h1, h2⟩ := h.sizes
  exact row_any bs bb (Sy.nf es).length n B (Sy.nf es) i w (by omega) rfl (nf_rows _) h.out
theorem Gr.rowIn {w : World} {B g bs bb cs cb n : Nat} {k s : Int} {es : List Sy.Ed} (h : Gr w B g bs bb cs cb n k s es) (i : Int) : Calls Tryd.prog 45 #[.agg #[.slice (some ⟨cs, 0, none⟩) (Sy.nf es).length (Sy.nf es).length, .slice (some ⟨cb, 0, none⟩) (n + 1) (n + 1)], .int .i64 i] w fun r w' => ∃ v, r = .returned v ∧ (∀ W, Tb W B cs cb n (Sy.nf ((Sy.nf es).map Sy.turn)) → BSteps.Has W v (Sy.rowOf n (Sy.nf ((Sy.nf es).map Sy.turn)) i)) ∧ Below w.heap.size w w' := by
  obtain ⟨h1, h2⟩ := h.sizes
  exact row_any cs cb (Sy.nf es).length n B (Sy.nf ((Sy.nf es).map Sy.turn)) i w (by omega) (nf_turn_len es) (nf_rows _) h.inn
set_option maxRecDepth 100000 in
theorem states_any {B g bs bb cs cb n : Nat} {k s : Int} {es : List Sy.Ed} (w : World) (h : Gr w B g bs bb cs cb n k s es) : Calls Tryd.prog 46 #[.pointer (some ⟨g, 0, none⟩)] w fun r w' => r = .returned (.int .i64 n) ∧ w' = w := by
  obtain ⟨c0, _, _, _, _, _⟩ := h.cells
  have hq := Tryd.eqG g
  clear h
  go_enter Tryd.func46, Tryd.ntmps46
  go_wp2
  go_ret
  exact ⟨rfl, rfl⟩
set_option maxRecDepth 100000 in
set_option maxHeartbeats 1000000 in
theorem out_any {B g bs bb cs cb n : Nat} {k s : Int} {es : List Sy.Ed} (i : Int) (w : World) (h : Gr w B g bs bb cs cb n k s es) : Calls Tryd.prog 25 #[.pointer (some ⟨g, 0, none⟩), .int .i64 i] w fun r w' => ∃ u, r = .returned u ∧ BSteps.Own w' w.heap.size u (Sy.rowOf n (Sy.nf es) i) ∧ Below w.heap.size w w' := by
  obtain ⟨_, _, _, ⟨c0, c1⟩, _, _⟩ := h.cells
  have hq := Tryd.eqG g
  have hR := h.row i
  have hTb := h.out
  have hl := rowOf_len n (Sy.nf es) i
  have hs := h.sizes
  have hs2 := nf_turn_len es
  have HR : Hid _ := And.intro hR (And.intro hl (And.intro hs (And.intro hs2 hTb)))
  obtain ⟨L, hL⟩ : ∃ L, L = (Sy.nf es).length := ⟨_, rfl⟩
  rw [← hL] at c0 HR
  clear h hR hL hl hs hs2 hTb
  go_enter Tryd.func25, Tryd.ntmps25
  go_wp2_with fail
  refine Calls.mono HR.out.1 ?_
  rintro r w1 ⟨v, rfl, hvW, hb⟩
  have hv := hvW w1 (HR.out.2.2.2.2.below hb)
  clear hvW
  have hC := cloneSteps_any v _ w1 (by have := HR.out.2; omega) hv
  have HC : Hid _ := And.intro hC hb
  obtain ⟨av, cv, rfl, _⟩ := hv
  clear hC hb
  go_wp2_with fail
  refine Calls.mono HC.out.1 ?_
  rintro r w2 ⟨u, rfl, hO, hb2⟩
  have H2 : Hid _ := And.intro hO hb2
  obtain ⟨au, cu, rfl⟩ := row_shape hO
  clear hO hb2
  go_wp2_with fail
  go_ret
  exact ⟨_, rfl, row_base H2.out.1 HC.out.2.size, HC.out.2.trans (H2.out.2.mono HC.out.2.size)⟩
set_option maxRecDepth 100000 in
set_option maxHeartbeats 1000000 in
theorem in_any {B g bs bb cs cb n : Nat} {k s : Int} {es : List Sy.Ed} (i : Int) (w : World) (h : Gr w B g bs bb cs cb n k s es) : Calls Tryd.prog 26 #[.pointer (some ⟨g, 0, none⟩), .int .i64 i] w fun r w' => ∃ u, r = .returned u ∧ BSteps.Own w' w.heap.size u (Sy.rowOf n (Sy.nf ((Sy.nf es).map Sy.turn)) i) ∧ Below w.heap.size w w' := by
  obtain ⟨_, _, _, _, c0, c1⟩ := h.cells
  have hq := Tryd.eqG g
  have hR := h.rowIn i
  have hTb := h.inn
  have hl := rowOf_len n (Sy.nf ((Sy.nf es).map Sy.turn)) i
  have hs := h.sizes
  have hs2 := nf_turn_len es
  have HR : Hid _ := And.intro hR (And.intro hl (And.intro hs (And.intro hs2 hTb)))
  obtain ⟨L, hL⟩ : ∃ L, L = (Sy.nf es).length := ⟨_, rfl⟩
  rw [← hL] at c0 HR
  clear h hR hL hl hs hs2 hTb
  go_enter Tryd.func26, Tryd.ntmps26
  go_wp2_with fail
  refine Calls.mono HR.out.1 ?_
  rintro r w1 ⟨v, rfl, hvW, hb⟩
  have hv := hvW w1 (HR.out.2.2.2.2.below hb)
  clear hvW
  have hC := cloneSteps_any v _ w1 (by have := HR.out.2; omega) hv
  have HC : Hid _ := And.intro hC hb
  obtain ⟨av, cv, rfl, _⟩ := hv
  clear hC hb
  go_wp2_with fail
  refine Calls.mono HC.out.1 ?_
  rintro r w2 ⟨u, rfl, hO, hb2⟩
  have H2 : Hid _ := And.intro hO hb2
  obtain ⟨au, cu, rfl⟩ := row_shape hO
  clear hO hb2
  go_wp2_with fail
  go_ret
  exact ⟨_, rfl, row_base H2.out.1 HC.out.2.size, HC.out.2.trans (H2.out.2.mono HC.out.2.size)⟩
end Go.Proofs.YtcjeijmphgpecaaDoor
