/- Texts of this claim, joined: SyGr, SyRow2, SyBin, SyOut, SyBack, SyReach0, SyEnds. -/
import Derived.Test.YtladdlkfnfdhaaaDoorPart5
import Derived.Test.YtladdlkfnfdhaaaDoorPart2
import Derived.Test.YtladdlkfnfdhaaaDoorPart3
import Derived.Deep.DeepCutAuto
import Derived.Test.YtladdlkfnfdhaaaDoorPart0
import Derived.Deep.AppendLies
namespace Go.Proofs.YtladdlkfnfdhaaaDoor
section
open Go.RowKit Go.Maps
attribute [local go_sem ↓] Go.wp_at_zero Go.wp_at_succ
/-- A block from B on that holds just these cells. -/
def Blk (ty : TypeId) (B : Nat) (w : World) (g : Nat) (vs : List Value) : Prop := (∃ cs, w.heap[g]? = some (.cells cs ty (0, 0)) ∧ cs.toList = vs) ∧ B ≤ g
theorem Blk.of_arr {ty : TypeId} {w wr : World} {g : Nat} {vs : List Value} (h : Arr ty w wr g vs) : Blk ty w.heap.size wr g vs := ⟨h.ids, h.gu⟩
theorem Blk.lt {ty : TypeId} {B : Nat} {w : World} {g : Nat} {vs : List Value} (h : Blk ty B w g vs) : g < w.heap.size := by
  obtain ⟨⟨cs, hc, _⟩, _⟩ := h
  exact t_lt hc
theorem Blk.at {ty : TypeId} {B : Nat} {w w' : World} {g : Nat} {vs : List Value} (h : Blk ty B w g vs) (hb : w'.heap[g]? = w.heap[g]?) : Blk ty B w' g vs := by
  obtain ⟨⟨cs, hc, hx⟩, hg⟩ := h
  exact ⟨⟨cs, hb.trans hc, hx⟩, hg⟩
theorem Blk.below {ty : TypeId} {B : Nat} {w w' : World} {g : Nat} {vs : List Value} (h : Blk ty B w g vs) (hb : Below w.heap.size w w') : Blk ty B w' g vs := h.at (hb.block _ h.lt)
theorem Blk.cell {ty : TypeId} {B : Nat} {w : World} {g : Nat} {vs : List Value} (h : Blk ty B w g vs) {i : Nat} {x : Value} (hi : vs[i]? = some x) : w.cell? ⟨g, i, none⟩ = some x := by
  obtain ⟨⟨cs, hc, hx⟩, _⟩ := h
  refine cell0_of hc ?_
  rw [← Array.getElem?_toList, hx]
  exact hi
theorem Blk.base {ty : TypeId} {B B' : Nat} {w : World} {g : Nat} {vs : List Value} (h : Blk ty B w g vs) (hb : B' ≤ B) : Blk ty B' w g vs := ⟨h.1, Nat.le_trans hb h.2⟩
/-- A table as a value, and in memory. -/
def tabV (bs bb m n : Nat) : Value := .agg #[.slice (some ⟨bs, 0, none⟩) m m, .slice (some ⟨bb, 0, none⟩) (n + 1) (n + 1)]
structure Tb (w : World) (B bs bb n : Nat) (l : List Sy.Ed) : Prop where
  steps : Blk 42 B w bs (BSteps.C (l.map stp))
  nums : Blk 3 B w bb (iC (Sy.bounds n l))
theorem Tb.below {w w' : World} {B bs bb n : Nat} {l : List Sy.Ed} (h : Tb w B bs bb n l) (hb : Below w.heap.size w w') : Tb w' B bs bb n l := ⟨h.steps.below hb, h.nums.below hb⟩
theorem Tb.kept {w w' : World} {B bs bb n : Nat} {l : List Sy.Ed} {F : Nat → Prop} (h : Tb w B bs bb n l) (hk : Kept F w w') (h1 : ¬ F bs) (h2 : ¬ F bb) : Tb w' B bs bb n l := ⟨h.steps.at (hk.block _ h.steps.lt h1), h.nums.at (hk.block _ h.nums.lt h2)⟩
/-- The steps of a state; none of what is no state. -/
def Sy.rowOf (n : Nat) (l : List Sy.Ed) (i : Int) : List BSteps.El := if 0 ≤ i ∧ i < (n : Int) then Sy.steps l i else []
theorem map_stp (l : List Sy.Ed) (i : Int) (h : Sy.Rows l) : Sy.steps l i = ((l.map stp).drop (Sy.cnt l i)).take (Sy.cnt l (i + 1) - Sy.cnt l i) := by
  unfold Sy.steps
  rw [Sy.row_piece h i, List.map_take, List.map_drop]
  rfl
theorem rowOf_len (n : Nat) (l : List Sy.Ed) (i : Int) : (Sy.rowOf n l i).length ≤ l.length := by
  unfold Sy.rowOf
  split
  · exact Sy.steps_len l i
  · simp
theorem hasS_nil (w : World) (c : Nat) : BSteps.Has w (.slice none 0 c) [] := ⟨none, c, rfl, fun j u h => by simp [BSteps.C] at h⟩
theorem hasS_none (w : World) (a : Option Addr) (c : Nat) : BSteps.Has w (.slice a 0 c) [] := ⟨a, c, rfl, fun j u h => by simp [BSteps.C] at h⟩
/-- A piece of a table's steps. -/
theorem piece_has {w : World} {B bs : Nat} {zs : List BSteps.El} (h : Blk 42 B w bs (BSteps.C zs)) (i k c : Nat) (hk : i + k ≤ zs.length) : BSteps.Has w (.slice (some ⟨bs, i * 2, none⟩) k c) ((zs.drop i).take k) := by
  have hl : ((zs.drop i).take k).length = k := by rw [List.length_take, List.length_drop]; omega
  refine ⟨some ⟨bs, i * 2, none⟩, c, by rw [hl], fun j u hj => ⟨_, rfl, ?_⟩⟩
  have hj2 : j < k * 2 := by have := (List.getElem?_eq_some_iff.1 hj).1; rw [BSteps.C_len, hl] at this; exact this
  obtain ⟨z, hz⟩ : ∃ z, ((zs.drop i).take k)[j / 2]? = some z := ⟨_, List.getElem?_eq_getElem (by rw [hl]; omega)⟩
  have h1 := BSteps.C_at _ (j / 2) z hz (j % 2) (Nat.mod_lt _ (by decide))
  rw [show j / 2 * 2 + j % 2 = j by omega, hj] at h1
  have hz2 : zs[i + j / 2]? = some z := by
    rw [List.getElem?_take_of_lt (by omega), List.getElem?_drop] at hz
    exact hz
  have h2 := BSteps.C_at _ (i + j / 2) z hz2 (j % 2) (Nat.mod_lt _ (by decide))
  rw [← h1] at h2
  have h3 := h.cell h2
  rw [show (i + j / 2) * 2 + j % 2 = i * 2 + j by omega] at h3
  rw [Addr.add_lit]
  exact h3
set_option maxRecDepth 100000 in
set_option maxHeartbeats 4000000 in
theorem row_any (bs bb m n B : Nat) (l : List Sy.Ed) (i : Int) (w : World) (hn : n ≤ 100000) (hl : l.length = m) (hs : Sy.Rows l) (hT : Tb w B bs bb n l) :
    Calls Tryd.prog 25 #[tabV bs bb m n, .int .i64 i] w fun r w' => ∃ v, r = .returned v ∧ (∀ W, Tb W B bs bb n l → BSteps.Has W v (Sy.rowOf n l i)) ∧ Below w.heap.size w w' := by
  obtain ⟨w1, hw1⟩ : ∃ w1, w1 = w.alloc (.cells #[.slice (some ⟨bs, 0, none⟩) m m, .slice (some ⟨bb, 0, none⟩) (n + 1) (n + 1)] 61) := ⟨_, rfl⟩
  have hb1 : Below w.heap.size w w1 := by rw [hw1]; exact (Below.refl _ _).alloc (Nat.le_refl _) _
  have hg1 : w1.heap[w.heap.size]? = some (.cells #[.slice (some ⟨bs, 0, none⟩) m m, .slice (some ⟨bb, 0, none⟩) (n + 1) (n + 1)] 61 (0, 0)) := by rw [hw1]; exact heap_alloc_new w _
  have hT1 := hT.below hb1
  have hB := fun W => below_any i (n : Int) W
  have HB : Hid _ := hB
  have r0 : IntKind.i64.wrap ((n : Int) + 1 - 1) = (n : Int) := by rw [IntKind.wrap_i64]; omega
  unfold tabV Sy.rowOf
  by_cases hi : 0 ≤ i ∧ i < (n : Int)
  · rw [if_pos hi]
    rw [decide_eq_true hi] at HB
    obtain ⟨q, rfl⟩ : ∃ q : Nat, i = (q : Int) := ⟨i.toNat, by omega⟩
    have hqn : q < n := by omega
    have c0 : w1.cell? ⟨w.heap.size, 0, none⟩ = some (.slice (some ⟨bs, 0, none⟩) m m) := cell0_of hg1 rfl
    have c1 : w1.cell? ⟨w.heap.size, 1, none⟩ = some (.slice (some ⟨bb, 0, none⟩) (n + 1) (n + 1)) := cell0_of hg1 rfl
    have x0 := hT1.nums.cell (i := q) (x := .int .i64 (Sy.cnt l (q : Int) : Nat)) (by unfold iC; rw [List.getElem?_map, Sy.bounds_at (by omega)]; rfl)
    have x1 := hT1.nums.cell (i := q + 1) (x := .int .i64 (Sy.cnt l ((q : Int) + 1) : Nat)) (by unfold iC; rw [List.getElem?_map, Sy.bounds_at (by omega)]; rfl)
    have hle := Sy.cnt_mono l (q : Int)
    have hlm := Sy.cnt_le l ((q : Int) + 1)
    have hpc : ∀ W, Tb W B bs bb n l → BSteps.Has W (.slice (some ⟨bs, Sy.cnt l (q : Int) * 2, none⟩) (Sy.cnt l ((q : Int) + 1) - Sy.cnt l (q : Int)) (Sy.cnt l ((q : Int) + 1) - Sy.cnt l (q : Int))) (Sy.steps l q) := fun W hW => by
      rw [map_stp l q hs]
      exact piece_has hW.steps (Sy.cnt l (q : Int)) (Sy.cnt l ((q : Int) + 1) - Sy.cnt l (q : Int)) (Sy.cnt l ((q : Int) + 1) - Sy.cnt l (q : Int)) (by rw [List.length_map]; omega)
    have hz : Sy.cnt l ((q : Int) + 1) - Sy.cnt l (q : Int) = 0 → Sy.steps l q = [] := fun e => by rw [map_stp l q hs, e]; simp
    generalize Sy.cnt l (q : Int) = b at x0 hle hpc hz
    generalize Sy.cnt l ((q : Int) + 1) = e at x1 hle hlm hpc hz
    have r1 : (0 : Int) ≤ (q : Int) := by omega
    have r2 : (q : Int) < (n : Int) + 1 := by omega
    have r3 : (0 : Int) ≤ (q : Int) + 1 := by omega
    have r4 : (q : Int) + 1 < (n : Int) + 1 := by omega
    have r5 : ((q : Int) + 1).toNat = q + 1 := by omega
    have r6 : IntKind.i64.wrap ((q : Int) + 1) = (q : Int) + 1 := by rw [IntKind.wrap_i64]; omega
    have r7 : (0 : Int) ≤ (b : Int) := by omega
    have r8 : (b : Int) ≤ (e : Int) := by omega
    have r9 : (e : Int) ≤ (m : Int) := by omega
    have H1 : Hid _ := And.intro hw1 (And.intro hb1 (And.intro hpc hz))
    clear hw1 hb1 hg1 hT1 hT hB hpc hz hs hl hi
    go_enter Tryd.func25, Tryd.ntmps25
    go_upto_region 1 with fail
    rw [← H1.out.1]
    go_wp2_with (go_at_call 40; refine (HB.out _).mono ?_; rintro r w2 ⟨rfl, hw2⟩; obtain rfl := hw2.symm)
    go_quiet (fail)
    go_wp2_with fail
    · go_ret
      refine ⟨_, rfl, fun W _ => ?_, below_drewN H1.out.2.1 _⟩
      rw [H1.out.2.2.2 (by omega)]
      exact hasS_none _ _ _
    · go_ret
      exact ⟨_, rfl, H1.out.2.2.1, below_drewN H1.out.2.1 _⟩
  · rw [if_neg hi]
    rw [decide_eq_false hi] at HB
    have c1 : w1.cell? ⟨w.heap.size, 1, none⟩ = some (.slice (some ⟨bb, 0, none⟩) (n + 1) (n + 1)) := cell0_of hg1 rfl
    have H1 : Hid _ := And.intro hw1 hb1
    clear hw1 hb1 hg1 hT1 hT hB hs hl hi
    go_enter Tryd.func25, Tryd.ntmps25
    go_upto_region 1 with fail
    rw [← H1.out.1]
    go_wp2_with (go_at_call 40; refine (HB.out _).mono ?_; rintro r w2 ⟨rfl, hw2⟩; obtain rfl := hw2.symm)
    go_ret
    exact ⟨_, rfl, fun W _ => hasS_nil _ _, H1.out.2⟩
/-- A graph in memory: its box, and both tables. -/
structure Gr (w : World) (B g bs bb cs cb n : Nat) (k s : Int) (es : List Sy.Ed) : Prop where
  box : w.heap[g]? = some (.cells #[.int .i64 n, .int .i64 k, .int .i64 s, .slice (some ⟨bs, 0, none⟩) (Sy.nf es).length (Sy.nf es).length, .slice (some ⟨bb, 0, none⟩) (n + 1) (n + 1), .slice (some ⟨cs, 0, none⟩) (Sy.nf es).length (Sy.nf es).length, .slice (some ⟨cb, 0, none⟩) (n + 1) (n + 1)] 66 (0, 0))
  up : B ≤ g
  out : Tb w B bs bb n (Sy.nf es)
  inn : Tb w B cs cb n (Sy.nf ((Sy.nf es).map Sy.turn))
  right : Sy.right n k s es = true
theorem Gr.below {w w' : World} {B g bs bb cs cb n : Nat} {k s : Int} {es : List Sy.Ed} (h : Gr w B g bs bb cs cb n k s es) (hb : Below w.heap.size w w') : Gr w' B g bs bb cs cb n k s es :=
  ⟨(hb.block _ (t_lt h.box)).trans h.box, h.up, h.out.below hb, h.inn.below hb, h.right⟩
theorem right_parts {n k s : Int} {es : List Sy.Ed} (h : Sy.right n k s es = true) : (0 ≤ n ∧ n ≤ 1000) ∧ (1 ≤ k ∧ k ≤ 201) ∧ es.length ≤ 10000 ∧ (n = 0 → s = 0) ∧ (0 < n → 0 ≤ s ∧ s < n) ∧ ∀ e ∈ es, 0 ≤ e.1 ∧ e.1 < n ∧ 0 ≤ e.2.2 ∧ e.2.2 < n ∧ 0 ≤ e.2.1 ∧ e.2.1 < k := by
  unfold Sy.right at h
  simp only [Bool.and_eq_true, decide_eq_true_eq, List.all_eq_true] at h
  obtain ⟨⟨h1, h2⟩, h3⟩ := h
  exact ⟨⟨h1.1, h1.2.1⟩, ⟨h1.2.2.1, h1.2.2.2.1⟩, h1.2.2.2.2, h2.1, h2.2, h3⟩
theorem str_rows {l : List Sy.Ed} (h : Sy.Str l) : Sy.Rows l := by
  induction l with
  | nil => exact .nil
  | cons a r ih =>
    refine List.pairwise_cons.2 ⟨fun b hb => ?_, ih h.tail⟩
    have h1 := h.head b hb
    rw [Sy.lt_iff] at h1
    omega
theorem nf_rows (l : List Sy.Ed) : Sy.Rows (Sy.nf l) := str_rows (Sy.nf_str l)
theorem turn_turn (e : Sy.Ed) : Sy.turn (Sy.turn e) = e := rfl
theorem nf_turn_len (l : List Sy.Ed) : (Sy.nf ((Sy.nf l).map Sy.turn)).length = (Sy.nf l).length := by
  apply Nat.le_antisymm
  · have h := Sy.nf_len ((Sy.nf l).map Sy.turn)
    rw [List.length_map] at h
    exact h
  · have h := Sy.str_len (m := Sy.nf l) (l := (Sy.nf ((Sy.nf l).map Sy.turn)).map Sy.turn) (Sy.nf_str l) (fun x hx => by
      refine List.mem_map.2 ⟨Sy.turn x, ?_, turn_turn x⟩
      rw [Sy.nf_mem]
      exact List.mem_map.2 ⟨x, hx, rfl⟩)
    rw [List.length_map] at h
    exact h
theorem Gr.sizes {w : World} {B g bs bb cs cb n : Nat} {k s : Int} {es : List Sy.Ed} (h : Gr w B g bs bb cs cb n k s es) : n ≤ 1000 ∧ (Sy.nf es).length ≤ 10000 := by
  obtain ⟨⟨_, h1⟩, _, h2, _⟩ := right_parts h.right
  have := Sy.nf_len es
  exact ⟨by omega, by omega⟩
theorem Gr.cells {w : World} {B g bs bb cs cb n : Nat} {k s : Int} {es : List Sy.Ed} (h : Gr w B g bs bb cs cb n k s es) :
    w.cell? ⟨g, 0, none⟩ = some (.int .i64 n) ∧ w.cell? ⟨g, 1, none⟩ = some (.int .i64 k) ∧ w.cell? ⟨g, 2, none⟩ = some (.int .i64 s) ∧ (w.cell? ⟨g, 3, none⟩ = some (.slice (some ⟨bs, 0, none⟩) (Sy.nf es).length (Sy.nf es).length) ∧ w.cell? ⟨g, 4, none⟩ = some (.slice (some ⟨bb, 0, none⟩) (n + 1) (n + 1))) ∧ w.cell? ⟨g, 5, none⟩ = some (.slice (some ⟨cs, 0, none⟩) (Sy.nf es).length (Sy.nf es).length) ∧ w.cell? ⟨g, 6, none⟩ = some (.slice (some ⟨cb, 0, none⟩) (n + 1) (n + 1)) :=
  ⟨cell0_of h.box rfl, cell0_of h.box rfl, cell0_of h.box rfl, ⟨cell0_of h.box rfl, cell0_of h.box rfl⟩, cell0_of h.box rfl, cell0_of h.box rfl⟩
theorem Tryd.eqG (g : Nat) (w : World) : (binOp BinOp.eql 36 (.pointer (some ⟨g, 0, none⟩)) (.pointer none)).run Tryd.prog w = .ok (.bool false) w := by kernel_rfl
/-- The rows of a graph's tables. -/
theorem Gr.row {w : World} {B g bs bb cs cb n : Nat} {k s : Int} {es : List Sy.Ed} (h : Gr w B g bs bb cs cb n k s es) (i : Int) : Calls Tryd.prog 25 #[.agg #[.slice (some ⟨bs, 0, none⟩) (Sy.nf es).length (Sy.nf es).length, .slice (some ⟨bb, 0, none⟩) (n + 1) (n + 1)], .int .i64 i] w fun r w' => ∃ v, r = .returned v ∧ (∀ W, Tb W B bs bb n (Sy.nf es) → BSteps.Has W v (Sy.rowOf n (Sy.nf es) i)) ∧ Below w.heap.size w w' := by
  obtain ⟨h1, h2⟩ := h.sizes
  exact row_any bs bb (Sy.nf es).length n B (Sy.nf es) i w (by omega) rfl (nf_rows _) h.out
theorem Gr.rowIn {w : World} {B g bs bb cs cb n : Nat} {k s : Int} {es : List Sy.Ed} (h : Gr w B g bs bb cs cb n k s es) (i : Int) : Calls Tryd.prog 25 #[.agg #[.slice (some ⟨cs, 0, none⟩) (Sy.nf es).length (Sy.nf es).length, .slice (some ⟨cb, 0, none⟩) (n + 1) (n + 1)], .int .i64 i] w fun r w' => ∃ v, r = .returned v ∧ (∀ W, Tb W B cs cb n (Sy.nf ((Sy.nf es).map Sy.turn)) → BSteps.Has W v (Sy.rowOf n (Sy.nf ((Sy.nf es).map Sy.turn)) i)) ∧ Below w.heap.size w w' := by
  obtain ⟨h1, h2⟩ := h.sizes
  exact row_any cs cb (Sy.nf es).length n B (Sy.nf ((Sy.nf es).map Sy.turn)) i w (by omega) (nf_turn_len es) (nf_rows _) h.inn
set_option maxRecDepth 100000 in
theorem states_any {B g bs bb cs cb n : Nat} {k s : Int} {es : List Sy.Ed} (w : World) (h : Gr w B g bs bb cs cb n k s es) : Calls Tryd.prog 49 #[.pointer (some ⟨g, 0, none⟩)] w fun r w' => r = .returned (.int .i64 n) ∧ w' = w := by
  obtain ⟨c0, _, _, _, _, _⟩ := h.cells
  have hq := Tryd.eqG g
  clear h
  go_enter Tryd.func49, Tryd.ntmps49
  go_wp2
  go_ret
  exact ⟨rfl, rfl⟩
set_option maxRecDepth 100000 in
set_option maxHeartbeats 1000000 in
theorem out_any {B g bs bb cs cb n : Nat} {k s : Int} {es : List Sy.Ed} (i : Int) (w : World) (h : Gr w B g bs bb cs cb n k s es) : Calls Tryd.prog 10 #[.pointer (some ⟨g, 0, none⟩), .int .i64 i] w fun r w' => ∃ u, r = .returned u ∧ BSteps.Own w' w.heap.size u (Sy.rowOf n (Sy.nf es) i) ∧ Below w.heap.size w w' := by
  obtain ⟨_, _, _, ⟨c0, c1⟩, _, _⟩ := h.cells
  have hq := Tryd.eqG g
  have hR := h.row i
  have hTb := h.out
  have hl := rowOf_len n (Sy.nf es) i
  have hs := h.sizes
  have hs2 := nf_turn_len es
  have HR : Hid _ := And.intro hR (And.intro hl (And.intro hs (And.intro hs2 hTb)))
  obtain ⟨L, hL⟩ : ∃ L, L = (Sy.nf es).length := ⟨_, rfl⟩
  rw [← hL] at c0 HR
  clear h hR hL hl hs hs2 hTb
  go_enter Tryd.func10, Tryd.ntmps10
  go_wp2_with fail
  refine Calls.mono HR.out.1 ?_
  rintro r w1 ⟨v, rfl, hvW, hb⟩
  have hv := hvW w1 (HR.out.2.2.2.2.below hb)
  clear hvW
  have hC := cloneSteps_any v _ w1 (by have := HR.out.2; omega) hv
  have HC : Hid _ := And.intro hC hb
  obtain ⟨av, cv, rfl, _⟩ := hv
  clear hC hb
  go_wp2_with fail
  refine Calls.mono HC.out.1 ?_
  rintro r w2 ⟨u, rfl, hO, hb2⟩
  have H2 : Hid _ := And.intro hO hb2
  obtain ⟨au, cu, rfl⟩ := row_shape hO
  clear hO hb2
  go_wp2_with fail
  go_ret
  exact ⟨_, rfl, row_base H2.out.1 HC.out.2.size, HC.out.2.trans (H2.out.2.mono HC.out.2.size)⟩
set_option maxRecDepth 100000 in
set_option maxHeartbeats 1000000 in
theorem in_any {B g bs bb cs cb n : Nat} {k s : Int} {es : List Sy.Ed} (i : Int) (w : World) (h : Gr w B g bs bb cs cb n k s es) : Calls Tryd.prog 63 #[.pointer (some ⟨g, 0, none⟩), .int .i64 i] w fun r w' => ∃ u, r = .returned u ∧ BSteps.Own w' w.heap.size u (Sy.rowOf n (Sy.nf ((Sy.nf es).map Sy.turn)) i) ∧ Below w.heap.size w w' := by
  obtain ⟨_, _, _, _, c0, c1⟩ := h.cells
  have hq := Tryd.eqG g
  have hR := h.rowIn i
  have hTb := h.inn
  have hl := rowOf_len n (Sy.nf ((Sy.nf es).map Sy.turn)) i
  have hs := h.sizes
  have hs2 := nf_turn_len es
  have HR : Hid _ := And.intro hR (And.intro hl (And.intro hs (And.intro hs2 hTb)))
  obtain ⟨L, hL⟩ : ∃ L, L = (Sy.nf es).length := ⟨_, rfl⟩
  rw [← hL] at c0 HR
  clear h hR hL hl hs hs2 hTb
  go_enter Tryd.func63, Tryd.ntmps63
  go_wp2_with fail
  refine Calls.mono HR.out.1 ?_
  rintro r w1 ⟨v, rfl, hvW, hb⟩
  have hv := hvW w1 (HR.out.2.2.2.2.below hb)
  clear hvW
  have hC := cloneSteps_any v _ w1 (by have := HR.out.2; omega) hv
  have HC : Hid _ := And.intro hC hb
  obtain ⟨av, cv, rfl, _⟩ := hv
  clear hC hb
  go_wp2_with fail
  refine Calls.mono HC.out.1 ?_
  rintro r w2 ⟨u, rfl, hO, hb2⟩
  have H2 : Hid _ := And.intro hO hb2
  obtain ⟨au, cu, rfl⟩ := row_shape hO
  clear hO hb2
  go_wp2_with fail
  go_ret
  exact ⟨_, rfl, row_base H2.out.1 HC.out.2.size, HC.out.2.trans (H2.out.2.mono HC.out.2.size)⟩
end
section
open Go.RowKit Go.Maps
attribute [local go_sem ↓] Go.wp_at_zero Go.wp_at_succ
set_option maxRecDepth 100000 in
set_option maxHeartbeats 4000000 in
theorem row2_any (bs bb m n B : Nat) (l : List Sy.Ed) (i : Int) (w : World) (hn : n ≤ 100000) (hl : l.length = m) (hs : Sy.Rows l) (hT : Tb w B bs bb n l) :
    Calls Tryd.prog 25 #[tabV bs bb m n, .int .i64 i] w fun r w' => ∃ v, r = .returned v ∧ (∀ W, Tb W B bs bb n l → BSteps.Has W v (Sy.rowOf n l i)) ∧ (∃ a k c, v = .slice a k c ∧ k ≤ c) ∧ Below w.heap.size w w' := by
  obtain ⟨w1, hw1⟩ : ∃ w1, w1 = w.alloc (.cells #[.slice (some ⟨bs, 0, none⟩) m m, .slice (some ⟨bb, 0, none⟩) (n + 1) (n + 1)] 61) := ⟨_, rfl⟩
  have hb1 : Below w.heap.size w w1 := by rw [hw1]; exact (Below.refl _ _).alloc (Nat.le_refl _) _
  have hg1 : w1.heap[w.heap.size]? = some (.cells #[.slice (some ⟨bs, 0, none⟩) m m, .slice (some ⟨bb, 0, none⟩) (n + 1) (n + 1)] 61 (0, 0)) := by rw [hw1]; exact heap_alloc_new w _
  have hT1 := hT.below hb1
  have hB := fun W => below_any i (n : Int) W
  have HB : Hid _ := hB
  have r0 : IntKind.i64.wrap ((n : Int) + 1 - 1) = (n : Int) := by rw [IntKind.wrap_i64]; omega
  unfold tabV Sy.rowOf
  by_cases hi : 0 ≤ i ∧ i < (n : Int)
  · rw [if_pos hi]
    rw [decide_eq_true hi] at HB
    obtain ⟨q, rfl⟩ : ∃ q : Nat, i = (q : Int) := ⟨i.toNat, by omega⟩
    have hqn : q < n := by omega
    have c0 : w1.cell? ⟨w.heap.size, 0, none⟩ = some (.slice (some ⟨bs, 0, none⟩) m m) := cell0_of hg1 rfl
    have c1 : w1.cell? ⟨w.heap.size, 1, none⟩ = some (.slice (some ⟨bb, 0, none⟩) (n + 1) (n + 1)) := cell0_of hg1 rfl
    have x0 := hT1.nums.cell (i := q) (x := .int .i64 (Sy.cnt l (q : Int) : Nat)) (by unfold iC; rw [List.getElem?_map, Sy.bounds_at (by omega)]; rfl)
    have x1 := hT1.nums.cell (i := q + 1) (x := .int .i64 (Sy.cnt l ((q : Int) + 1) : Nat)) (by unfold iC; rw [List.getElem?_map, Sy.bounds_at (by omega)]; rfl)
    have hle := Sy.cnt_mono l (q : Int)
    have hlm := Sy.cnt_le l ((q : Int) + 1)
    have hpc : ∀ W, Tb W B bs bb n l → BSteps.Has W (.slice (some ⟨bs, Sy.cnt l (q : Int) * 2, none⟩) (Sy.cnt l ((q : Int) + 1) - Sy.cnt l (q : Int)) (Sy.cnt l ((q : Int) + 1) - Sy.cnt l (q : Int))) (Sy.steps l q) := fun W hW => by
      rw [map_stp l q hs]
      exact piece_has hW.steps (Sy.cnt l (q : Int)) (Sy.cnt l ((q : Int) + 1) - Sy.cnt l (q : Int)) (Sy.cnt l ((q : Int) + 1) - Sy.cnt l (q : Int)) (by rw [List.length_map]; omega)
    have hz : Sy.cnt l ((q : Int) + 1) - Sy.cnt l (q : Int) = 0 → Sy.steps l q = [] := fun e => by rw [map_stp l q hs, e]; simp
    generalize Sy.cnt l (q : Int) = b at x0 hle hpc hz
    generalize Sy.cnt l ((q : Int) + 1) = e at x1 hle hlm hpc hz
    have r1 : (0 : Int) ≤ (q : Int) := by omega
    have r2 : (q : Int) < (n : Int) + 1 := by omega
    have r3 : (0 : Int) ≤ (q : Int) + 1 := by omega
    have r4 : (q : Int) + 1 < (n : Int) + 1 := by omega
    have r5 : ((q : Int) + 1).toNat = q + 1 := by omega
    have r6 : IntKind.i64.wrap ((q : Int) + 1) = (q : Int) + 1 := by rw [IntKind.wrap_i64]; omega
    have r7 : (0 : Int) ≤ (b : Int) := by omega
    have r8 : (b : Int) ≤ (e : Int) := by omega
    have r9 : (e : Int) ≤ (m : Int) := by omega
    have H1 : Hid _ := And.intro hw1 (And.intro hb1 (And.intro hpc hz))
    clear hw1 hb1 hg1 hT1 hT hB hpc hz hs hl hi
    go_enter Tryd.func25, Tryd.ntmps25
    go_upto_region 1 with fail
    rw [← H1.out.1]
    go_wp2_with (go_at_call 40; refine (HB.out _).mono ?_; rintro r w2 ⟨rfl, hw2⟩; obtain rfl := hw2.symm)
    go_quiet (fail)
    go_wp2_with fail
    · go_ret
      refine ⟨_, rfl, fun W _ => ?_, ⟨_, _, _, rfl, by omega⟩, below_drewN H1.out.2.1 _⟩
      rw [H1.out.2.2.2 (by omega)]
      exact hasS_none _ _ _
    · go_ret
      exact ⟨_, rfl, H1.out.2.2.1, ⟨_, _, _, rfl, by omega⟩, below_drewN H1.out.2.1 _⟩
  · rw [if_neg hi]
    rw [decide_eq_false hi] at HB
    have c1 : w1.cell? ⟨w.heap.size, 1, none⟩ = some (.slice (some ⟨bb, 0, none⟩) (n + 1) (n + 1)) := cell0_of hg1 rfl
    have H1 : Hid _ := And.intro hw1 hb1
    clear hw1 hb1 hg1 hT1 hT hB hs hl hi
    go_enter Tryd.func25, Tryd.ntmps25
    go_upto_region 1 with fail
    rw [← H1.out.1]
    go_wp2_with (go_at_call 40; refine (HB.out _).mono ?_; rintro r w2 ⟨rfl, hw2⟩; obtain rfl := hw2.symm)
    go_ret
    exact ⟨_, rfl, fun W _ => hasS_nil _ _, ⟨_, _, _, rfl, Nat.le_refl _⟩, H1.out.2⟩
end
section
open Go.RowKit Go.Maps
attribute [local go_sem ↓] Go.wp_at_zero Go.wp_at_succ
set_option maxRecDepth 100000 in
theorem ends1_any (a b l : Int) (w : World) : Calls Tryd.prog 42 #[.agg #[.int .i64 a, .int .i64 b], .int .i64 l] w fun r w' => r = .returned (.int .i64 (cmpI a l)) ∧ Below w.heap.size w w' := by
  obtain ⟨w1, hw1⟩ : ∃ w1, w1 = w.alloc (.cells #[.int .i64 a, .int .i64 b] 42) := ⟨_, rfl⟩
  have hb1 : Below w.heap.size w w1 := by rw [hw1]; exact (Below.refl _ _).alloc (Nat.le_refl _) _
  have hg1 : w1.heap[w.heap.size]? = some (.cells #[.int .i64 a, .int .i64 b] 42 (0, 0)) := by rw [hw1]; exact heap_alloc_new w _
  have c0 : w1.cell? ⟨w.heap.size, 0, none⟩ = some (.int .i64 a) := cell0_of hg1 rfl
  have H1 : Hid _ := And.intro hw1 (And.intro hb1 (cmpI_any a l w1))
  clear hw1 hb1 hg1
  go_enter Tryd.func42, Tryd.ntmps42
  go_upto_region 1 with fail
  rw [← H1.out.1]
  go_wp2_with fail
  refine Calls.mono H1.out.2.2 ?_
  rintro r w2 ⟨rfl, hw2⟩
  obtain rfl := hw2.symm
  clear hw2
  go_wp2_with fail
  go_ret
  exact ⟨rfl, H1.out.2.1⟩
theorem cmpI_neg (a b : Int) : cmpI a b < 0 ↔ a < b := by unfold cmpI; split <;> (try split) <;> omega
/-- Where a label begins in a row. -/
structure BinAt (zs : List BSteps.El) (l : Int) (i j : Nat) : Prop where
  lo : ∀ (k : Nat) (z : BSteps.El), k < i → zs[k]? = some z → z.1 < l
  hi : ∀ (k : Nat) (z : BSteps.El), j ≤ k → zs[k]? = some z → l ≤ z.1
theorem bin_begin (zs : List BSteps.El) (l : Int) : BinAt zs l 0 zs.length := ⟨fun k z h => by omega, fun k z h hz => by have := (List.getElem?_eq_some_iff.1 hz).1; omega⟩
theorem BinAt.left {zs : List BSteps.El} {l : Int} {i j h : Nat} (hB : BinAt zs l i j) (hs : zs.Pairwise fun x y => x.1 ≤ y.1) {z : BSteps.El} (hz : zs[h]? = some z) (hl : z.1 < l) : BinAt zs l (h + 1) j := by
  refine ⟨fun k y hk hy => ?_, hB.hi⟩
  by_cases e : k = h
  · subst e; rw [hz] at hy; cases hy; exact hl
  · obtain ⟨a1, a2⟩ := List.getElem?_eq_some_iff.1 hy
    obtain ⟨b1, b2⟩ := List.getElem?_eq_some_iff.1 hz
    have := List.pairwise_iff_getElem.1 hs k h a1 b1 (by omega)
    rw [a2, b2] at this
    omega
theorem BinAt.right {zs : List BSteps.El} {l : Int} {i j h : Nat} (hB : BinAt zs l i j) (hs : zs.Pairwise fun x y => x.1 ≤ y.1) {z : BSteps.El} (hz : zs[h]? = some z) (hl : ¬ z.1 < l) : BinAt zs l i h := by
  refine ⟨hB.lo, fun k y hk hy => ?_⟩
  by_cases e : k = h
  · subst e; rw [hz] at hy; cases hy; omega
  · obtain ⟨a1, a2⟩ := List.getElem?_eq_some_iff.1 hy
    obtain ⟨b1, b2⟩ := List.getElem?_eq_some_iff.1 hz
    have := List.pairwise_iff_getElem.1 hs h k b1 a1 (by omega)
    rw [a2, b2] at this
    omega
set_option maxRecDepth 100000 in
set_option maxHeartbeats 4000000 in
theorem bin_any (v : Value) (zs : List BSteps.El) (l : Int) (w : World) (hv : BSteps.Has w v zs) (hs : zs.Pairwise fun x y => x.1 ≤ y.1) (hn : zs.length ≤ 100000) :
    Calls Tryd.prog 41 #[v, .int .i64 l, .func (.func 42) #[] #[]] w fun r w' => ∃ (i : Nat) (b : Bool), r = .returned (.tuple #[.int .i64 i, .bool b]) ∧ i ≤ zs.length ∧ BinAt zs l i i ∧ Below w.heap.size w w' := by
  have hv0 := hv
  obtain ⟨ao, cap, rfl, _⟩ := hv0
  obtain ⟨n, hN⟩ : ∃ n, n = zs.length := ⟨_, rfl⟩
  rw [← hN] at hn hv ⊢
  have HV : Hid (BSteps.Has w (.slice ao n cap) zs ∧ n = zs.length ∧ zs.Pairwise (fun x y => x.1 ≤ y.1) ∧ BinAt zs l 0 n) := ⟨hv, hN, hs, by rw [hN]; exact bin_begin zs l⟩
  clear hv hN hs
  go_enter Tryd.func41, Tryd.ntmps41
  go_wp2_with fail
  go_loopg [9, 10] n (fun q iv jv wr => ∃ i j : Nat, q = j - i ∧ i ≤ j ∧ j ≤ n ∧ iv = .int .i64 i ∧ jv = .int .i64 j ∧ BinAt zs l i j ∧ Below w.heap.size w wr)
  case atStart => exact ⟨0, n, by omega, Nat.zero_le _, Nat.le_refl _, rfl, rfl, HV.out.2.2.2, Below.refl _ _⟩
  case round =>
    obtain ⟨i, j, rfl, hij, hjn, rfl, rfl, hB, hb⟩ := hrel
    obtain ⟨wq, rfl⟩ : ∃ wq, wq = wr := ⟨_, rfl⟩
    by_cases hlt : i < j
    · obtain ⟨h, hh⟩ : ∃ h, h = (i + j) / 2 := ⟨_, rfl⟩
      have h1 : i ≤ h := by omega
      have h2 : h < j := by omega
      have k0 : (i : Int) < (j : Int) := by omega
      have kh : ((i : Int) + (j : Int)) / 2 = (h : Int) := by omega
      obtain ⟨z, hz⟩ : ∃ z, zs[h]? = some z := ⟨zs[h]'(by have := HV.out.2.1; omega), List.getElem?_eq_getElem _⟩
      obtain ⟨a, rfl, d0, d1⟩ := step_at (HV.out.1.below hb) hz
      have k1 : (0 : Int) ≤ (h : Int) := by omega
      have k2 : (h : Int) < (n : Int) := by omega
      have hB1 := fun (hl : z.1 < l) => hB.left HV.out.2.2.1 hz hl
      have hB2 := fun (hl : ¬ z.1 < l) => hB.right HV.out.2.2.1 hz hl
      obtain ⟨z1, z2⟩ := z
      simp only at d0 d1 hB1 hB2
      have hE := ends1_any z1 z2 l wq
      have hcn := cmpI_neg z1 l
      obtain ⟨c, hc⟩ : ∃ c, c = cmpI z1 l := ⟨_, rfl⟩
      rw [← hc] at hE hcn
      have HE : Hid _ := And.intro hE (And.intro hb (And.intro hB1 hB2))
      clear hE hb hB1 hB2 hB hz hc hh
      by_cases hcl : c < 0
      · have HL : Hid (z1 < l) := hcn.1 hcl
        have k3 : decide (c < 0) = true := decide_eq_true hcl
        clear hcn
        go_wp2_with fail
        refine Calls.mono HE.out.1 ?_
        rintro r w2 ⟨rfl, hb2⟩
        have H2 : Hid _ := hb2
        clear hb2
        go_wp2_with fail
        go_roundg (j - (h + 1))
        case measure => omega
        case rel => exact ⟨h + 1, j, rfl, by omega, hjn, by go_num, rfl, HE.out.2.2.1 HL.out, HE.out.2.1.trans (H2.out.mono HE.out.2.1.size)⟩
      · have HL : Hid (¬ z1 < l) := fun h => hcl (hcn.2 h)
        have k3 : decide (c < 0) = false := decide_eq_false hcl
        clear hcn
        go_wp2_with fail
        refine Calls.mono HE.out.1 ?_
        rintro r w2 ⟨rfl, hb2⟩
        have H2 : Hid _ := hb2
        clear hb2
        go_wp2_with fail
        go_roundg (h - i)
        case measure => omega
        case rel => exact ⟨i, h, rfl, h1, by omega, rfl, rfl, HE.out.2.2.2 HL.out, HE.out.2.1.trans (H2.out.mono HE.out.2.1.size)⟩
    · obtain rfl : i = j := by omega
      have k0 : ¬ (i : Int) < (i : Int) := by omega
      by_cases hin : i < n
      · obtain ⟨z, hz⟩ : ∃ z, zs[i]? = some z := ⟨zs[i]'(by have := HV.out.2.1; omega), List.getElem?_eq_getElem _⟩
        obtain ⟨a, rfl, d0, d1⟩ := step_at (HV.out.1.below hb) hz
        have k1 : (0 : Int) ≤ (i : Int) := by omega
        have k2 : (i : Int) < (n : Int) := by omega
        have k3 : decide ((i : Int) < (n : Int)) = true := decide_eq_true k2
        obtain ⟨z1, z2⟩ := z
        simp only at d0 d1
        have hE := ends1_any z1 z2 l wq
        generalize cmpI z1 l = c at hE
        have HE : Hid _ := And.intro hE (And.intro hb hB)
        clear hE hb hB hz
        go_wp2_with fail
        refine Calls.mono HE.out.1 ?_
        rintro r w2 ⟨rfl, hb2⟩
        have H2 : Hid _ := hb2
        clear hb2
        go_wp2_with fail
        go_ret2
        exact ⟨i, _, rfl, hjn, HE.out.2.2, HE.out.2.1.trans (H2.out.mono HE.out.2.1.size)⟩
      · have k2 : ¬ (i : Int) < (n : Int) := by omega
        have HE : Hid _ := And.intro hb hB
        clear hb hB
        go_wp2_with fail
        go_ret2
        exact ⟨i, .inl rfl, hjn, HE.out.2, HE.out.1⟩
end
section
open Go.RowKit Go.Maps
attribute [local go_sem ↓] Go.wp_at_zero Go.wp_at_succ
/-- Rows of steps, one for each state, all of them from B on, no two in one block. -/
structure Outs (w : World) (B : Nat) (us : List Value) (n : Nat) (f : Nat → List BSteps.El) : Prop where
  len : us.length = n
  row : ∀ i, i < n → ∃ u, us[i]? = some u ∧ BSteps.Own w B u (f i)
  ap : ∀ (i j : Nat) (u x : Value) (b : Nat), us[i]? = some u → us[j]? = some x → i ≠ j → u.ownBlock = some b → x.ownBlock ≠ some b
theorem Outs.below {w w' : World} {B : Nat} {us : List Value} {n : Nat} {f : Nat → List BSteps.El} (h : Outs w B us n f) (hb : Below w.heap.size w w') : Outs w' B us n f :=
  ⟨h.len, fun i hi => by obtain ⟨u, h1, h2⟩ := h.row i hi; exact ⟨u, h1, trow_at h2 fun b hb' => hb.block b (h2.lt b hb').2⟩, h.ap⟩
theorem outs_new (w : World) (B n : Nat) : Outs w B (List.replicate n (.slice none 0 0)) n fun _ => [] :=
  ⟨by simp, fun i hi => ⟨.slice none 0 0, by rw [List.getElem?_replicate, if_pos hi], World.ownsRow_nil _ _ _ _⟩, fun i j u x b h1 _ _ h3 => by
    rw [List.getElem?_replicate] at h1
    split at h1
    · cases h1; cases h3
    · cases h1⟩
/-- One row has grown. -/
theorem Outs.set {w w' : World} {B : Nat} {us : List Value} {n : Nat} {f : Nat → List BSteps.El} (h : Outs w B us n f) {i : Nat} {u u' : Value} {F : Nat → Prop} (hi : i < n) (hu : us[i]? = some u) (hk : Kept F w w') (hF : ∀ b, F b → u.ownBlock = some b ∨ ∀ (j : Nat) (x : Value), us[j]? = some x → x.ownBlock ≠ some b) {zs : List BSteps.El} (hO : BSteps.Own w' B u' zs) (hat : u'.ownBlock = u.ownBlock ∨ ∀ b, u'.ownBlock = some b → w.heap.size ≤ b) :
    Outs w' B (us.set i u') n (fun j => if j = i then zs else f j) := by
  refine ⟨by rw [List.length_set]; exact h.len, fun j hj => ?_, fun a c x y b hx hy hac hb => ?_⟩
  · by_cases e : j = i
    · subst e
      exact ⟨u', List.getElem?_set_self (by rw [h.len]; exact hj), by rw [if_pos rfl]; exact hO⟩
    · obtain ⟨x, h1, h2⟩ := h.row j hj
      refine ⟨x, by rw [List.getElem?_set_ne (fun e' => e e'.symm)]; exact h1, ?_⟩
      rw [if_neg e]
      refine own_up h2 hk fun b hb hf => ?_
      rcases hF b hf with hf | hf
      · exact h.ap j i x u b h1 hu e hb hf
      · exact hf j x h1 hb
  · have hold : ∀ (j : Nat) (z : Value), us[j]? = some z → j ≠ i → ∀ b, z.ownBlock = some b → u'.ownBlock ≠ some b := fun j z hz hj b hzb e => by
      rcases hat with h1 | h1
      · rw [h1] at e; exact h.ap j i z u b hz hu hj hzb e
      · have h2 := h1 b e
        obtain ⟨z', h3, h4⟩ := h.row j (by have := (List.getElem?_eq_some_iff.1 hz).1; rw [h.len] at this; exact this)
        rw [hz] at h3; cases h3
        have := (h4.lt b hzb).2
        omega
    by_cases ea : a = i
    · subst ea
      rw [List.getElem?_set_self (by rw [h.len]; exact hi)] at hx
      cases hx
      rw [List.getElem?_set_ne hac] at hy
      exact fun e => hold c y hy (fun e' => hac e'.symm) b e hb
    · rw [List.getElem?_set_ne (fun e' => ea e'.symm)] at hx
      by_cases ec : c = i
      · subst ec
        rw [List.getElem?_set_self (by rw [h.len]; exact hi)] at hy
        cases hy
        exact hold a x hx ea b hb
      · rw [List.getElem?_set_ne (fun e' => ec e'.symm)] at hy
        exact h.ap a c x y b hx hy hac hb
theorem Outs.congr {w : World} {B : Nat} {us : List Value} {n : Nat} {f g : Nat → List BSteps.El} (h : Outs w B us n f) (hfg : ∀ i, i < n → f i = g i) : Outs w B us n g :=
  ⟨h.len, fun i hi => by rw [← hfg i hi]; exact h.row i hi, h.ap⟩
theorem Outs.kept {w w' : World} {B : Nat} {us : List Value} {n : Nat} {f : Nat → List BSteps.El} {F : Nat → Prop} (h : Outs w B us n f) (hk : Kept F w w') (hF : ∀ (j : Nat) (x : Value), us[j]? = some x → ∀ b, x.ownBlock = some b → ¬ F b) : Outs w' B us n f :=
  ⟨h.len, fun i hi => by obtain ⟨u, h1, h2⟩ := h.row i hi; exact ⟨u, h1, own_up h2 hk fun b hb => hF i u h1 b hb⟩, h.ap⟩
theorem kcell {w w' : World} {F : Nat → Prop} (hk : Kept F w w') {b o : Nat} {v : Value} (hF : ¬ F b) (c : w.cell? ⟨b, o, none⟩ = some v) : w'.cell? ⟨b, o, none⟩ = some v := (World.cell?_of_block (a := ⟨b, o, none⟩) (hk.block b (World.block_lt_of_cell? w _ c) hF)).trans c
/-- One row more long, its slice laid into the list of rows. -/
theorem outs_grow {w wr w4 : World} {g n i N g4 k4 cu : Nat} {au : Option Addr} {us : List Value} {f : Nat → List BSteps.El} (z : BSteps.El) (hOs : Outs wr w.heap.size us n f) (hi : i < n) (hu : us[i]? = some (.slice au N cu)) (hN : N = (f i).length) (hown : w4.ownsRow w.heap.size 42 2 (.slice (some ⟨g4, 0, none⟩) (N + 1) k4) (N + 1) (BSteps.C (f i) ++ [.int .i64 z.1, .int .i64 z.2])) (hk : Kept (fun b => (Value.slice au N cu).ownBlock = some b) wr w4) (hat : (Value.slice au N cu).ownBlock = some g4 ∨ g4 = wr.heap.size + 1) (hA4 : Arr 39 w w4 g us) :
    Arr 39 w (w4.setCell ⟨g, i, none⟩ (.slice (some ⟨g4, 0, none⟩) (N + 1) k4)) g (us.set i (.slice (some ⟨g4, 0, none⟩) (N + 1) k4)) ∧ Outs (w4.setCell ⟨g, i, none⟩ (.slice (some ⟨g4, 0, none⟩) (N + 1) k4)) w.heap.size (us.set i (.slice (some ⟨g4, 0, none⟩) (N + 1) k4)) n (fun j => if j = i then f i ++ [z] else f j) ∧ Kept (fun b => b = g ∨ (Value.slice au N cu).ownBlock = some b) wr (w4.setCell ⟨g, i, none⟩ (.slice (some ⟨g4, 0, none⟩) (N + 1) k4)) := by
  have hO : BSteps.Own w4 w.heap.size (.slice (some ⟨g4, 0, none⟩) (N + 1) k4) (f i ++ [z]) := by
    unfold BSteps.Own
    have e1 : (f i ++ [z]).length = N + 1 := by rw [List.length_append, hN]; rfl
    rw [e1, BSteps.C_app]
    exact hown
  have h1 := hOs.set (F := fun b => (Value.slice au N cu).ownBlock = some b) hi hu hk (fun b hb => .inl hb) hO (by
    rcases hat with h | h
    · exact .inl h.symm
    · exact .inr fun b hb => by have e9 : g4 = b := Option.some.inj hb
                                omega)
  refine ⟨hA4.set i _, ?_, ?_⟩
  · refine h1.kept (Kept.setCell w4 g i _) fun j x hx b hb e => ?_
    obtain ⟨cs, hc, _⟩ := hA4.ids
    obtain ⟨x', h2, h3⟩ := h1.row j (by have := (List.getElem?_eq_some_iff.1 hx).1; rw [h1.len] at this; exact this)
    rw [hx] at h2; cases h2
    exact own_bk h3 hc (by decide) (by rw [← e]; exact hb)
  · exact (hk.mono fun b _ hb => .inr hb).trans ((Kept.setCell w4 g i _).mono fun b _ hb => .inl hb)
theorem Sy.steps_take {l : List Sy.Ed} {j : Nat} {e : Sy.Ed} (he : l[j]? = some e) (i : Int) : Sy.steps (l.take (j + 1)) i = if e.1 = i then Sy.steps (l.take j) i ++ [(e.2.1, e.2.2)] else Sy.steps (l.take j) i := by
  rw [List.take_add_one, he]
  exact Sy.steps_snoc _ _ _
theorem out_round {w wr w4 : World} {g n N g4 k4 cu gl c : Nat} {au : Option Addr} {us : List Value} {l : List Sy.Ed} {j L f : Nat} {e : Sy.Ed} (hL : j < L) (hfn : f < n) (hOs : Outs wr w.heap.size us n (fun i => Sy.steps (l.take j) i)) (hOl : BEdges.Own wr w.heap.size (.slice (some ⟨gl, 0, none⟩) l.length c) l) (he : l[j]? = some e) (hf : e.1 = (f : Int)) (hu : us[f]? = some (.slice au (Sy.steps (l.take j) f).length cu)) (hN : N = (Sy.steps (l.take j) f).length)
    (hown : w4.ownsRow w.heap.size 42 2 (.slice (some ⟨g4, 0, none⟩) (N + 1) k4) (N + 1) (BSteps.C (Sy.steps (l.take j) f) ++ [.int .i64 e.2.1, .int .i64 e.2.2])) (hk : Kept (fun b => (Value.slice au N cu).ownBlock = some b) wr w4) (hat : (Value.slice au N cu).ownBlock = some g4 ∨ g4 = wr.heap.size + 1) (hA4 : Arr 39 w w4 g us) (hne : ¬ gl = g) (hgl : ¬ (Value.slice au N cu).ownBlock = some gl) :
    ∃ (j1 : Nat) (us : List Value), L - (j + 1) = L - j1 ∧ j1 ≤ L ∧ Value.int .i64 ((j : Int) + 1) = .int .i64 j1 ∧ Arr 39 w (w4.setCell ⟨g, f, none⟩ (.slice (some ⟨g4, 0, none⟩) (N + 1) k4)) g us ∧ Outs (w4.setCell ⟨g, f, none⟩ (.slice (some ⟨g4, 0, none⟩) (N + 1) k4)) w.heap.size us n (fun i => Sy.steps (l.take j1) i) ∧ BEdges.Own (w4.setCell ⟨g, f, none⟩ (.slice (some ⟨g4, 0, none⟩) (N + 1) k4)) w.heap.size (.slice (some ⟨gl, 0, none⟩) l.length c) l := by
  obtain ⟨h1, h2, h3⟩ := outs_grow (e.2.1, e.2.2) hOs hfn (by rw [hN]; exact hu) hN hown hk hat hA4
  refine ⟨j + 1, _, rfl, hL, rfl, h1, h2.congr fun i hi => ?_, own_up hOl h3 fun b hb hF => ?_⟩
  · rw [Sy.steps_take he, hf]
    by_cases e9 : i = f
    · subst e9; rw [if_pos rfl, if_pos rfl]
    · rw [if_neg e9, if_neg (fun h => e9 (by omega))]
  · cases hb
    rcases hF with hF | hF
    · exact hne hF
    · exact hgl hF
end
section
open Go.RowKit Go.Maps
attribute [local go_sem ↓] Go.wp_at_zero Go.wp_at_succ
/-- An edge turned round. -/
theorem kcell' {w w' : World} {F : Nat → Prop} (hk : Kept F w w') {a : Addr} {v : Value} (hF : ¬ F a.block) (c : w.cell? a = some v) : w'.cell? a = some v := (World.cell?_of_block (a := a) (hk.block a.block (World.block_lt_of_cell? w _ c) hF)).trans c
/-- What stands in the loop of Back. -/
structure BackAt (w wr : World) (n k s : Int) (v u : Value) (L : List Sy.Ed) : Prop where
  bl : Below w.heap.size w wr
  box : wr.heap[w.heap.size]? = some (.cells #[.int .i64 n, .int .i64 k, .int .i64 s, v] 24 (0, 0))
  res : wr.heap[w.heap.size + 1]? = some (.cells #[.int .i64 0, .int .i64 0, .int .i64 0, .slice none 0 0] 24 (0, 0))
  own : BEdges.Own wr w.heap.size u L
theorem back_grow {w wr w4 : World} {n k s : Int} {v : Value} {au : Option Addr} {N cu g4 k4 : Nat} {L : List Sy.Ed} (h : BackAt w wr n k s v (.slice au N cu) L) (hN : N = L.length) (z : Sy.Ed) (hown : w4.ownsRow w.heap.size 46 3 (.slice (some ⟨g4, 0, none⟩) (N + 1) k4) (N + 1) (BEdges.C L ++ [.int .i64 z.1, .int .i64 z.2.1, .int .i64 z.2.2])) (hk : Kept (fun b => (Value.slice au N cu).ownBlock = some b) wr w4) : BackAt w w4 n k s v (.slice (some ⟨g4, 0, none⟩) (N + 1) k4) (L ++ [z]) := by
  refine ⟨h.bl.trans (hk.below h.bl.size fun b hb => (h.own.lt b hb).1), (hk.block _ (t_lt h.box) (own_bk h.own h.box (by decide))).trans h.box, (hk.block _ (t_lt h.res) (own_bk h.own h.res (by decide))).trans h.res, ?_⟩
  unfold BEdges.Own
  have e1 : (L ++ [z]).length = N + 1 := by rw [List.length_append, hN]; rfl
  rw [e1, BEdges.C_app]
  exact hown
theorem back_round {w wr w4 : World} {n k s : Int} {v : Value} {au : Option Addr} {j m N cu g4 k4 : Nat} {es : List Sy.Ed} {z : Sy.Ed} (h : BackAt w wr n k s v (.slice au N cu) ((es.take j).map Sy.turn)) (hlt : j < m) (hz : es[j]? = some z) (hN : N = j) (hm : m = es.length) (hown : w4.ownsRow w.heap.size 46 3 (.slice (some ⟨g4, 0, none⟩) (N + 1) k4) (N + 1) (BEdges.C ((es.take j).map Sy.turn) ++ [.int .i64 z.2.2, .int .i64 z.2.1, .int .i64 z.1])) (hk : Kept (fun b => (Value.slice au N cu).ownBlock = some b) wr w4) :
    ∃ j1 : Nat, m - (j + 1) = m - j1 ∧ j1 ≤ m ∧ Value.int .i64 ((j : Int) + 1) = .int .i64 j1 ∧ BackAt w w4 n k s v (.slice (some ⟨g4, 0, none⟩) (N + 1) k4) ((es.take j1).map Sy.turn) := by
  have h1 := back_grow h (by rw [hN, List.length_map, List.length_take]; omega) (Sy.turn z) hown hk
  refine ⟨j + 1, rfl, hlt, rfl, ?_⟩
  rw [List.take_add_one, hz, List.map_append]
  exact h1
theorem back_fin {w wr : World} {n k s : Int} {v : Value} {ao : Option Addr} {N c : Nat} {L : List Sy.Ed} (h : BackAt w wr n k s v (.slice ao N c) L) {wf : World} (hwf : wf = (((((wr.setCell ⟨w.heap.size, 3, none⟩ (.slice ao N c)).setCell ⟨w.heap.size + 1, 0, none⟩ (.int .i64 n)).setCell ⟨w.heap.size + 1, 1, none⟩ (.int .i64 k)).setCell ⟨w.heap.size + 1, 2, none⟩ (.int .i64 s)).setCell ⟨w.heap.size + 1, 3, none⟩ (.slice ao N c))) :
    Below w.heap.size w wf ∧ wf.heap[w.heap.size + 1]? = some (.cells #[.int .i64 n, .int .i64 k, .int .i64 s, .slice ao N c] 24 (0, 0)) ∧ BEdges.Own wf w.heap.size (.slice ao N c) L := by
  subst hwf
  have nn : ¬ w.heap.size + 1 = w.heap.size := by omega
  have hgm : (wr.setCell ⟨w.heap.size, 3, none⟩ (.slice ao N c)).heap[w.heap.size + 1]? = some (.cells #[.int .i64 0, .int .i64 0, .int .i64 0, .slice none 0 0] 24 (0, 0)) := (set_other _ _ _ _ _ nn).trans h.res
  refine ⟨four_below (h.bl.setCell (Nat.le_refl _) _) (by omega) _ _ _ _, four_set hgm, trow_at h.own fun b hb => ?_⟩
  have h1 := own_bk h.own h.box (by decide)
  have h2 := own_bk h.own h.res (by decide)
  have e1 : b ≠ w.heap.size + 1 := fun e => h2 (by rw [← e]; exact hb)
  have e2 : b ≠ w.heap.size := fun e => h1 (by rw [← e]; exact hb)
  rw [set_other _ _ _ _ _ e1, set_other _ _ _ _ _ e1, set_other _ _ _ _ _ e1, set_other _ _ _ _ _ e1, set_other _ _ _ _ _ e2]
end
section
open Go.RowKit Go.Maps
/-- The rows of all states, the marks, the list of those that are found. -/
structure RcAt (w wr : World) (go gi : Nat) (us : List Value) (n : Nat) (f : Nat → List BSteps.El) (u : Value) (zs : List Int) (bs : List Bool) : Prop where
  out : Arr 39 w wr go us
  rows : Outs wr w.heap.size us n f
  inn : Arr 4 w wr gi (bC bs)
  lst : OwnI wr w.heap.size u zs
theorem RcAt.below {w wr w' : World} {go gi : Nat} {us : List Value} {n : Nat} {f : Nat → List BSteps.El} {u : Value} {zs : List Int} {bs : List Bool} (h : RcAt w wr go gi us n f u zs bs) (hb : Below wr.heap.size wr w') : RcAt w w' go gi us n f u zs bs :=
  ⟨h.out.below hb, h.rows.below hb, h.inn.below hb, trow_at h.lst fun b hb' => hb.block b (h.lst.lt b hb').2⟩
theorem RcAt.row_ne {w wr : World} {go gi : Nat} {us : List Value} {n : Nat} {f : Nat → List BSteps.El} {u : Value} {zs : List Int} {bs : List Bool} (h : RcAt w wr go gi us n f u zs bs) {j : Nat} {x : Value} (hx : us[j]? = some x) : BSteps.Own wr w.heap.size x (f j) := by
  obtain ⟨x', h1, h2⟩ := h.rows.row j (by have := (List.getElem?_eq_some_iff.1 hx).1; rw [h.rows.len] at this; exact this)
  rw [hx] at h1; cases h1
  exact h2
theorem RcAt.mark {w wr : World} {go gi : Nat} {us : List Value} {n : Nat} {f : Nat → List BSteps.El} {u : Value} {zs : List Int} {bs : List Bool} (h : RcAt w wr go gi us n f u zs bs) (q : Nat) : RcAt w (wr.setCell ⟨gi, q, none⟩ (.bool true)) go gi us n f u zs (bs.set q true) := by
  obtain ⟨cs, hc, _⟩ := h.inn.ids
  obtain ⟨co, hco, _⟩ := h.out.ids
  have hk := Kept.setCell wr gi q (.bool true)
  refine ⟨h.out.kept hk fun b hb => ⟨by rw [hb]; exact h.inn.gu, fun e => ?_⟩, h.rows.kept hk fun j x hx b hb e => ?_, by rw [← bC_set]; exact h.inn.set q _, own_up h.lst hk fun b hb e => ?_⟩
  · subst e
    rw [hb, hc] at hco
    exact absurd hco (by simp)
  · exact own_bk (h.row_ne hx) hc (by decide) (by rw [← e]; exact hb)
  · exact own_bk h.lst hc (by decide) (by rw [← e]; exact hb)
theorem RcAt.push {w wr w2 : World} {go gi : Nat} {us : List Value} {n : Nat} {f : Nat → List BSteps.El} {u u2 : Value} {zs : List Int} {bs : List Bool} (h : RcAt w wr go gi us n f u zs bs) {q : Int} {N : Nat} (hN : N = zs.length) (hown : w2.ownsRow w.heap.size 3 1 u2 (N + 1) (iC zs ++ [.int .i64 q])) (hk : Kept (fun b => u.ownBlock = some b) wr w2) : RcAt w w2 go gi us n f u2 (zs ++ [q]) bs := by
  obtain ⟨cs, hc, _⟩ := h.inn.ids
  obtain ⟨co, hco, _⟩ := h.out.ids
  refine ⟨h.out.kept hk fun b hb => ⟨(h.lst.lt b hb).1, fun e => own_bk h.lst hco (by decide) (by rw [← e]; exact hb)⟩, h.rows.kept hk fun j x hx b hb e => own_ne (h.row_ne hx) h.lst (by decide) b hb e, h.inn.kept hk fun b hb => ⟨(h.lst.lt b hb).1, fun e => own_bk h.lst hc (by decide) (by rw [← e]; exact hb)⟩, ?_⟩
  unfold OwnI
  rw [iC_snoc, List.length_append, ← hN]
  exact hown
/-- An older beginning. -/
theorem Outs.base {w : World} {B B' : Nat} {us : List Value} {n : Nat} {f : Nat → List BSteps.El} (h : Outs w B us n f) (hb : B' ≤ B) : Outs w B' us n f :=
  ⟨h.len, fun i hi => by obtain ⟨u, h1, h2⟩ := h.row i hi; exact ⟨u, h1, row_base h2 hb⟩, h.ap⟩
end
section
open Go.RowKit Go.Maps
attribute [local go_sem ↓] Go.wp_at_zero Go.wp_at_succ
def Sy.ends (l : List BSteps.El) (b : Int) : List Int := (l.filter fun x => x.1 == b).map (·.2)
theorem Sy.ends_take {l : List BSteps.El} {j : Nat} {x : BSteps.El} (h : l[j]? = some x) (b : Int) : Sy.ends (l.take (j + 1)) b = if x.1 = b then Sy.ends (l.take j) b ++ [x.2] else Sy.ends (l.take j) b := by
  rw [take_succ_of h]
  unfold Sy.ends
  rw [List.filter_append, List.map_append]
  by_cases e : x.1 = b <;> simp [e]
theorem Sy.ends_len (l : List BSteps.El) (b : Int) : (Sy.ends l b).length ≤ l.length := by
  unfold Sy.ends
  rw [List.length_map]
  exact List.length_filter_le _ _
end
end Go.Proofs.YtladdlkfnfdhaaaDoor
