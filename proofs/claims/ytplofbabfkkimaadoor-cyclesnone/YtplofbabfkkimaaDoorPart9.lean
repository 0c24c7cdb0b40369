/- Texts of this claim, joined: SyGr, SyRow2, SyBin, SyOut, SyBack, SyReach0, SyEnds, SyTen, SyOne0. -/
import Derived.Test.YtplofbabfkkimaaDoorPart8
import Derived.Test.YtplofbabfkkimaaDoorPart6
import Derived.Test.YtplofbabfkkimaaDoorPart7
import Derived.Deep.DeepCutAuto
import Derived.Test.YtplofbabfkkimaaDoorPart3
import Derived.Deep.AppendLies
import Derived.DataElems
/- A graph in memory; contracts of the program's row, States, Out, In. -/
namespace Go.Proofs.YtplofbabfkkimaaDoor
open Go.RowKit Go.Maps
attribute [local go_sem ↓] Go.wp_at_zero Go.wp_at_succ
/-- A block from B on that holds just these cells. -/
def Blk (ty : TypeId) (B : Nat) (w : World) (g : Nat) (vs : List Value) : Prop := (∃ cs, w.heap[g]? = some (.cells cs ty (0, 0)) ∧ cs.toList = vs) ∧ B ≤ g
theorem Blk.of_arr {ty : TypeId} {w wr : World} {g : Nat} {vs : List Value} (h : Arr ty w wr g vs) : Blk ty w.heap.size wr g vs := ⟨h.ids, h.gu⟩
theorem Blk.lt {ty : TypeId} {B : Nat} {w : World} {g : Nat} {vs : List Value} (h : Blk ty B w g vs) : g < w.heap.size := by
  obtain ⟨⟨cs, hc, _⟩, _⟩ := h
  exact t_lt hc
theorem Blk.at {ty : TypeId} {B : Nat} {w w' : World} {g : Nat} {vs : List Value} (h : Blk ty B w g vs) (hb : w'.heap[g]? = w.heap[g]?) : Blk ty B w' g vs := by
  obtain ⟨⟨cs, hc, hx⟩, hg⟩ := h
  exact ⟨⟨cs, hb.trans hc, hx⟩, hg⟩
theorem Blk.below {ty : TypeId} {B : Nat} {w w' : World} {g : Nat} {vs : List Value} (h : Blk ty B w g vs) (hb : Below w.heap.size w w') : Blk ty B w' g vs := h.at (hb.block _ h.lt)
theorem Blk.cell {ty : TypeId} {B : Nat} {w : World} {g : Nat} {vs : List Value} (h : Blk ty B w g vs) {i : Nat} {x : Value} (hi : vs[i]? = some x) : w.cell? ⟨g, i, none⟩ = some x := by
  obtain ⟨⟨cs, hc, hx⟩, _⟩ := h
  refine cell0_of hc ?_
  rw [← Array.getElem?_toList, hx]
  exact hi
theorem Blk.base {ty : TypeId} {B B' : Nat} {w : World} {g : Nat} {vs : List Value} (h : Blk ty B w g vs) (hb : B' ≤ B) : Blk ty B' w g vs := ⟨h.1, Nat.le_trans hb h.2⟩
/-- A table as a value, and in memory. -/
def tabV (bs bb m n : Nat) : Value := .agg #[.slice (some ⟨bs, 0, none⟩) m m, .slice (some ⟨bb, 0, none⟩) (n + 1) (n + 1)]
structure Tb (w : World) (B bs bb n : Nat) (l : List Sy.Ed) : Prop where
  steps : Blk 66 B w bs (BSteps.C (l.map stp))
  nums : Blk 3 B w bb (iC (Sy.bounds n l))
theorem Tb.below {w w' : World} {B bs bb n : Nat} {l : List Sy.Ed} (h : Tb w B bs bb n l) (hb : Below w.heap.size w w') : Tb w' B bs bb n l := ⟨h.steps.below hb, h.nums.below hb⟩
theorem Tb.kept {w w' : World} {B bs bb n : Nat} {l : List Sy.Ed} {F : Nat → Prop} (h : Tb w B bs bb n l) (hk : Kept F w w') (h1 : ¬ F bs) (h2 : ¬ F bb) : Tb w' B bs bb n l := ⟨h.steps.at (hk.block _ h.steps.lt h1), h.nums.at (hk.block _ h.nums.lt h2)⟩
/-- The steps of a state; none of what is no state. -/
def Sy.rowOf (n : Nat) (l : List Sy.Ed) (i : Int) : List BSteps.El := if 0 ≤ i ∧ i < (n : Int) then Sy.steps l i else []
theorem map_stp (l : List Sy.Ed) (i : Int) (h : Sy.Rows l) : Sy.steps l i = ((l.map stp).drop (Sy.cnt l i)).take (Sy.cnt l (i + 1) - Sy.cnt l i) := by
  unfold Sy.steps
  rw [Sy.row_piece h i, List.map_take, List.map_drop]
  rfl
theorem rowOf_len (n : Nat) (l : List Sy.Ed) (i : Int) : (Sy.rowOf n l i).length ≤ l.length := by
  unfold Sy.rowOf
  split
  · exact Sy.steps_len l i
  · simp
theorem hasS_nil (w : World) (c : Nat) : BSteps.Has w (.slice none 0 c) [] := ⟨none, c, rfl, fun j u h => by simp [BSteps.C] at h⟩
theorem hasS_none (w : World) (a : Option Addr) (c : Nat) : BSteps.Has w (.slice a 0 c) [] := ⟨a, c, rfl, fun j u h => by simp [BSteps.C] at h⟩
/-- A piece of a table's steps. -/
theorem piece_has {w : World} {B bs : Nat} {zs : List BSteps.El} (h : Blk 66 B w bs (BSteps.C zs)) (i k c : Nat) (hk : i + k ≤ zs.length) : BSteps.Has w (.slice (some ⟨bs, i * 2, none⟩) k c) ((zs.drop i).take k) := by
  have hl : ((zs.drop i).take k).length = k := by rw [List.length_take, List.length_drop]; omega
  refine ⟨some ⟨bs, i * 2, none⟩, c, by rw [hl], fun j u hj => ⟨_, rfl, ?_⟩⟩
  have hj2 : j < k * 2 := by have := (List.getElem?_eq_some_iff.1 hj).1; rw [BSteps.C_len, hl] at this; exact this
  obtain ⟨z, hz⟩ : ∃ z, ((zs.drop i).take k)[j / 2]? = some z := ⟨_, List.getElem?_eq_getElem (by rw [hl]; omega)⟩
  have h1 := BSteps.C_at _ (j / 2) z hz (j % 2) (Nat.mod_lt _ (by decide))
  rw [show j / 2 * 2 + j % 2 = j by omega, hj] at h1
  have hz2 : zs[i + j / 2]? = some z := by
    rw [List.getElem?_take_of_lt (by omega), List.getElem?_drop] at hz
    exact hz
  have h2 := BSteps.C_at _ (i + j / 2) z hz2 (j % 2) (Nat.mod_lt _ (by decide))
  rw [← h1] at h2
  have h3 := h.cell h2
  rw [show (i + j / 2) * 2 + j % 2 = i * 2 + j by omega] at h3
  rw [Addr.add_lit]
  exact h3
set_option maxRecDepth 100000 in
set_option maxHeartbeats 4000000 in
theorem row_any (bs bb m n B : Nat) (l : List Sy.Ed) (i : Int) (w : World) (hn : n ≤ 100000) (hl : l.length = m) (hs : Sy.Rows l) (hT : Tb w B bs bb n l) :
    Calls Tryd.prog 25 #[tabV bs bb m n, .int .i64 i] w fun r w' => ∃ v, r = .returned v ∧ (∀ W, Tb W B bs bb n l → BSteps.Has W v (Sy.rowOf n l i)) ∧ Below w.heap.size w w' := by
  obtain ⟨w1, hw1⟩ : ∃ w1, w1 = w.alloc (.cells #[.slice (some ⟨bs, 0, none⟩) m m, .slice (some ⟨bb, 0, none⟩) (n + 1) (n + 1)] 61) := ⟨_, rfl⟩
  have hb1 : Below w.heap.size w w1 := by rw [hw1]; exact (Below.refl _ _).alloc (Nat.le_refl _) _
  have hg1 : w1.heap[w.heap.size]? = some (.cells #[.slice (some ⟨bs, 0, none⟩) m m, .slice (some ⟨bb, 0, none⟩) (n + 1) (n + 1)] 61 (0, 0)) := by rw [hw1]; exact heap_alloc_new w _
  have hT1 := hT.below hb1
  have hB := fun W => below_any i (n : Int) W
  have HB : Hid _ := hB
  have r0 : IntKind.i64.wrap ((n : Int) + 1 - 1) = (n : Int) := by rw [IntKind.wrap_i64]; omega
  unfold tabV Sy.rowOf
  by_cases hi : 0 ≤ i ∧ i < (n : Int)
  · rw [if_pos hi]
    rw [decide_eq_true hi] at HB
    obtain ⟨q, rfl⟩ : ∃ q : Nat, i = (q : Int) := ⟨i.toNat, by omega⟩
    have hqn : q < n := by omega
    have c0 : w1.cell? ⟨w.heap.size, 0, none⟩ = some (.slice (some ⟨bs, 0, none⟩) m m) := cell0_of hg1 rfl
    have c1 : w1.cell? ⟨w.heap.size, 1, none⟩ = some (.slice (some ⟨bb, 0, none⟩) (n + 1) (n + 1)) := cell0_of hg1 rfl
    have x0 := hT1.nums.cell (i := q) (x := .int .i64 (Sy.cnt l (q : Int) : Nat)) (by unfold iC; rw [List.getElem?_map, Sy.bounds_at (by omega)]; rfl)
    have x1 := hT1.nums.cell (i := q + 1) (x := .int .i64 (Sy.cnt l ((q : Int) + 1) : Nat)) (by unfold iC; rw [List.getElem?_map, Sy.bounds_at (by omega)]; rfl)
    have hle := Sy.cnt_mono l (q : Int)
    have hlm := Sy.cnt_le l ((q : Int) + 1)
    have hpc : ∀ W, Tb W B bs bb n l → BSteps.Has W (.slice (some ⟨bs, Sy.cnt l (q : Int) * 2, none⟩) (Sy.cnt l ((q : Int) + 1) - Sy.cnt l (q : Int)) (Sy.cnt l ((q : Int) + 1) - Sy.cnt l (q : Int))) (Sy.steps l q) := fun W hW => by
      rw [map_stp l q hs]
      exact piece_has hW.steps (Sy.cnt l (q : Int)) (Sy.cnt l ((q : Int) + 1) - Sy.cnt l (q : Int)) (Sy.cnt l ((q : Int) + 1) - Sy.cnt l (q : Int)) (by rw [List.length_map]; omega)
    have hz : Sy.cnt l ((q : Int) + 1) - Sy.cnt l (q : Int) = 0 → Sy.steps l q = [] := fun e => by rw [map_stp l q hs, e]; simp
    generalize Sy.cnt l (q : Int) = b at x0 hle hpc hz
    generalize Sy.cnt l ((q : Int) + 1) = e at x1 hle hlm hpc hz
    have r1 : (0 : Int) ≤ (q : Int) := by omega
    have r2 : (q : Int) < (n : Int) + 1 := by omega
    have r3 : (0 : Int) ≤ (q : Int) + 1 := by omega
    have r4 : (q : Int) + 1 < (n : Int) + 1 := by omega
    have r5 : ((q : Int) + 1).toNat = q + 1 := by omega
    have r6 : IntKind.i64.wrap ((q : Int) + 1) = (q : Int) + 1 := by rw [IntKind.wrap_i64]; omega
    have r7 : (0 : Int) ≤ (b : Int) := by omega
    have r8 : (b : Int) ≤ (e : Int) := by omega
    have r9 : (e : Int) ≤ (m : Int) := by omega
    have H1 : Hid _ := And.intro hw1 (And.intro hb1 (And.intro hpc hz))
    clear hw1 hb1 hg1 hT1 hT hB hpc hz hs hl hi
    go_enter Tryd.func25, Tryd.ntmps25
    go_upto_region 1 with fail
    rw [← H1.out.1]
    go_wp2_with (go_at_call 39; refine (HB.out _).mono ?_; rintro r w2 ⟨rfl, hw2⟩; obtain rfl := hw2.symm)
    go_quiet (fail)
    go_wp2_with fail
    · go_ret
      refine ⟨_, rfl, fun W _ => ?_, below_drewN H1.out.2.1 _⟩
      rw [H1.out.2.2.2 (by omega)]
      exact hasS_none _ _ _
    · go_ret
      exact ⟨_, rfl, H1.out.2.2.1, below_drewN H1.out.2.1 _⟩
  · rw [if_neg hi]
    rw [decide_eq_false hi] at HB
    have c1 : w1.cell? ⟨w.heap.size, 1, none⟩ = some (.slice (some ⟨bb, 0, none⟩) (n + 1) (n + 1)) := cell0_of hg1 rfl
    have H1 : Hid _ := And.intro hw1 hb1
    clear hw1 hb1 hg1 hT1 hT hB hs hl hi
    go_enter Tryd.func25, Tryd.ntmps25
    go_upto_region 1 with fail
    rw [← H1.out.1]
    go_wp2_with (go_at_call 39; refine (HB.out _).mono ?_; rintro r w2 ⟨rfl, hw2⟩; obtain rfl := hw2.symm)
    go_ret
    exact ⟨_, rfl, fun W _ => hasS_nil _ _, H1.out.2⟩
/-- A graph in memory: its box, and both tables. -/
structure Gr (w : World) (B g bs bb cs cb n : Nat) (k s : Int) (es : List Sy.Ed) : Prop where
  box : w.heap[g]? = some (.cells #[.int .i64 n, .int .i64 k, .int .i64 s, .slice (some ⟨bs, 0, none⟩) (Sy.nf es).length (Sy.nf es).length, .slice (some ⟨bb, 0, none⟩) (n + 1) (n + 1), .slice (some ⟨cs, 0, none⟩) (Sy.nf es).length (Sy.nf es).length, .slice (some ⟨cb, 0, none⟩) (n + 1) (n + 1)] 63 (0, 0))
  up : B ≤ g
  out : Tb w B bs bb n (Sy.nf es)
  inn : Tb w B cs cb n (Sy.nf ((Sy.nf es).map Sy.turn))
  right : Sy.right n k s es = true
theorem Gr.below {w w' : World} {B g bs bb cs cb n : Nat} {k s : Int} {es : List Sy.Ed} (h : Gr w B g bs bb cs cb n k s es) (hb : Below w.heap.size w w') : Gr w' B g bs bb cs cb n k s es :=
  ⟨(hb.block _ (t_lt h.box)).trans h.box, h.up, h.out.below hb, h.inn.below hb, h.right⟩
theorem right_parts {n k s : Int} {es : List Sy.Ed} (h : Sy.right n k s es = true) : (0 ≤ n ∧ n ≤ 1000) ∧ (1 ≤ k ∧ k ≤ 201) ∧ es.length ≤ 10000 ∧ (n = 0 → s = 0) ∧ (0 < n → 0 ≤ s ∧ s < n) ∧ ∀ e ∈ es, 0 ≤ e.1 ∧ e.1 < n ∧ 0 ≤ e.2.2 ∧ e.2.2 < n ∧ 0 ≤ e.2.1 ∧ e.2.1 < k := by
  unfold Sy.right at h
  simp only [Bool.and_eq_true, decide_eq_true_eq, List.all_eq_true] at h
  obtain ⟨⟨h1, h2⟩, h3⟩ := h
  exact ⟨⟨h1.1, h1.2.1⟩, ⟨h1.2.2.1, h1.2.2.2.1⟩, h1.2.2.2.2, h2.1, h2.2, h3⟩
theorem str_rows {l : List Sy.Ed} (h : Sy.Str l) : Sy.Rows l := by
  induction l with
  | nil => exact .nil
  | cons a r ih =>
    refine List.pairwise_cons.2 ⟨fun b hb => ?_, ih h.tail⟩
    have h1 := h.head b hb
    rw [Sy.lt_iff] at h1
    omega
theorem nf_rows (l : List Sy.Ed) : Sy.Rows (Sy.nf l) := str_rows (Sy.nf_str l)
theorem turn_turn (e : Sy.Ed) : Sy.turn (Sy.turn e) = e := rfl
theorem nf_turn_len (l : List Sy.Ed) : (Sy.nf ((Sy.nf l).map Sy.turn)).length = (Sy.nf l).length := by
  apply Nat.le_antisymm
  · have h := Sy.nf_len ((Sy.nf l).map Sy.turn)
    rw [List.length_map] at h
    exact h
  · have h := Sy.str_len (m := Sy.nf l) (l := (Sy.nf ((Sy.nf l).map Sy.turn)).map Sy.turn) (Sy.nf_str l) (fun x hx => by
      refine List.mem_map.2 ⟨Sy.turn x, ?_, turn_turn x⟩
      rw [Sy.nf_mem]
      exact List.mem_map.2 ⟨x, hx, rfl⟩)
    rw [List.length_map] at h
    exact h
theorem Gr.sizes {w : World} {B g bs bb cs cb n : Nat} {k s : Int} {es : List Sy.Ed} (h : Gr w B g bs bb cs cb n k s es) : n ≤ 1000 ∧ (Sy.nf es).length ≤ 10000 := by
  obtain ⟨⟨_, h1⟩, _, h2, _⟩ := right_parts h.right
  have := Sy.nf_len es
  exact ⟨by omega, by omega⟩
theorem Gr.cells {w : World} {B g bs bb cs cb n : Nat} {k s : Int} {es : List Sy.Ed} (h : Gr w B g bs bb cs cb n k s es) :
    w.cell? ⟨g, 0, none⟩ = some (.int .i64 n) ∧ w.cell? ⟨g, 1, none⟩ = some (.int .i64 k) ∧ w.cell? ⟨g, 2, none⟩ = some (.int .i64 s) ∧ (w.cell? ⟨g, 3, none⟩ = some (.slice (some ⟨bs, 0, none⟩) (Sy.nf es).length (Sy.nf es).length) ∧ w.cell? ⟨g, 4, none⟩ = some (.slice (some ⟨bb, 0, none⟩) (n + 1) (n + 1))) ∧ w.cell? ⟨g, 5, none⟩ = some (.slice (some ⟨cs, 0, none⟩) (Sy.nf es).length (Sy.nf es).length) ∧ w.cell? ⟨g, 6, none⟩ = some (.slice (some ⟨cb, 0, none⟩) (n + 1) (n + 1)) :=
  ⟨cell0_of h.box rfl, cell0_of h.box rfl, cell0_of h.box rfl, ⟨cell0_of h.box rfl, cell0_of h.box rfl⟩, cell0_of h.box rfl, cell0_of h.box rfl⟩
theorem Tryd.eqG (g : Nat) (w : World) : (binOp BinOp.eql 39 (.pointer (some ⟨g, 0, none⟩)) (.pointer none)).run Tryd.prog w = .ok (.bool false) w := by kernel_rfl
/-- The rows of a graph's tables. -/
theorem Gr.row {w : World} {B g bs bb cs cb n : Nat} {k s : Int} {es : List Sy.Ed} (h : Gr w B g bs bb cs cb n k s es) (i : Int) : Calls Tryd.prog 25 #[.agg #[.slice (some ⟨bs, 0, none⟩) (Sy.nf es).length (Sy.nf es).length, .slice (some ⟨bb, 0, none⟩) (n + 1) (n + 1)], .int .i64 i] w fun r w' => ∃ v, r = .returned v ∧ (∀ W, Tb W B bs bb n (Sy.nf es) → BSteps.Has W v (Sy.rowOf n (Sy.nf es) i)) ∧ Below w.heap.size w w' := by
  obtain ⟨h1, h2⟩ := h.sizes
  exact row_any bs bb (Sy.nf es).length n B (Sy.nf es) i w (by omega) rfl (nf_rows _) h.out
theorem Gr.rowIn {w : World} {B g bs bb cs cb n : Nat} {k s : Int} {es : List Sy.Ed} (h : Gr w B g bs bb cs cb n k s es) (i : Int) : Calls Tryd.prog 25 #[.agg #[.slice (some ⟨cs, 0, none⟩) (Sy.nf es).length (Sy.nf es).length, .slice (some ⟨cb, 0, none⟩) (n + 1) (n + 1)], .int .i64 i] w fun r w' => ∃ v, r = .returned v ∧ (∀ W, Tb W B cs cb n (Sy.nf ((Sy.nf es).map Sy.turn)) → BSteps.Has W v (Sy.rowOf n (Sy.nf ((Sy.nf es).map Sy.turn)) i)) ∧ Below w.heap.size w w' := by
  obtain ⟨h1, h2⟩ := h.sizes
  exact row_any cs cb (Sy.nf es).length n B (Sy.nf ((Sy.nf es).map Sy.turn)) i w (by omega) (nf_turn_len es) (nf_rows _) h.inn
set_option maxRecDepth 100000 in
theorem states_any {B g bs bb cs cb n : Nat} {k s : Int} {es : List Sy.Ed} (w : World) (h : Gr w B g bs bb cs cb n k s es) : Calls Tryd.prog 13 #[.pointer (some ⟨g, 0, none⟩)] w fun r w' => r = .returned (.int .i64 n) ∧ w' = w := by
  obtain ⟨c0, _, _, _, _, _⟩ := h.cells
  have hq := Tryd.eqG g
  clear h
  go_enter Tryd.func13, Tryd.ntmps13
  go_wp2
  go_ret
  exact ⟨rfl, rfl⟩
end Go.Proofs.YtplofbabfkkimaaDoor
/- A row of a table once more: its capacity, too. -/
namespace Go.Proofs.YtplofbabfkkimaaDoor
open Go.RowKit Go.Maps
attribute [local go_sem ↓] Go.wp_at_zero Go.wp_at_succ
set_option maxRecDepth 100000 in
set_option maxHeartbeats 4000000 in
theorem row2_any (bs bb m n B : Nat) (l : List Sy.Ed) (i : Int) (w : World) (hn : n ≤ 100000) (hl : l.length = m) (hs : Sy.Rows l) (hT : Tb w B bs bb n l) :
    Calls Tryd.prog 25 #[tabV bs bb m n, .int .i64 i] w fun r w' => ∃ v, r = .returned v ∧ (∀ W, Tb W B bs bb n l → BSteps.Has W v (Sy.rowOf n l i)) ∧ (∃ a k c, v = .slice a k c ∧ k ≤ c) ∧ Below w.heap.size w w' := by
  obtain ⟨w1, hw1⟩ : ∃ w1, w1 = w.alloc (.cells #[.slice (some ⟨bs, 0, none⟩) m m, .slice (some ⟨bb, 0, none⟩) (n + 1) (n + 1)] 61) := ⟨_, rfl⟩
  have hb1 : Below w.heap.size w w1 := by rw [hw1]; exact (Below.refl _ _).alloc (Nat.le_refl _) _
  have hg1 : w1.heap[w.heap.size]? = some (.cells #[.slice (some ⟨bs, 0, none⟩) m m, .slice (some ⟨bb, 0, none⟩) (n + 1) (n + 1)] 61 (0, 0)) := by rw [hw1]; exact heap_alloc_new w _
  have hT1 := hT.below hb1
  have hB := fun W => below_any i (n : Int) W
  have HB : Hid _ := hB
  have r0 : IntKind.i64.wrap ((n : Int) + 1 - 1) = (n : Int) := by rw [IntKind.wrap_i64]; omega
  unfold tabV Sy.rowOf
  by_cases hi : 0 ≤ i ∧ i < (n : Int)
  · rw [if_pos hi]
    rw [decide_eq_true hi] at HB
    obtain ⟨q, rfl⟩ : ∃ q : Nat, i = (q : Int) := ⟨i.toNat, by omega⟩
    have hqn : q < n := by omega
    have c0 : w1.cell? ⟨w.heap.size, 0, none⟩ = some (.slice (some ⟨bs, 0, none⟩) m m) := cell0_of hg1 rfl
    have c1 : w1.cell? ⟨w.heap.size, 1, none⟩ = some (.slice (some ⟨bb, 0, none⟩) (n + 1) (n + 1)) := cell0_of hg1 rfl
    have x0 := hT1.nums.cell (i := q) (x := .int .i64 (Sy.cnt l (q : Int) : Nat)) (by unfold iC; rw [List.getElem?_map, Sy.bounds_at (by omega)]; rfl)
    have x1 := hT1.nums.cell (i := q + 1) (x := .int .i64 (Sy.cnt l ((q : Int) + 1) : Nat)) (by unfold iC; rw [List.getElem?_map, Sy.bounds_at (by omega)]; rfl)
    have hle := Sy.cnt_mono l (q : Int)
    have hlm := Sy.cnt_le l ((q : Int) + 1)
    have hpc : ∀ W, Tb W B bs bb n l → BSteps.Has W (.slice (some ⟨bs, Sy.cnt l (q : Int) * 2, none⟩) (Sy.cnt l ((q : Int) + 1) - Sy.cnt l (q : Int)) (Sy.cnt l ((q : Int) + 1) - Sy.cnt l (q : Int))) (Sy.steps l q) := fun W hW => by
      rw [map_stp l q hs]
      exact piece_has hW.steps (Sy.cnt l (q : Int)) (Sy.cnt l ((q : Int) + 1) - Sy.cnt l (q : Int)) (Sy.cnt l ((q : Int) + 1) - Sy.cnt l (q : Int)) (by rw [List.length_map]; omega)
    have hz : Sy.cnt l ((q : Int) + 1) - Sy.cnt l (q : Int) = 0 → Sy.steps l q = [] := fun e => by rw [map_stp l q hs, e]; simp
    generalize Sy.cnt l (q : Int) = b at x0 hle hpc hz
    generalize Sy.cnt l ((q : Int) + 1) = e at x1 hle hlm hpc hz
    have r1 : (0 : Int) ≤ (q : Int) := by omega
    have r2 : (q : Int) < (n : Int) + 1 := by omega
    have r3 : (0 : Int) ≤ (q : Int) + 1 := by omega
    have r4 : (q : Int) + 1 < (n : Int) + 1 := by omega
    have r5 : ((q : Int) + 1).toNat = q + 1 := by omega
    have r6 : IntKind.i64.wrap ((q : Int) + 1) = (q : Int) + 1 := by rw [IntKind.wrap_i64]; omega
    have r7 : (0 : Int) ≤ (b : Int) := by omega
    have r8 : (b : Int) ≤ (e : Int) := by omega
    have r9 : (e : Int) ≤ (m : Int) := by omega
    have H1 : Hid _ := And.intro hw1 (And.intro hb1 (And.intro hpc hz))
    clear hw1 hb1 hg1 hT1 hT hB hpc hz hs hl hi
    go_enter Tryd.func25, Tryd.ntmps25
    go_upto_region 1 with fail
    rw [← H1.out.1]
    go_wp2_with (go_at_call 39; refine (HB.out _).mono ?_; rintro r w2 ⟨rfl, hw2⟩; obtain rfl := hw2.symm)
    go_quiet (fail)
    go_wp2_with fail
    · go_ret
      refine ⟨_, rfl, fun W _ => ?_, ⟨_, _, _, rfl, by omega⟩, below_drewN H1.out.2.1 _⟩
      rw [H1.out.2.2.2 (by omega)]
      exact hasS_none _ _ _
    · go_ret
      exact ⟨_, rfl, H1.out.2.2.1, ⟨_, _, _, rfl, by omega⟩, below_drewN H1.out.2.1 _⟩
  · rw [if_neg hi]
    rw [decide_eq_false hi] at HB
    have c1 : w1.cell? ⟨w.heap.size, 1, none⟩ = some (.slice (some ⟨bb, 0, none⟩) (n + 1) (n + 1)) := cell0_of hg1 rfl
    have H1 : Hid _ := And.intro hw1 hb1
    clear hw1 hb1 hg1 hT1 hT hB hs hl hi
    go_enter Tryd.func25, Tryd.ntmps25
    go_upto_region 1 with fail
    rw [← H1.out.1]
    go_wp2_with (go_at_call 39; refine (HB.out _).mono ?_; rintro r w2 ⟨rfl, hw2⟩; obtain rfl := hw2.symm)
    go_ret
    exact ⟨_, rfl, fun W _ => hasS_nil _ _, ⟨_, _, _, rfl, Nat.le_refl _⟩, H1.out.2⟩
end Go.Proofs.YtplofbabfkkimaaDoor
/- Contracts of the program's comparison of a step's label, and of slices.BinarySearchFunc by it. -/
namespace Go.Proofs.YtplofbabfkkimaaDoor
open Go.RowKit Go.Maps
attribute [local go_sem ↓] Go.wp_at_zero Go.wp_at_succ
set_option maxRecDepth 100000 in
theorem ends1_any (a b l : Int) (w : World) : Calls Tryd.prog 53 #[.agg #[.int .i64 a, .int .i64 b], .int .i64 l] w fun r w' => r = .returned (.int .i64 (cmpI a l)) ∧ Below w.heap.size w w' := by
  obtain ⟨w1, hw1⟩ : ∃ w1, w1 = w.alloc (.cells #[.int .i64 a, .int .i64 b] 66) := ⟨_, rfl⟩
  have hb1 : Below w.heap.size w w1 := by rw [hw1]; exact (Below.refl _ _).alloc (Nat.le_refl _) _
  have hg1 : w1.heap[w.heap.size]? = some (.cells #[.int .i64 a, .int .i64 b] 66 (0, 0)) := by rw [hw1]; exact heap_alloc_new w _
  have c0 : w1.cell? ⟨w.heap.size, 0, none⟩ = some (.int .i64 a) := cell0_of hg1 rfl
  have H1 : Hid _ := And.intro hw1 (And.intro hb1 (cmpI_any a l w1))
  clear hw1 hb1 hg1
  go_enter Tryd.func53, Tryd.ntmps53
  go_upto_region 1 with fail
  rw [← H1.out.1]
  go_wp2_with fail
  refine Calls.mono H1.out.2.2 ?_
  rintro r w2 ⟨rfl, hw2⟩
  obtain rfl := hw2.symm
  clear hw2
  go_wp2_with fail
  go_ret
  exact ⟨rfl, H1.out.2.1⟩
theorem cmpI_neg (a b : Int) : cmpI a b < 0 ↔ a < b := by unfold cmpI; split <;> (try split) <;> omega
/-- Where a label begins in a row. -/
structure BinAt (zs : List BSteps.El) (l : Int) (i j : Nat) : Prop where
  lo : ∀ (k : Nat) (z : BSteps.El), k < i → zs[k]? = some z → z.1 < l
  hi : ∀ (k : Nat) (z : BSteps.El), j ≤ k → zs[k]? = some z → l ≤ z.1
theorem bin_begin (zs : List BSteps.El) (l : Int) : BinAt zs l 0 zs.length := ⟨fun k z h => by omega, fun k z h hz => by have := (List.getElem?_eq_some_iff.1 hz).1; omega⟩
theorem BinAt.left {zs : List BSteps.El} {l : Int} {i j h : Nat} (hB : BinAt zs l i j) (hs : zs.Pairwise fun x y => x.1 ≤ y.1) {z : BSteps.El} (hz : zs[h]? = some z) (hl : z.1 < l) : BinAt zs l (h + 1) j := by
  refine ⟨fun k y hk hy => ?_, hB.hi⟩
  by_cases e : k = h
  · subst e; rw [hz] at hy; cases hy; exact hl
  · obtain ⟨a1, a2⟩ := List.getElem?_eq_some_iff.1 hy
    obtain ⟨b1, b2⟩ := List.getElem?_eq_some_iff.1 hz
    have := List.pairwise_iff_getElem.1 hs k h a1 b1 (by omega)
    rw [a2, b2] at this
    omega
theorem BinAt.right {zs : List BSteps.El} {l : Int} {i j h : Nat} (hB : BinAt zs l i j) (hs : zs.Pairwise fun x y => x.1 ≤ y.1) {z : BSteps.El} (hz : zs[h]? = some z) (hl : ¬ z.1 < l) : BinAt zs l i h := by
  refine ⟨hB.lo, fun k y hk hy => ?_⟩
  by_cases e : k = h
  · subst e; rw [hz] at hy; cases hy; omega
  · obtain ⟨a1, a2⟩ := List.getElem?_eq_some_iff.1 hy
    obtain ⟨b1, b2⟩ := List.getElem?_eq_some_iff.1 hz
    have := List.pairwise_iff_getElem.1 hs h k b1 a1 (by omega)
    rw [a2, b2] at this
    omega
set_option maxRecDepth 100000 in
set_option maxHeartbeats 4000000 in
theorem bin_any (v : Value) (zs : List BSteps.El) (l : Int) (w : World) (hv : BSteps.Has w v zs) (hs : zs.Pairwise fun x y => x.1 ≤ y.1) (hn : zs.length ≤ 100000) :
    Calls Tryd.prog 52 #[v, .int .i64 l, .func (.func 53) #[] #[]] w fun r w' => ∃ (i : Nat) (b : Bool), r = .returned (.tuple #[.int .i64 i, .bool b]) ∧ i ≤ zs.length ∧ BinAt zs l i i ∧ Below w.heap.size w w' := by
  have hv0 := hv
  obtain ⟨ao, cap, rfl, _⟩ := hv0
  obtain ⟨n, hN⟩ : ∃ n, n = zs.length := ⟨_, rfl⟩
  rw [← hN] at hn hv ⊢
  have HV : Hid (BSteps.Has w (.slice ao n cap) zs ∧ n = zs.length ∧ zs.Pairwise (fun x y => x.1 ≤ y.1) ∧ BinAt zs l 0 n) := ⟨hv, hN, hs, by rw [hN]; exact bin_begin zs l⟩
  clear hv hN hs
  go_enter Tryd.func52, Tryd.ntmps52
  go_wp2_with fail
  go_loopg [9, 10] n (fun q iv jv wr => ∃ i j : Nat, q = j - i ∧ i ≤ j ∧ j ≤ n ∧ iv = .int .i64 i ∧ jv = .int .i64 j ∧ BinAt zs l i j ∧ Below w.heap.size w wr)
  case atStart => exact ⟨0, n, by omega, Nat.zero_le _, Nat.le_refl _, rfl, rfl, HV.out.2.2.2, Below.refl _ _⟩
  case round =>
    obtain ⟨i, j, rfl, hij, hjn, rfl, rfl, hB, hb⟩ := hrel
    obtain ⟨wq, rfl⟩ : ∃ wq, wq = wr := ⟨_, rfl⟩
    by_cases hlt : i < j
    · obtain ⟨h, hh⟩ : ∃ h, h = (i + j) / 2 := ⟨_, rfl⟩
      have h1 : i ≤ h := by omega
      have h2 : h < j := by omega
      have k0 : (i : Int) < (j : Int) := by omega
      have kh : ((i : Int) + (j : Int)) / 2 = (h : Int) := by omega
      obtain ⟨z, hz⟩ : ∃ z, zs[h]? = some z := ⟨zs[h]'(by have := HV.out.2.1; omega), List.getElem?_eq_getElem _⟩
      obtain ⟨a, rfl, d0, d1⟩ := step_at (HV.out.1.below hb) hz
      have k1 : (0 : Int) ≤ (h : Int) := by omega
      have k2 : (h : Int) < (n : Int) := by omega
      have hB1 := fun (hl : z.1 < l) => hB.left HV.out.2.2.1 hz hl
      have hB2 := fun (hl : ¬ z.1 < l) => hB.right HV.out.2.2.1 hz hl
      obtain ⟨z1, z2⟩ := z
      simp only at d0 d1 hB1 hB2
      have hE := ends1_any z1 z2 l wq
      have hcn := cmpI_neg z1 l
      obtain ⟨c, hc⟩ : ∃ c, c = cmpI z1 l := ⟨_, rfl⟩
      rw [← hc] at hE hcn
      have HE : Hid _ := And.intro hE (And.intro hb (And.intro hB1 hB2))
      clear hE hb hB1 hB2 hB hz hc hh
      by_cases hcl : c < 0
      · have HL : Hid (z1 < l) := hcn.1 hcl
        have k3 : decide (c < 0) = true := decide_eq_true hcl
        clear hcn
        go_wp2_with fail
        refine Calls.mono HE.out.1 ?_
        rintro r w2 ⟨rfl, hb2⟩
        have H2 : Hid _ := hb2
        clear hb2
        go_wp2_with fail
        go_roundg (j - (h + 1))
        case measure => omega
        case rel => exact ⟨h + 1, j, rfl, by omega, hjn, by go_num, rfl, HE.out.2.2.1 HL.out, HE.out.2.1.trans (H2.out.mono HE.out.2.1.size)⟩
      · have HL : Hid (¬ z1 < l) := fun h => hcl (hcn.2 h)
        have k3 : decide (c < 0) = false := decide_eq_false hcl
        clear hcn
        go_wp2_with fail
        refine Calls.mono HE.out.1 ?_
        rintro r w2 ⟨rfl, hb2⟩
        have H2 : Hid _ := hb2
        clear hb2
        go_wp2_with fail
        go_roundg (h - i)
        case measure => omega
        case rel => exact ⟨i, h, rfl, h1, by omega, rfl, rfl, HE.out.2.2.2 HL.out, HE.out.2.1.trans (H2.out.mono HE.out.2.1.size)⟩
    · obtain rfl : i = j := by omega
      have k0 : ¬ (i : Int) < (i : Int) := by omega
      by_cases hin : i < n
      · obtain ⟨z, hz⟩ : ∃ z, zs[i]? = some z := ⟨zs[i]'(by have := HV.out.2.1; omega), List.getElem?_eq_getElem _⟩
        obtain ⟨a, rfl, d0, d1⟩ := step_at (HV.out.1.below hb) hz
        have k1 : (0 : Int) ≤ (i : Int) := by omega
        have k2 : (i : Int) < (n : Int) := by omega
        have k3 : decide ((i : Int) < (n : Int)) = true := decide_eq_true k2
        obtain ⟨z1, z2⟩ := z
        simp only at d0 d1
        have hE := ends1_any z1 z2 l wq
        generalize cmpI z1 l = c at hE
        have HE : Hid _ := And.intro hE (And.intro hb hB)
        clear hE hb hB hz
        go_wp2_with fail
        refine Calls.mono HE.out.1 ?_
        rintro r w2 ⟨rfl, hb2⟩
        have H2 : Hid _ := hb2
        clear hb2
        go_wp2_with fail
        go_ret2
        exact ⟨i, _, rfl, hjn, HE.out.2.2, HE.out.2.1.trans (H2.out.mono HE.out.2.1.size)⟩
      · have k2 : ¬ (i : Int) < (n : Int) := by omega
        have HE : Hid _ := And.intro hb hB
        clear hb hB
        go_wp2_with fail
        go_ret2
        exact ⟨i, .inl rfl, hjn, HE.out.2, HE.out.1⟩
end Go.Proofs.YtplofbabfkkimaaDoor
/- Contract of the document's Out: of each state its steps. -/
namespace Go.Proofs.YtplofbabfkkimaaDoor
open Go.RowKit Go.Maps
attribute [local go_sem ↓] Go.wp_at_zero Go.wp_at_succ
/-- Rows of steps, one for each state, all of them from B on, no two in one block. -/
structure Outs (w : World) (B : Nat) (us : List Value) (n : Nat) (f : Nat → List BSteps.El) : Prop where
  len : us.length = n
  row : ∀ i, i < n → ∃ u, us[i]? = some u ∧ BSteps.Own w B u (f i)
  ap : ∀ (i j : Nat) (u x : Value) (b : Nat), us[i]? = some u → us[j]? = some x → i ≠ j → u.ownBlock = some b → x.ownBlock ≠ some b
theorem Outs.below {w w' : World} {B : Nat} {us : List Value} {n : Nat} {f : Nat → List BSteps.El} (h : Outs w B us n f) (hb : Below w.heap.size w w') : Outs w' B us n f :=
  ⟨h.len, fun i hi => by obtain ⟨u, h1, h2⟩ := h.row i hi; exact ⟨u, h1, trow_at h2 fun b hb' => hb.block b (h2.lt b hb').2⟩, h.ap⟩
theorem outs_new (w : World) (B n : Nat) : Outs w B (List.replicate n (.slice none 0 0)) n fun _ => [] :=
  ⟨by simp, fun i hi => ⟨.slice none 0 0, by rw [List.getElem?_replicate, if_pos hi], World.ownsRow_nil _ _ _ _⟩, fun i j u x b h1 _ _ h3 => by
    rw [List.getElem?_replicate] at h1
    split at h1
    · cases h1; cases h3
    · cases h1⟩
/-- One row has grown. -/
theorem Outs.set {w w' : World} {B : Nat} {us : List Value} {n : Nat} {f : Nat → List BSteps.El} (h : Outs w B us n f) {i : Nat} {u u' : Value} {F : Nat → Prop} (hi : i < n) (hu : us[i]? = some u) (hk : Kept F w w') (hF : ∀ b, F b → u.ownBlock = some b ∨ ∀ (j : Nat) (x : Value), us[j]? = some x → x.ownBlock ≠ some b) {zs : List BSteps.El} (hO : BSteps.Own w' B u' zs) (hat : u'.ownBlock = u.ownBlock ∨ ∀ b, u'.ownBlock = some b → w.heap.size ≤ b) :
    Outs w' B (us.set i u') n (fun j => if j = i then zs else f j) := by
  refine ⟨by rw [List.length_set]; exact h.len, fun j hj => ?_, fun a c x y b hx hy hac hb => ?_⟩
  · by_cases e : j = i
    · subst e
      exact ⟨u', List.getElem?_set_self (by rw [h.len]; exact hj), by rw [if_pos rfl]; exact hO⟩
    · obtain ⟨x, h1, h2⟩ := h.row j hj
      refine ⟨x, by rw [List.getElem?_set_ne (fun e' => e e'.symm)]; exact h1, ?_⟩
      rw [if_neg e]
      refine own_up h2 hk fun b hb hf => ?_
      rcases hF b hf with hf | hf
      · exact h.ap j i x u b h1 hu e hb hf
      · exact hf j x h1 hb
  · have hold : ∀ (j : Nat) (z : Value), us[j]? = some z → j ≠ i → ∀ b, z.ownBlock = some b → u'.ownBlock ≠ some b := fun j z hz hj b hzb e => by
      rcases hat with h1 | h1
      · rw [h1] at e; exact h.ap j i z u b hz hu hj hzb e
      · have h2 := h1 b e
        obtain ⟨z', h3, h4⟩ := h.row j (by have := (List.getElem?_eq_some_iff.1 hz).1; rw [h.len] at this; exact this)
        rw [hz] at h3; cases h3
        have := (h4.lt b hzb).2
        omega
    by_cases ea : a = i
    · subst ea
      rw [List.getElem?_set_self (by rw [h.len]; exact hi)] at hx
      cases hx
      rw [List.getElem?_set_ne hac] at hy
      exact fun e => hold c y hy (fun e' => hac e'.symm) b e hb
    · rw [List.getElem?_set_ne (fun e' => ea e'.symm)] at hx
      by_cases ec : c = i
      · subst ec
        rw [List.getElem?_set_self (by rw [h.len]; exact hi)] at hy
        cases hy
        exact hold a x hx ea b hb
      · rw [List.getElem?_set_ne (fun e' => ec e'.symm)] at hy
        exact h.ap a c x y b hx hy hac hb
theorem Outs.congr {w : World} {B : Nat} {us : List Value} {n : Nat} {f g : Nat → List BSteps.El} (h : Outs w B us n f) (hfg : ∀ i, i < n → f i = g i) : Outs w B us n g :=
  ⟨h.len, fun i hi => by rw [← hfg i hi]; exact h.row i hi, h.ap⟩
theorem Outs.kept {w w' : World} {B : Nat} {us : List Value} {n : Nat} {f : Nat → List BSteps.El} {F : Nat → Prop} (h : Outs w B us n f) (hk : Kept F w w') (hF : ∀ (j : Nat) (x : Value), us[j]? = some x → ∀ b, x.ownBlock = some b → ¬ F b) : Outs w' B us n f :=
  ⟨h.len, fun i hi => by obtain ⟨u, h1, h2⟩ := h.row i hi; exact ⟨u, h1, own_up h2 hk fun b hb => hF i u h1 b hb⟩, h.ap⟩
theorem kcell {w w' : World} {F : Nat → Prop} (hk : Kept F w w') {b o : Nat} {v : Value} (hF : ¬ F b) (c : w.cell? ⟨b, o, none⟩ = some v) : w'.cell? ⟨b, o, none⟩ = some v := (World.cell?_of_block (a := ⟨b, o, none⟩) (hk.block b (World.block_lt_of_cell? w _ c) hF)).trans c
/-- One row more long, its slice laid into the list of rows. -/
theorem outs_grow {w wr w4 : World} {g n i N g4 k4 cu : Nat} {au : Option Addr} {us : List Value} {f : Nat → List BSteps.El} (z : BSteps.El) (hOs : Outs wr w.heap.size us n f) (hi : i < n) (hu : us[i]? = some (.slice au N cu)) (hN : N = (f i).length) (hown : w4.ownsRow w.heap.size 66 2 (.slice (some ⟨g4, 0, none⟩) (N + 1) k4) (N + 1) (BSteps.C (f i) ++ [.int .i64 z.1, .int .i64 z.2])) (hk : Kept (fun b => (Value.slice au N cu).ownBlock = some b) wr w4) (hat : (Value.slice au N cu).ownBlock = some g4 ∨ g4 = wr.heap.size + 1) (hA4 : Arr 59 w w4 g us) :
    Arr 59 w (w4.setCell ⟨g, i, none⟩ (.slice (some ⟨g4, 0, none⟩) (N + 1) k4)) g (us.set i (.slice (some ⟨g4, 0, none⟩) (N + 1) k4)) ∧ Outs (w4.setCell ⟨g, i, none⟩ (.slice (some ⟨g4, 0, none⟩) (N + 1) k4)) w.heap.size (us.set i (.slice (some ⟨g4, 0, none⟩) (N + 1) k4)) n (fun j => if j = i then f i ++ [z] else f j) ∧ Kept (fun b => b = g ∨ (Value.slice au N cu).ownBlock = some b) wr (w4.setCell ⟨g, i, none⟩ (.slice (some ⟨g4, 0, none⟩) (N + 1) k4)) := by
  have hO : BSteps.Own w4 w.heap.size (.slice (some ⟨g4, 0, none⟩) (N + 1) k4) (f i ++ [z]) := by
    unfold BSteps.Own
    have e1 : (f i ++ [z]).length = N + 1 := by rw [List.length_append, hN]; rfl
    rw [e1, BSteps.C_app]
    exact hown
  have h1 := hOs.set (F := fun b => (Value.slice au N cu).ownBlock = some b) hi hu hk (fun b hb => .inl hb) hO (by
    rcases hat with h | h
    · exact .inl h.symm
    · exact .inr fun b hb => by have e9 : g4 = b := Option.some.inj hb
                                omega)
  refine ⟨hA4.set i _, ?_, ?_⟩
  · refine h1.kept (Kept.setCell w4 g i _) fun j x hx b hb e => ?_
    obtain ⟨cs, hc, _⟩ := hA4.ids
    obtain ⟨x', h2, h3⟩ := h1.row j (by have := (List.getElem?_eq_some_iff.1 hx).1; rw [h1.len] at this; exact this)
    rw [hx] at h2; cases h2
    exact own_bk h3 hc (by decide) (by rw [← e]; exact hb)
  · exact (hk.mono fun b _ hb => .inr hb).trans ((Kept.setCell w4 g i _).mono fun b _ hb => .inl hb)
theorem Sy.steps_take {l : List Sy.Ed} {j : Nat} {e : Sy.Ed} (he : l[j]? = some e) (i : Int) : Sy.steps (l.take (j + 1)) i = if e.1 = i then Sy.steps (l.take j) i ++ [(e.2.1, e.2.2)] else Sy.steps (l.take j) i := by
  rw [List.take_add_one, he]
  exact Sy.steps_snoc _ _ _
theorem out_round {w wr w4 : World} {g n N g4 k4 cu gl c : Nat} {au : Option Addr} {us : List Value} {l : List Sy.Ed} {j L f : Nat} {e : Sy.Ed} (hL : j < L) (hfn : f < n) (hOs : Outs wr w.heap.size us n (fun i => Sy.steps (l.take j) i)) (hOl : BEdges.Own wr w.heap.size (.slice (some ⟨gl, 0, none⟩) l.length c) l) (he : l[j]? = some e) (hf : e.1 = (f : Int)) (hu : us[f]? = some (.slice au (Sy.steps (l.take j) f).length cu)) (hN : N = (Sy.steps (l.take j) f).length)
    (hown : w4.ownsRow w.heap.size 66 2 (.slice (some ⟨g4, 0, none⟩) (N + 1) k4) (N + 1) (BSteps.C (Sy.steps (l.take j) f) ++ [.int .i64 e.2.1, .int .i64 e.2.2])) (hk : Kept (fun b => (Value.slice au N cu).ownBlock = some b) wr w4) (hat : (Value.slice au N cu).ownBlock = some g4 ∨ g4 = wr.heap.size + 1) (hA4 : Arr 59 w w4 g us) (hne : ¬ gl = g) (hgl : ¬ (Value.slice au N cu).ownBlock = some gl) :
    ∃ (j1 : Nat) (us : List Value), L - (j + 1) = L - j1 ∧ j1 ≤ L ∧ Value.int .i64 ((j : Int) + 1) = .int .i64 j1 ∧ Arr 59 w (w4.setCell ⟨g, f, none⟩ (.slice (some ⟨g4, 0, none⟩) (N + 1) k4)) g us ∧ Outs (w4.setCell ⟨g, f, none⟩ (.slice (some ⟨g4, 0, none⟩) (N + 1) k4)) w.heap.size us n (fun i => Sy.steps (l.take j1) i) ∧ BEdges.Own (w4.setCell ⟨g, f, none⟩ (.slice (some ⟨g4, 0, none⟩) (N + 1) k4)) w.heap.size (.slice (some ⟨gl, 0, none⟩) l.length c) l := by
  obtain ⟨h1, h2, h3⟩ := outs_grow (e.2.1, e.2.2) hOs hfn (by rw [hN]; exact hu) hN hown hk hat hA4
  refine ⟨j + 1, _, rfl, hL, rfl, h1, h2.congr fun i hi => ?_, own_up hOl h3 fun b hb hF => ?_⟩
  · rw [Sy.steps_take he, hf]
    by_cases e9 : i = f
    · subst e9; rw [if_pos rfl, if_pos rfl]
    · rw [if_neg e9, if_neg (fun h => e9 (by omega))]
  · cases hb
    rcases hF with hF | hF
    · exact hne hF
    · exact hgl hF
end Go.Proofs.YtplofbabfkkimaaDoor
/- Contract of the document's Back: the edges turned round. -/
namespace Go.Proofs.YtplofbabfkkimaaDoor
open Go.RowKit Go.Maps
attribute [local go_sem ↓] Go.wp_at_zero Go.wp_at_succ
/-- An edge turned round. -/
theorem kcell' {w w' : World} {F : Nat → Prop} (hk : Kept F w w') {a : Addr} {v : Value} (hF : ¬ F a.block) (c : w.cell? a = some v) : w'.cell? a = some v := (World.cell?_of_block (a := a) (hk.block a.block (World.block_lt_of_cell? w _ c) hF)).trans c
/-- What stands in the loop of Back. -/
structure BackAt (w wr : World) (n k s : Int) (v u : Value) (L : List Sy.Ed) : Prop where
  bl : Below w.heap.size w wr
  box : wr.heap[w.heap.size]? = some (.cells #[.int .i64 n, .int .i64 k, .int .i64 s, v] 24 (0, 0))
  res : wr.heap[w.heap.size + 1]? = some (.cells #[.int .i64 0, .int .i64 0, .int .i64 0, .slice none 0 0] 24 (0, 0))
  own : BEdges.Own wr w.heap.size u L
theorem back_grow {w wr w4 : World} {n k s : Int} {v : Value} {au : Option Addr} {N cu g4 k4 : Nat} {L : List Sy.Ed} (h : BackAt w wr n k s v (.slice au N cu) L) (hN : N = L.length) (z : Sy.Ed) (hown : w4.ownsRow w.heap.size 36 3 (.slice (some ⟨g4, 0, none⟩) (N + 1) k4) (N + 1) (BEdges.C L ++ [.int .i64 z.1, .int .i64 z.2.1, .int .i64 z.2.2])) (hk : Kept (fun b => (Value.slice au N cu).ownBlock = some b) wr w4) : BackAt w w4 n k s v (.slice (some ⟨g4, 0, none⟩) (N + 1) k4) (L ++ [z]) := by
  refine ⟨h.bl.trans (hk.below h.bl.size fun b hb => (h.own.lt b hb).1), (hk.block _ (t_lt h.box) (own_bk h.own h.box (by decide))).trans h.box, (hk.block _ (t_lt h.res) (own_bk h.own h.res (by decide))).trans h.res, ?_⟩
  unfold BEdges.Own
  have e1 : (L ++ [z]).length = N + 1 := by rw [List.length_append, hN]; rfl
  rw [e1, BEdges.C_app]
  exact hown
theorem back_round {w wr w4 : World} {n k s : Int} {v : Value} {au : Option Addr} {j m N cu g4 k4 : Nat} {es : List Sy.Ed} {z : Sy.Ed} (h : BackAt w wr n k s v (.slice au N cu) ((es.take j).map Sy.turn)) (hlt : j < m) (hz : es[j]? = some z) (hN : N = j) (hm : m = es.length) (hown : w4.ownsRow w.heap.size 36 3 (.slice (some ⟨g4, 0, none⟩) (N + 1) k4) (N + 1) (BEdges.C ((es.take j).map Sy.turn) ++ [.int .i64 z.2.2, .int .i64 z.2.1, .int .i64 z.1])) (hk : Kept (fun b => (Value.slice au N cu).ownBlock = some b) wr w4) :
    ∃ j1 : Nat, m - (j + 1) = m - j1 ∧ j1 ≤ m ∧ Value.int .i64 ((j : Int) + 1) = .int .i64 j1 ∧ BackAt w w4 n k s v (.slice (some ⟨g4, 0, none⟩) (N + 1) k4) ((es.take j1).map Sy.turn) := by
  have h1 := back_grow h (by rw [hN, List.length_map, List.length_take]; omega) (Sy.turn z) hown hk
  refine ⟨j + 1, rfl, hlt, rfl, ?_⟩
  rw [List.take_add_one, hz, List.map_append]
  exact h1
theorem back_fin {w wr : World} {n k s : Int} {v : Value} {ao : Option Addr} {N c : Nat} {L : List Sy.Ed} (h : BackAt w wr n k s v (.slice ao N c) L) {wf : World} (hwf : wf = (((((wr.setCell ⟨w.heap.size, 3, none⟩ (.slice ao N c)).setCell ⟨w.heap.size + 1, 0, none⟩ (.int .i64 n)).setCell ⟨w.heap.size + 1, 1, none⟩ (.int .i64 k)).setCell ⟨w.heap.size + 1, 2, none⟩ (.int .i64 s)).setCell ⟨w.heap.size + 1, 3, none⟩ (.slice ao N c))) :
    Below w.heap.size w wf ∧ wf.heap[w.heap.size + 1]? = some (.cells #[.int .i64 n, .int .i64 k, .int .i64 s, .slice ao N c] 24 (0, 0)) ∧ BEdges.Own wf w.heap.size (.slice ao N c) L := by
  subst hwf
  have nn : ¬ w.heap.size + 1 = w.heap.size := by omega
  have hgm : (wr.setCell ⟨w.heap.size, 3, none⟩ (.slice ao N c)).heap[w.heap.size + 1]? = some (.cells #[.int .i64 0, .int .i64 0, .int .i64 0, .slice none 0 0] 24 (0, 0)) := (set_other _ _ _ _ _ nn).trans h.res
  refine ⟨four_below (h.bl.setCell (Nat.le_refl _) _) (by omega) _ _ _ _, four_set hgm, trow_at h.own fun b hb => ?_⟩
  have h1 := own_bk h.own h.box (by decide)
  have h2 := own_bk h.own h.res (by decide)
  have e1 : b ≠ w.heap.size + 1 := fun e => h2 (by rw [← e]; exact hb)
  have e2 : b ≠ w.heap.size := fun e => h1 (by rw [← e]; exact hb)
  rw [set_other _ _ _ _ _ e1, set_other _ _ _ _ _ e1, set_other _ _ _ _ _ e1, set_other _ _ _ _ _ e1, set_other _ _ _ _ _ e2]
end Go.Proofs.YtplofbabfkkimaaDoor
/- The reachable states: plain facts, and what stands in memory while the document's Reach works. -/
namespace Go.Proofs.YtplofbabfkkimaaDoor
open Go.RowKit Go.Maps
/-- The rows of all states, the marks, the list of those that are found. -/
structure RcAt (w wr : World) (go gi : Nat) (us : List Value) (n : Nat) (f : Nat → List BSteps.El) (u : Value) (zs : List Int) (bs : List Bool) : Prop where
  out : Arr 59 w wr go us
  rows : Outs wr w.heap.size us n f
  inn : Arr 4 w wr gi (bC bs)
  lst : OwnI wr w.heap.size u zs
theorem RcAt.below {w wr w' : World} {go gi : Nat} {us : List Value} {n : Nat} {f : Nat → List BSteps.El} {u : Value} {zs : List Int} {bs : List Bool} (h : RcAt w wr go gi us n f u zs bs) (hb : Below wr.heap.size wr w') : RcAt w w' go gi us n f u zs bs :=
  ⟨h.out.below hb, h.rows.below hb, h.inn.below hb, trow_at h.lst fun b hb' => hb.block b (h.lst.lt b hb').2⟩
theorem RcAt.row_ne {w wr : World} {go gi : Nat} {us : List Value} {n : Nat} {f : Nat → List BSteps.El} {u : Value} {zs : List Int} {bs : List Bool} (h : RcAt w wr go gi us n f u zs bs) {j : Nat} {x : Value} (hx : us[j]? = some x) : BSteps.Own wr w.heap.size x (f j) := by
  obtain ⟨x', h1, h2⟩ := h.rows.row j (by have := (List.getElem?_eq_some_iff.1 hx).1; rw [h.rows.len] at this; exact this)
  rw [hx] at h1; cases h1
  exact h2
theorem RcAt.mark {w wr : World} {go gi : Nat} {us : List Value} {n : Nat} {f : Nat → List BSteps.El} {u : Value} {zs : List Int} {bs : List Bool} (h : RcAt w wr go gi us n f u zs bs) (q : Nat) : RcAt w (wr.setCell ⟨gi, q, none⟩ (.bool true)) go gi us n f u zs (bs.set q true) := by
  obtain ⟨cs, hc, _⟩ := h.inn.ids
  obtain ⟨co, hco, _⟩ := h.out.ids
  have hk := Kept.setCell wr gi q (.bool true)
  refine ⟨h.out.kept hk fun b hb => ⟨by rw [hb]; exact h.inn.gu, fun e => ?_⟩, h.rows.kept hk fun j x hx b hb e => ?_, by rw [← bC_set]; exact h.inn.set q _, own_up h.lst hk fun b hb e => ?_⟩
  · subst e
    rw [hb, hc] at hco
    exact absurd hco (by simp)
  · exact own_bk (h.row_ne hx) hc (by decide) (by rw [← e]; exact hb)
  · exact own_bk h.lst hc (by decide) (by rw [← e]; exact hb)
theorem RcAt.push {w wr w2 : World} {go gi : Nat} {us : List Value} {n : Nat} {f : Nat → List BSteps.El} {u u2 : Value} {zs : List Int} {bs : List Bool} (h : RcAt w wr go gi us n f u zs bs) {q : Int} {N : Nat} (hN : N = zs.length) (hown : w2.ownsRow w.heap.size 3 1 u2 (N + 1) (iC zs ++ [.int .i64 q])) (hk : Kept (fun b => u.ownBlock = some b) wr w2) : RcAt w w2 go gi us n f u2 (zs ++ [q]) bs := by
  obtain ⟨cs, hc, _⟩ := h.inn.ids
  obtain ⟨co, hco, _⟩ := h.out.ids
  refine ⟨h.out.kept hk fun b hb => ⟨(h.lst.lt b hb).1, fun e => own_bk h.lst hco (by decide) (by rw [← e]; exact hb)⟩, h.rows.kept hk fun j x hx b hb e => own_ne (h.row_ne hx) h.lst (by decide) b hb e, h.inn.kept hk fun b hb => ⟨(h.lst.lt b hb).1, fun e => own_bk h.lst hc (by decide) (by rw [← e]; exact hb)⟩, ?_⟩
  unfold OwnI
  rw [iC_snoc, List.length_append, ← hN]
  exact hown
/-- An older beginning. -/
theorem Outs.base {w : World} {B B' : Nat} {us : List Value} {n : Nat} {f : Nat → List BSteps.El} (h : Outs w B us n f) (hb : B' ≤ B) : Outs w B' us n f :=
  ⟨h.len, fun i hi => by obtain ⟨u, h1, h2⟩ := h.row i hi; exact ⟨u, h1, row_base h2 hb⟩, h.ap⟩
end Go.Proofs.YtplofbabfkkimaaDoor
/- Contract of the law's ends: where the steps with a label lead. -/
namespace Go.Proofs.YtplofbabfkkimaaDoor
open Go.RowKit Go.Maps
attribute [local go_sem ↓] Go.wp_at_zero Go.wp_at_succ
def Sy.ends (l : List BSteps.El) (b : Int) : List Int := (l.filter fun x => x.1 == b).map (·.2)
theorem Sy.ends_take {l : List BSteps.El} {j : Nat} {x : BSteps.El} (h : l[j]? = some x) (b : Int) : Sy.ends (l.take (j + 1)) b = if x.1 = b then Sy.ends (l.take j) b ++ [x.2] else Sy.ends (l.take j) b := by
  rw [take_succ_of h]
  unfold Sy.ends
  rw [List.filter_append, List.map_append]
  by_cases e : x.1 = b <;> simp [e]
theorem Sy.ends_len (l : List BSteps.El) (b : Int) : (Sy.ends l b).length ≤ l.length := by
  unfold Sy.ends
  rw [List.length_map]
  exact List.length_filter_le _ _
end Go.Proofs.YtplofbabfkkimaaDoor
/- Contracts of the program's table.ends, By and From. -/
namespace Go.Proofs.YtplofbabfkkimaaDoor
open Go.RowKit Go.Maps
attribute [local go_sem ↓] Go.wp_at_zero Go.wp_at_succ
theorem Sy.str_pair {l : List Sy.Ed} (h : Sy.Str l) : l.Pairwise fun a b => Sy.lt a b = true := by
  induction l with
  | nil => exact .nil
  | cons a r ih => exact List.pairwise_cons.2 ⟨h.head, ih h.tail⟩
/-- The rest of a list of steps. -/
theorem hasS_drop {w : World} {av : Option Addr} {M cv : Nat} {zs : List BSteps.El} (h : BSteps.Has w (.slice av M cv) zs) (f c : Nat) (hM : M = zs.length) : BSteps.Has w (.slice (Option.map (fun x => x.add (f * 2)) av) (M - f) c) (zs.drop f) := by
  obtain ⟨ao, cap, he, hc⟩ := h
  injection he with e1 e2 e3
  subst e1
  refine ⟨_, c, by rw [List.length_drop, hM], fun j u hj => ?_⟩
  have hl : j < (zs.drop f).length * 2 := by have := (List.getElem?_eq_some_iff.1 hj).1; rw [BSteps.C_len] at this; exact this
  obtain ⟨z, hz⟩ : ∃ z, (zs.drop f)[j / 2]? = some z := ⟨_, List.getElem?_eq_getElem (by omega)⟩
  have h1 := BSteps.C_at _ (j / 2) z hz (j % 2) (Nat.mod_lt _ (by decide))
  rw [show j / 2 * 2 + j % 2 = j by omega, hj] at h1
  rw [List.getElem?_drop] at hz
  have h2 := BSteps.C_at _ (f + j / 2) z hz (j % 2) (Nat.mod_lt _ (by decide))
  rw [← h1, show (f + j / 2) * 2 + j % 2 = f * 2 + j by omega] at h2
  obtain ⟨a, rfl, hca⟩ := hc _ _ h2
  exact ⟨_, rfl, by rw [Addr.add_add]; exact hca⟩
/-- In a row the labels rise. -/
theorem Sy.rowOf_rise {l : List Sy.Ed} (h : Sy.Str l) (n : Nat) (i : Int) : (Sy.rowOf n l i).Pairwise fun x y => x.1 ≤ y.1 := by
  unfold Sy.rowOf
  split
  · unfold Sy.steps
    rw [List.pairwise_map]
    refine (((Sy.str_pair h).filter _).imp_of_mem ?_)
    intro a b ha hb hl
    have h1 : a.1 = i := by simpa using (List.mem_filter.1 ha).2
    have h2 : b.1 = i := by simpa using (List.mem_filter.1 hb).2
    rw [Sy.lt_iff] at hl
    show a.2.1 ≤ b.2.1
    omega
  · exact .nil
theorem bel8 {w W w8 : World} (hb : Below W.heap.size W w8) (h : Below w.heap.size w W) : Below w.heap.size w w8 := h.trans (hb.mono h.size)
theorem Sy.ends_nil_of {zs : List BSteps.El} {b : Int} (h : ∀ z ∈ zs, z.1 ≠ b) : Sy.ends zs b = [] := by
  unfold Sy.ends
  rw [List.filter_eq_nil_iff.2 fun z hz => by simpa using h z hz]
  rfl
theorem Sy.ends_append (xs ys : List BSteps.El) (b : Int) : Sy.ends (xs ++ ys) b = Sy.ends xs b ++ Sy.ends ys b := by simp [Sy.ends]
/-- Ahead of the place none, and behind the first other none. -/
theorem Sy.ends_cut {zs : List BSteps.El} {b : Int} {i j : Nat} (hs : zs.Pairwise fun x y => x.1 ≤ y.1) (hB : BinAt zs b i i) (hij : i + j ≤ zs.length) (hj : ∀ z, zs[i + j]? = some z → z.1 ≠ b) : Sy.ends zs b = Sy.ends ((zs.drop i).take j) b := by
  have e1 : zs = zs.take i ++ ((zs.drop i).take j ++ (zs.drop i).drop j) := by rw [List.take_append_drop, List.take_append_drop]
  have h1 : Sy.ends (zs.take i) b = [] := Sy.ends_nil_of fun z hz => by
    obtain ⟨k, hk, rfl⟩ := List.mem_iff_getElem.1 hz
    rw [List.length_take] at hk
    have := hB.lo k (zs[k]'(by omega)) (by omega) (List.getElem?_eq_getElem _)
    rw [List.getElem_take]
    omega
  have h2 : Sy.ends ((zs.drop i).drop j) b = [] := Sy.ends_nil_of fun z hz => by
    obtain ⟨k, hk, rfl⟩ := List.mem_iff_getElem.1 hz
    simp only [List.length_drop] at hk
    have h3 := hj (zs[i + j]'(by omega)) (List.getElem?_eq_getElem _)
    have h4 := hB.hi (i + j) (zs[i + j]'(by omega)) (by omega) (List.getElem?_eq_getElem _)
    simp only [List.getElem_drop]
    by_cases e : k = 0
    · subst e; simpa using h3
    · have := List.pairwise_iff_getElem.1 hs (i + j) (i + (j + k)) (by omega) (by omega) (by omega)
      omega
  conv => lhs; rw [e1]
  rw [Sy.ends_append, Sy.ends_append, h1, h2]
  simp
set_option maxRecDepth 100000 in
set_option maxHeartbeats 8000000 in
theorem tends_any (bs bb m n B : Nat) (l : List Sy.Ed) (i b : Int) (w : World) (hn : n ≤ 100000) (hl : l.length = m) (hm : m ≤ 100000) (hs : Sy.Str l) (hT : Tb w B bs bb n l) :
    Calls Tryd.prog 40 #[tabV bs bb m n, .int .i64 i, .int .i64 b] w fun r w' => ∃ u, r = .returned u ∧ OwnI w' w.heap.size u (Sy.ends (Sy.rowOf n l i) b) ∧ Below w.heap.size w w' := by
  obtain ⟨i0, hi0, hz0, hz1, hz2⟩ := info_parts Tryd.infoI4
  obtain ⟨w1, hw1⟩ : ∃ w1, w1 = w.alloc (.cells #[.slice (some ⟨bs, 0, none⟩) m m, .slice (some ⟨bb, 0, none⟩) (n + 1) (n + 1)] 61) := ⟨_, rfl⟩
  have hb1 : Below w.heap.size w w1 := by rw [hw1]; exact (Below.refl _ _).alloc (Nat.le_refl _) _
  have hg1 : w1.heap[w.heap.size]? = some (.cells #[.slice (some ⟨bs, 0, none⟩) m m, .slice (some ⟨bb, 0, none⟩) (n + 1) (n + 1)] 61 (0, 0)) := by rw [hw1]; exact heap_alloc_new w _
  have hR := row2_any bs bb m n B l i w1 hn hl (str_rows hs) (hT.below hb1)
  obtain ⟨zs, hzs⟩ : ∃ zs, zs = Sy.rowOf n l i := ⟨_, rfl⟩
  have hrise := Sy.rowOf_rise hs n i
  have hzl := rowOf_len n l i
  rw [← hzs] at hR hrise hzl ⊢
  have c0 : w1.cell? ⟨w.heap.size, 0, none⟩ = some (.slice (some ⟨bs, 0, none⟩) m m) := cell0_of hg1 rfl
  have c1 : w1.cell? ⟨w.heap.size, 1, none⟩ = some (.slice (some ⟨bb, 0, none⟩) (n + 1) (n + 1)) := cell0_of hg1 rfl
  unfold tabV at hR ⊢
  have H1 : Hid _ := And.intro hw1 (And.intro hb1 (And.intro hR (And.intro hrise (And.intro (hT.below hb1) hzl))))
  have hzm : zs.length ≤ 100000 := by omega
  have HT0 : Hid _ := hT
  clear hw1 hb1 hg1 hR hT hrise hs hzs hl hzl
  go_enter Tryd.func40, Tryd.ntmps40
  go_upto_region 1 with fail
  rw [← H1.out.1]
  go_wp2_with fail
  refine Calls.mono H1.out.2.2.1 ?_
  rintro r w2 ⟨v, rfl, hv, hcap, hb2⟩
  have hT2 := H1.out.2.2.2.2.1.below hb2
  obtain ⟨av, cv, rfl, _⟩ := hv w2 hT2
  have hBi := bin_any _ zs b w2 (hv w2 hT2) H1.out.2.2.2.1 hzm
  obtain ⟨M, hM⟩ : ∃ M, M = zs.length := ⟨_, rfl⟩
  rw [← hM] at hv hBi hzm hcap ⊢
  have hMc : M ≤ cv := by
    obtain ⟨a', k', c', he, hkc⟩ := hcap
    injection he with e1 e2 e3
    omega
  have H2 : Hid _ := And.intro hBi (And.intro hv (And.intro hT2 (And.intro (bel8 hb2 H1.out.2.1) hM)))
  clear hBi hv hT2 hb2 hM c0 c1 hcap
  go_wp2_with fail
  refine Calls.mono H2.out.1 ?_
  rintro r w3 ⟨f, fb, rfl, hfM, hBA, hb3⟩
  have hf0 : (0 : Int) ≤ (f : Int) := by omega
  have hf1 : (f : Int) ≤ (M : Int) := by omega
  have H3 : Hid _ := And.intro hBA (And.intro (H2.out.2.2.1.below hb3) (bel8 hb3 H2.out.2.2.2.1))
  clear hBA hb3
  by_cases hcf : cv = f
  · obtain rfl : f = M := by omega
    subst hcf
    have z0 : cv - cv = 0 := Nat.sub_self _
    go_wp2_with fail
    go_loopg [10, 26] 0 (fun q uv kv wr => q = 0 ∧ kv = .int .i64 0 ∧ uv = .slice none 0 0 ∧ wr = w3)
    case atStart => exact ⟨rfl, rfl, rfl, rfl⟩
    case round =>
      obtain ⟨rfl, rfl, rfl, rfl⟩ := hrel
      go_wp2_with fail
      go_ret
      refine ⟨_, rfl, ?_, H3.out.2.2⟩
      rw [Sy.ends_cut (j := 0) H1.out.2.2.2.1 H3.out.1 (by have := H2.out.2.2.2.2; omega) (fun z hz => by have := (List.getElem?_eq_some_iff.1 hz).1; have := H2.out.2.2.2.2; omega)]
      exact World.ownsRow_nil _ _ _ _
  · have hD := fun W (hW : Tb W B bs bb n l) => hasS_drop (H2.out.2.1 W hW) f (cv - f) H2.out.2.2.2.2
    go_wp2_with fail
    obtain ⟨R, hR⟩ : ∃ R, R = M - f := ⟨_, rfl⟩
    obtain ⟨a2, ha2⟩ : ∃ a2, a2 = Option.map (fun (x : Addr) => x.add (f * 2)) av := ⟨_, rfl⟩
    obtain ⟨c2, hc2⟩ : ∃ c2, c2 = cv - f := ⟨_, rfl⟩
    rw [← hR, ← ha2, ← hc2] at hD
    rw [← hR, ← ha2, ← hc2]
    have hR2 : f + R = M := by omega
    have H4 : Hid _ := And.intro hD hR2
    clear hD hR ha2 hc2 hR2
    have hRm : R ≤ 100000 := by have := H4.out.2; omega
    go_loopg [10, 26] R (fun q uv kv wr => ∃ j : Nat, q = R - j ∧ j ≤ R ∧ kv = .int .i64 j ∧ OwnI wr w.heap.size uv (Sy.ends ((zs.drop f).take j) b) ∧ Below w.heap.size w wr)
    case atStart => exact ⟨0, rfl, Nat.zero_le _, rfl, World.ownsRow_nil _ _ _ _, H3.out.2.2⟩
    case round =>
      obtain ⟨j, rfl, hj, rfl, hO, hb⟩ := hrel
      obtain ⟨au, cu, hu⟩ := row_shape hO
      obtain ⟨ys, hys⟩ : ∃ ys, ys = Sy.ends ((zs.drop f).take j) b := ⟨_, rfl⟩
      rw [← hys] at hO hu
      obtain ⟨N, hN⟩ : ∃ N, N = ys.length := ⟨_, rfl⟩
      rw [← hN] at hu
      subst hu
      by_cases hlt : j < R
      · obtain ⟨x, hx⟩ : ∃ x, (zs.drop f)[j]? = some x := ⟨(zs.drop f)[j]'(by have := H4.out.2; have := H2.out.2.2.2.2; rw [List.length_drop]; omega), List.getElem?_eq_getElem _⟩
        obtain ⟨a, rfl, d0, d1⟩ := step_at (H4.out.1 wr (HT0.out.below hb)) hx
        have hst := Sy.ends_take hx b
        have hno := fun (hxb : x.1 ≠ b) => Sy.ends_cut (j := j) H1.out.2.2.2.1 H3.out.1 (by have := H2.out.2.2.2.2; have := H4.out.2; omega) (fun z hz => by rw [List.getElem?_drop] at hx; rw [hx] at hz; cases hz; exact hxb)
        obtain ⟨x1, x2⟩ := x
        simp only at d0 d1 hst hno
        obtain ⟨wb, hwb⟩ : ∃ wb, wb = wr.alloc (.cells #[.int .i64 x1, .int .i64 x2] 66) := ⟨_, rfl⟩
        have hbb : Below wr.heap.size wr wb := by rw [hwb]; exact (Below.refl _ _).alloc (Nat.le_refl _) _
        have hgb : wb.heap[wr.heap.size]? = some (.cells #[.int .i64 x1, .int .i64 x2] 66 (0, 0)) := by rw [hwb]; exact heap_alloc_new wr _
        have f0 : wb.cell? ⟨wr.heap.size, 0, none⟩ = some (.int .i64 x1) := cell0_of hgb rfl
        have f1 : wb.cell? ⟨wr.heap.size, 1, none⟩ = some (.int .i64 x2) := cell0_of hgb rfl
        have hOb : OwnI wb w.heap.size (.slice au N cu) ys := trow_at hO fun b hb => hbb.block b (hO.lt b hb).2
        have hOz : wb.ownsRow w.heap.size 3 1 (.slice au N cu) N (iC ys) := by have h1 := hOb; unfold OwnI at h1; rw [← hN] at h1; exact h1
        have hbw : Below w.heap.size w wb := hb.trans (hbb.mono hb.size)
        have hle : w.heap.size ≤ (wb.alloc (.cells #[.int .i64 x2] 3)).heap.size := by have := hbw.size; simp; omega
        have hNl : N ≤ 100000 := by have := Sy.ends_len ((zs.drop f).take j) b; rw [List.length_take, List.length_drop] at this; rw [hN, hys]; omega
        have hml : N + 1 ≤ maxLen := by unfold maxLen; omega
        have hby : (N + 1) * 8 ≤ 140737488355328 := by omega
        have q0 : (0 : Int) ≤ (j : Int) := by omega
        have q1 : (j : Int) < (R : Int) := by omega
        have HZ : Hid _ := And.intro hOz (And.intro hbw (And.intro hwb (And.intro hys (And.intro hst (And.intro hN (And.intro hOb hno))))))
        clear hO hOb hOz hbw hwb hbb hgb hys hst hN hx hb hno
        by_cases hxb : x1 = b
        · have e1 : (x1 != b) = false := by simp [hxb]
          have HX : Hid (x1 = b) := hxb
          clear hxb
          go_upto_region 7 with fail
          rw [← HZ.out.2.2.1]
          go_wp2_with (at_builtin; refine wpList_append_own_at _ rfl _ _ 26 rfl w.heap.size 3 i0 (.int .i64 0) 1 8 Tryd.underlying26 hi0 hz0 hz1 hz2 rfl (by decide) (.slice au N cu) N (iC ys) rfl (HZ.out.1.alloc _) ⟨wb.heap.size, 0, none⟩ 1 1 [.int .i64 x2] rfl rfl (World.news_of_block (cs := #[.int .i64 x2]) (t := 3) (fr := (0, 0)) (heap_alloc_new wb _)) (by simp [Value.oneCell']) hml hby hle ?_; intro v5 w5 hO5 hg5 hnil5 hat5; have H5 : Hid _ := And.intro hO5 hg5; clear hO5 hg5 hnil5 hat5)
          go_roundg (R - (j + 1))
          case measure => omega
          case rel =>
            refine ⟨j + 1, rfl, by omega, by go_num, ?_, ?_⟩
            · rw [HZ.out.2.2.2.2.1, if_pos HX.out, ← HZ.out.2.2.2.1]
              unfold OwnI
              rw [iC_snoc, List.length_append, ← HZ.out.2.2.2.2.2.1]
              exact H5.out.1
            · exact HZ.out.2.1.trans ((grown_alloc H5.out.2).below HZ.out.2.1.size fun b hb => (HZ.out.1.lt b hb).1)
        · have e1 : (x1 != b) = true := by simp [hxb]
          have HX : Hid (x1 ≠ b) := hxb
          clear hxb
          go_upto_region 7 with fail
          rw [← HZ.out.2.2.1]
          go_wp2_with fail
          go_ret
          refine ⟨_, rfl, ?_, HZ.out.2.1⟩
          rw [HZ.out.2.2.2.2.2.2.2 HX.out, ← HZ.out.2.2.2.1]
          exact HZ.out.2.2.2.2.2.2.1
      · obtain rfl : j = R := by omega
        have q1 : ¬ (j : Int) < (j : Int) := by omega
        have HO : Hid _ := And.intro hO (And.intro hb hys)
        clear hO hb hys hN
        go_wp2_with fail
        go_ret
        refine ⟨_, rfl, ?_, HO.out.2.1⟩
        rw [Sy.ends_cut (j := j) H1.out.2.2.2.1 H3.out.1 (by have := H2.out.2.2.2.2; have := H4.out.2; omega) (fun z hz => by have := (List.getElem?_eq_some_iff.1 hz).1; have := H2.out.2.2.2.2; have := H4.out.2; omega), ← HO.out.2.2]
        exact HO.out.1
set_option maxRecDepth 100000 in
set_option maxHeartbeats 1000000 in
theorem by_any {B g bs bb cs cb n : Nat} {k s : Int} {es : List Sy.Ed} (i b : Int) (w : World) (h : Gr w B g bs bb cs cb n k s es) : Calls Tryd.prog 26 #[.pointer (some ⟨g, 0, none⟩), .int .i64 i, .int .i64 b] w fun r w' => ∃ u, r = .returned u ∧ OwnI w' w.heap.size u (Sy.ends (Sy.rowOf n (Sy.nf es) i) b) ∧ Below w.heap.size w w' := by
  obtain ⟨_, _, _, ⟨c0, c1⟩, _, _⟩ := h.cells
  have hq := Tryd.eqG g
  have hs := h.sizes
  have hR := tends_any bs bb (Sy.nf es).length n B (Sy.nf es) i b w (by omega) (rfl) (by omega) (Sy.nf_str _) h.out
  unfold tabV at hR
  have HR : Hid _ := hR
  obtain ⟨L, hL⟩ : ∃ L, L = (Sy.nf es).length := ⟨_, rfl⟩
  rw [← hL] at c0 HR
  clear h hR hL hs
  go_enter Tryd.func26, Tryd.ntmps26
  go_wp2_with fail
  refine Calls.mono HR.out ?_
  rintro r w1 ⟨u, rfl, hO, hb⟩
  have H1 : Hid _ := And.intro hO hb
  clear hO hb
  go_wp2_with fail
  go_ret
  exact ⟨_, rfl, H1.out.1, H1.out.2⟩
set_option maxRecDepth 100000 in
set_option maxHeartbeats 1000000 in
theorem from_any {B g bs bb cs cb n : Nat} {k s : Int} {es : List Sy.Ed} (i b : Int) (w : World) (h : Gr w B g bs bb cs cb n k s es) : Calls Tryd.prog 27 #[.pointer (some ⟨g, 0, none⟩), .int .i64 i, .int .i64 b] w fun r w' => ∃ u, r = .returned u ∧ OwnI w' w.heap.size u (Sy.ends (Sy.rowOf n (Sy.nf ((Sy.nf es).map Sy.turn)) i) b) ∧ Below w.heap.size w w' := by
  obtain ⟨_, _, _, _, c0, c1⟩ := h.cells
  have hq := Tryd.eqG g
  have hs := h.sizes
  have hR := tends_any cs cb (Sy.nf es).length n B (Sy.nf ((Sy.nf es).map Sy.turn)) i b w (by omega) (nf_turn_len es) (by omega) (Sy.nf_str _) h.inn
  unfold tabV at hR
  have HR : Hid _ := hR
  obtain ⟨L, hL⟩ : ∃ L, L = (Sy.nf es).length := ⟨_, rfl⟩
  rw [← hL] at c0 HR
  clear h hR hL hs
  go_enter Tryd.func27, Tryd.ntmps27
  go_wp2_with fail
  refine Calls.mono HR.out ?_
  rintro r w1 ⟨u, rfl, hO, hb⟩
  have H1 : Hid _ := And.intro hO hb
  clear hO hb
  go_wp2_with fail
  go_ret
  exact ⟨_, rfl, H1.out.1, H1.out.2⟩
end Go.Proofs.YtplofbabfkkimaaDoor
/- The one form of classes: who is together, the form of the form, when two have one. Plain facts. -/
namespace Go.Proofs.YtplofbabfkkimaaDoor.Sy
theorem place_lt {c : Int} {l : List Int} : place c l < l.length ↔ c ∈ l := by
  induction l with
  | nil => simp [place]
  | cons a r ih =>
    unfold place
    by_cases h : a = c
    · simp [h]
    · rw [if_neg h, List.length_cons, Nat.add_lt_add_iff_right, ih, List.mem_cons]
      exact ⟨fun h1 => .inr h1, fun h1 => h1.elim (fun e => absurd e.symm h) id⟩
theorem place_not {c : Int} {l : List Int} (h : c ∉ l) : place c l = l.length := by
  have h1 := place_le c l
  have h2 : ¬ place c l < l.length := fun h2 => h (place_lt.1 h2)
  omega
theorem place_at {c : Int} {l : List Int} (h : c ∈ l) : l[place c l]? = some c := by
  induction l with
  | nil => simp at h
  | cons a r ih =>
    unfold place
    by_cases h1 : a = c
    · simp [h1]
    · rw [if_neg h1, List.getElem?_cons_succ]
      exact ih ((List.mem_cons.1 h).elim (fun e => absurd e.symm h1) id)
theorem place_inj {a b : Int} {l : List Int} (ha : a ∈ l) (hb : b ∈ l) (h : place a l = place b l) : a = b := by
  have h1 := place_at ha
  rw [h, place_at hb] at h1
  exact (Option.some.inj h1).symm
theorem place_left {c : Int} {a : List Int} (b : List Int) (h : c ∈ a) : place c (a ++ b) = place c a := by
  induction a with
  | nil => simp at h
  | cons x r ih =>
    simp only [List.cons_append, place]
    by_cases h1 : x = c
    · simp [h1]
    · rw [if_neg h1, if_neg h1, ih ((List.mem_cons.1 h).elim (fun e => absurd e.symm h1) id)]
/-- Those seen, with one more. -/
def more (c : Int) (seen : List Int) : List Int := if place c seen < seen.length then seen else seen ++ [c]
theorem more_mem (c : Int) (seen : List Int) : c ∈ more c seen := by
  unfold more
  split
  · next h => exact place_lt.1 h
  · exact List.mem_append_right _ (List.mem_singleton.2 rfl)
theorem more_pre (c : Int) (seen : List Int) : ∃ t, more c seen = seen ++ t := by
  unfold more
  split
  · exact ⟨[], by simp⟩
  · exact ⟨[c], rfl⟩
theorem more_place (c : Int) (seen : List Int) : place c (more c seen) = place c seen := by
  unfold more
  split
  · rfl
  · next h =>
    have h1 : c ∉ seen := fun h1 => h (place_lt.2 h1)
    rw [place_app c seen [c] (fun x hx e => h1 (by rw [← e]; exact hx)), place_not h1]
    simp [place]
theorem seenG_pre (l : List Int) : ∀ seen, ∃ t, seenG seen l = seen ++ t := by
  induction l with
  | nil => intro seen; exact ⟨[], by simp [seenG]⟩
  | cons c r ih =>
    intro seen
    obtain ⟨t, ht⟩ := ih (more c seen)
    obtain ⟨u, hu⟩ := more_pre c seen
    refine ⟨u ++ t, ?_⟩
    show seenG (more c seen) r = _
    rw [ht, hu, List.append_assoc]
theorem seenG_mem (l : List Int) : ∀ seen, ∀ z ∈ l, z ∈ seenG seen l := by
  induction l with
  | nil => intro seen z h; simp at h
  | cons c r ih =>
    intro seen z hz
    show z ∈ seenG (more c seen) r
    rcases List.mem_cons.1 hz with rfl | hz
    · obtain ⟨t, ht⟩ := seenG_pre r (more z seen)
      rw [ht]; exact List.mem_append_left _ (more_mem z seen)
    · exact ih _ z hz
theorem canonG_map (l : List Int) : ∀ seen, canonG seen l = l.map fun z => place z (seenG seen l) := by
  induction l with
  | nil => intro seen; rfl
  | cons c r ih =>
    intro seen
    show place c seen :: canonG (more c seen) r = place c (seenG (more c seen) r) :: r.map fun z => place z (seenG (more c seen) r)
    rw [ih]
    congr 1
    obtain ⟨t, ht⟩ := seenG_pre r (more c seen)
    rw [ht, place_left t (more_mem c seen), more_place]
theorem canon_map (l : List Int) : canon l = l.map fun z => place z (seenG [] l) := canonG_map l []
theorem place_map (f : Int → Int) (c : Int) (l : List Int) (h : ∀ x ∈ l, f x = f c → x = c) : place (f c) (l.map f) = place c l := by
  induction l with
  | nil => rfl
  | cons a r ih =>
    simp only [List.map_cons, place]
    by_cases h1 : a = c
    · simp [h1]
    · rw [if_neg h1, if_neg (fun e => h1 (h a List.mem_cons_self e)), ih fun x hx => h x (List.mem_cons_of_mem _ hx)]
/-- Numbers that are renamed one to one have the same one form. -/
theorem canonG_inj (f : Int → Int) (l : List Int) : ∀ seen, (∀ x ∈ seen ++ l, ∀ y ∈ seen ++ l, f x = f y → x = y) → canonG (seen.map f) (l.map f) = canonG seen l := by
  induction l with
  | nil => intro seen _; rfl
  | cons c r ih =>
    intro seen h
    have hp : place (f c) (seen.map f) = place c seen := place_map f c seen fun x hx e => h x (List.mem_append_left _ hx) c (List.mem_append_right _ List.mem_cons_self) e
    have hm : more (f c) (seen.map f) = (more c seen).map f := by
      unfold more
      rw [hp, List.length_map]
      split
      · rfl
      · simp
    show place (f c) (seen.map f) :: canonG (more (f c) (seen.map f)) (r.map f) = place c seen :: canonG (more c seen) r
    rw [hp, hm, ih (more c seen)]
    have hsub : ∀ x ∈ more c seen ++ r, x ∈ seen ++ c :: r := fun x hx => by
      rcases List.mem_append.1 hx with hx | hx
      · unfold more at hx
        split at hx
        · exact List.mem_append_left _ hx
        · rcases List.mem_append.1 hx with hx | hx
          · exact List.mem_append_left _ hx
          · rw [List.mem_singleton.1 hx]; exact List.mem_append_right _ List.mem_cons_self
      · exact List.mem_append_right _ (List.mem_cons_of_mem _ hx)
    exact fun x hx y hy e => h x (hsub x hx) y (hsub y hy) e
theorem canon_inj (f : Int → Int) (l : List Int) (h : ∀ x ∈ l, ∀ y ∈ l, f x = f y → x = y) : canon (l.map f) = canon l := canonG_inj f l [] (by simpa using h)
theorem natI_map (l : List Int) : natI (canon l) = l.map fun z => ((place z (seenG [] l) : Nat) : Int) := by
  rw [canon_map]; simp [natI]
/-- It is its own one form. -/
theorem canon_idem (l : List Int) : canon (natI (canon l)) = canon l := by
  rw [natI_map]
  refine canon_inj _ l fun x hx y hy e => place_inj (seenG_mem l [] x hx) (seenG_mem l [] y hy) (by omega)
/-- It keeps who is together. -/
theorem canon_eq {l : List Int} {i k : Nat} {x y : Int} (hi : l[i]? = some x) (hk : l[k]? = some y) {u v : Int} (hu : (natI (canon l))[i]? = some u) (hv : (natI (canon l))[k]? = some v) : u = v ↔ x = y := by
  rw [natI_map, List.getElem?_map, hi] at hu
  rw [natI_map, List.getElem?_map, hk] at hv
  simp only [Option.map_some, Option.some.injEq] at hu hv
  subst hu; subst hv
  constructor
  · intro e
    exact place_inj (seenG_mem l [] x (List.mem_of_getElem? hi)) (seenG_mem l [] y (List.mem_of_getElem? hk)) (by omega)
  · rintro rfl; rfl
/-- Two lists have one just if they say the same together. -/
theorem canon_iff {a b : List Int} (hl : a.length = b.length) : canon a = canon b ↔ ∀ (i k : Nat) (x y u v : Int), a[i]? = some x → a[k]? = some y → b[i]? = some u → b[k]? = some v → (x = y ↔ u = v) := by
  constructor
  · intro h i k x y u v hx hy hu hv
    have hil := (List.getElem?_eq_some_iff.1 hx).1
    have hkl := (List.getElem?_eq_some_iff.1 hy).1
    have hn : (natI (canon a)).length = a.length := by rw [natI_map, List.length_map]
    obtain ⟨p, hp⟩ : ∃ p, (natI (canon a))[i]? = some p := ⟨_, List.getElem?_eq_getElem (by rw [hn]; exact hil)⟩
    obtain ⟨q, hq⟩ : ∃ q, (natI (canon a))[k]? = some q := ⟨_, List.getElem?_eq_getElem (by rw [hn]; exact hkl)⟩
    exact (canon_eq hx hy hp hq).symm.trans (canon_eq hu hv (by rw [← h]; exact hp) (by rw [← h]; exact hq))
  · intro h
    have hb : b = a.map fun z => (b[place z a]?).getD 0 := by
      apply List.ext_getElem?
      intro i
      by_cases hi : i < a.length
      · have hx : a[i]? = some a[i] := List.getElem?_eq_getElem hi
        have hu : b[i]? = some (b[i]'(by omega)) := List.getElem?_eq_getElem _
        have hm : a[i] ∈ a := List.getElem_mem hi
        have hp := place_at hm
        have hpl : place a[i] a < a.length := place_lt.2 hm
        have hv : b[place a[i] a]? = some (b[place a[i] a]'(by omega)) := List.getElem?_eq_getElem _
        rw [List.getElem?_map, hx, hu]
        simp only [Option.map_some]
        rw [hv]
        have h2 := (h i (place a[i] a) _ _ _ _ hx hp hu hv).1 rfl
        rw [h2]; rfl
      · rw [List.getElem?_eq_none (by omega), List.getElem?_eq_none (by rw [List.length_map]; omega)]
    rw [hb]
    refine (canon_inj _ a fun x hx y hy e => ?_).symm
    have hxl : place x a < b.length := by rw [← hl]; exact place_lt.2 hx
    have hyl : place y a < b.length := by rw [← hl]; exact place_lt.2 hy
    have hu : b[place x a]? = some b[place x a] := List.getElem?_eq_getElem hxl
    have hv : b[place y a]? = some b[place y a] := List.getElem?_eq_getElem hyl
    rw [hu, hv] at e
    exact (h _ _ _ _ _ _ (place_at hx) (place_at hy) hu hv).2 e
theorem formG_canon (l : List Int) : ∀ seen, formG seen.length (natI (canonG seen l)) = true := by
  induction l with
  | nil => intro seen; rfl
  | cons c r ih =>
    intro seen
    have h1 := ih (more c seen)
    show (decide ((0 : Int) ≤ ((place c seen : Nat) : Int) ∧ ((place c seen : Nat) : Int) ≤ (seen.length : Int)) && formG (if ((place c seen : Nat) : Int) = (seen.length : Int) then seen.length + 1 else seen.length) (natI (canonG (more c seen) r))) = true
    have h2 := place_le c seen
    rw [decide_eq_true (by omega), Bool.true_and]
    have h3 : (more c seen).length = if ((place c seen : Nat) : Int) = (seen.length : Int) then seen.length + 1 else seen.length := by
      unfold more
      by_cases e : place c seen < seen.length
      · rw [if_pos e, if_neg (by omega)]
      · rw [if_neg e, if_pos (by omega)]; simp
    rw [← h3]
    exact h1
/-- It is in the one form. -/
theorem classes_canon (l : List Int) (n : Int) (hn : n = (l.length : Int)) : classes n (natI (canon l)) = true := by
  have h1 : (natI (canon l)).length = l.length := by rw [natI_map, List.length_map]
  unfold classes
  rw [h1, hn, decide_eq_true rfl, Bool.true_and]
  exact formG_canon l []
end Go.Proofs.YtplofbabfkkimaaDoor.Sy
