/- Texts of this claim, joined: BXEdges, SyRight, SySort, SySorted, Is, Sent, ErIs, ErCode, ErTold, SyNormal, SyCanon, SyForms, SyProg, SyChk, SyView. -/
import Derived.Test.YtladdlkfnfdhaaaDoorPart2
import Derived.Deep.QuietTactic
import Derived.BigQuiet
import Derived.Test.YtladdlkfnfdhaaaDoorPart1
import Derived.Deep.DeepCutAuto
import Derived.Deep.RegionHeld3
import Derived.Deep.RegionLaw
import Derived.Test.YtladdlkfnfdhaaaDoorProg
import Derived.WalkKit
import Derived.LaidEql
import Derived.Stop.Asserts
import Derived.RowKitTokens
import Derived.Below
import Derived.OneCell
import Derived.Deep.LoopGhost
import Derived.WalkSmall
import Derived.ProofKit
import Derived.Test.YtladdlkfnfdhaaaDoorPart0
import Derived.Shelf.Abstract
namespace Go.Proofs.YtladdlkfnfdhaaaDoor
namespace BEdges
open Go.RowKit Go.Maps
attribute [local go_sem ↓] Go.wp_at_zero Go.wp_at_succ
abbrev El : Type := Int × Int × Int
/-- The cells of an element, of a list. -/
def enc (z : El) : List Value := [.int .i64 z.1, .int .i64 z.2.1, .int .i64 z.2.2]
def C (zs : List El) : List Value := zs.flatMap enc
theorem enc_len (z : El) : (enc z).length = 3 := rfl
theorem C_len (zs : List El) : (C zs).length = zs.length * 3 := by
  unfold C
  induction zs with
  | nil => rfl
  | cons z r ih => rw [List.flatMap_cons, List.length_append, ih, enc_len, List.length_cons]; omega
theorem C_app (a b : List El) : C (a ++ b) = C a ++ C b := List.flatMap_append
theorem C_one (zs : List El) : ∀ u ∈ C zs, u.oneCell' = true := fun u hu => by
  obtain ⟨z, _, hz⟩ := List.mem_flatMap.1 hu
  simp only [enc, List.mem_cons, List.not_mem_nil, or_false] at hz
  rcases hz with rfl | rfl | rfl <;> rfl
theorem C_at : ∀ (zs : List El) (k : Nat) (z : El), zs[k]? = some z → ∀ q, q < 3 → (C zs)[k * 3 + q]? = (enc z)[q]?
  | [], _, _, h, _, _ => by simp at h
  | y :: r, 0, z, h, q, hq => by
    simp at h
    subst h
    show (enc y ++ C r)[0 * 3 + q]? = _
    rw [List.getElem?_append_left (by rw [enc_len]; omega)]
    congr 1
    omega
  | y :: r, k + 1, z, h, q, hq => by
    have ih := C_at r k z (by simpa using h) q hq
    show (enc y ++ C r)[(k + 1) * 3 + q]? = _
    rw [List.getElem?_append_right (by rw [enc_len]; omega), enc_len, ← ih]
    congr 1
    omega
theorem C_set (zs : List El) {k : Nat} (hk : k < zs.length) (x : El) : C (zs.set k x) = ((((C zs).set (k * 3) (.int .i64 x.1)).set (k * 3 + 1) (.int .i64 x.2.1)).set (k * 3 + 2) (.int .i64 x.2.2)) := by
  apply List.ext_getElem?
  intro j
  by_cases hj : j / 3 = k
  · obtain ⟨q, hq, rfl⟩ : ∃ q, q < 3 ∧ j = k * 3 + q := ⟨j % 3, Nat.mod_lt _ (by decide), by omega⟩
    rw [C_at (zs.set k x) k x (List.getElem?_set_self hk) q hq]
    have hl : (C zs).length = zs.length * 3 := C_len zs
    have hq' : q = 0 ∨ q = 1 ∨ q = 2 := by omega
    rcases hq' with rfl | rfl | rfl <;> simp [List.getElem?_set, hl, enc] <;> omega
  · have e : (C (zs.set k x))[j]? = (C zs)[j]? := by
      rcases Nat.lt_or_ge (j / 3) zs.length with h | h
      · obtain ⟨z, hz⟩ : ∃ z, zs[j / 3]? = some z := ⟨_, List.getElem?_eq_getElem h⟩
        have hz' : (zs.set k x)[j / 3]? = some z := by rw [List.getElem?_set_ne (fun e => hj e.symm)]; exact hz
        have e0 : j = j / 3 * 3 + j % 3 := by omega
        rw [e0, C_at _ _ z hz' _ (Nat.mod_lt _ (by decide)), C_at _ _ z hz _ (Nat.mod_lt _ (by decide))]
      · rw [List.getElem?_eq_none (by rw [C_len, List.length_set]; omega), List.getElem?_eq_none (by rw [C_len]; omega)]
    rw [e]
    rw [List.getElem?_set_ne (by omega), List.getElem?_set_ne (by omega), List.getElem?_set_ne (by omega)]
/-- Lists of one's own; lists that are read. -/
def Own (w : World) (B : Nat) (v : Value) (zs : List El) : Prop := w.ownsRow B 46 3 v zs.length (C zs)
def Has (w : World) (v : Value) (zs : List El) : Prop := ∃ ao cap, v = .slice ao zs.length cap ∧ ∀ (j : Nat) (u : Value), (C zs)[j]? = some u → ∃ a, ao = some a ∧ w.cell? (a.add j) = some u
theorem Has.below {w w' : World} {v : Value} {zs : List El} (h : Has w v zs) (hb : Below w.heap.size w w') : Has w' v zs := by
  obtain ⟨ao, cap, h1, h2⟩ := h
  refine ⟨ao, cap, h1, fun i p hi => ?_⟩
  obtain ⟨a, ha, c0⟩ := h2 i p hi
  exact ⟨a, ha, (hb.cell (World.block_lt_of_cell? w _ c0)).trans c0⟩
theorem C_nil {zs : List El} (h : zs ≠ []) : ∃ u, (C zs)[0]? = some u := by
  cases zs with
  | nil => exact absurd rfl h
  | cons z r =>
    have h1 := C_at (z :: r) 0 z rfl 0 (by decide)
    have h2 : (enc z)[0]? = some ((enc z)[0]'(by rw [enc_len]; decide)) := List.getElem?_eq_getElem _
    exact ⟨_, h1.trans h2⟩
theorem Has.kept {w w' : World} {F : Nat → Prop} {v : Value} {zs : List El} (h : Has w v zs) (hk : Kept F w w') (hf : zs ≠ [] → ∀ i, v.ownBlock = some i → ¬ F i) : Has w' v zs := by
  obtain ⟨ao, cap, rfl, h2⟩ := h
  refine ⟨ao, cap, rfl, fun i z hi => ?_⟩
  obtain ⟨a, rfl, c⟩ := h2 i z hi
  exact ⟨a, rfl, cell_same (hk.block _ (block_lt3 c) (hf (by rintro rfl; simp [C] at hi) a.block rfl)) c⟩
theorem far {w : World} {v : Value} {zs : List El} (h : Has w v zs) (hz : zs ≠ []) {i : Nat} (hi : v.ownBlock = some i) : i < w.heap.size := by
  obtain ⟨ao, cap, rfl, h2⟩ := h
  obtain ⟨u, hu⟩ := C_nil hz
  obtain ⟨a, rfl, c⟩ := h2 0 u hu
  have := block_lt3 c
  simp only [Value.ownBlock, Option.some.injEq] at hi
  omega
theorem Own.at {w : World} {B g cap n : Nat} {zs : List El} (h : Own w B (.slice (some ⟨g, 0, none⟩) n cap) zs) {j : Nat} {u : Value} (hj : (C zs)[j]? = some u) : w.cell? ⟨g, j, none⟩ = some u := by
  obtain ⟨ao', cap', hv⟩ := row_shape h
  injection hv with _ e _
  subst e
  have h' : w.ownsRow B 46 3 (.slice (some ⟨g, 0, none⟩) zs.length cap) zs.length (C zs) := h
  rw [h'.cellAt j (by rw [← h'.1]; exact (List.getElem?_eq_some_iff.1 hj).1), hj]
theorem Own.has {w : World} {B : Nat} {v : Value} {zs : List El} (h : Own w B v zs) : Has w v zs := by
  obtain ⟨ao, cap, hv⟩ := row_shape h
  refine ⟨ao, cap, hv, fun j u hj => ?_⟩
  have hlt := (List.getElem?_eq_some_iff.1 hj).1
  rw [C_len] at hlt
  obtain ⟨g, c, hf, _, _⟩ := World.ownsRow.form h (by omega)
  rw [hv] at hf
  injection hf with e1 e2 e3
  subst e1; subst e3
  refine ⟨_, rfl, ?_⟩
  rw [addz]
  rw [hv] at h
  exact Own.at h hj
theorem add_q (a : Addr) (m q : Nat) : (a.add m).add q = a.add (m + q) := by
  unfold Addr.add
  by_cases h1 : m = 0 <;> by_cases h2 : q = 0 <;> simp [h1, h2] <;> omega
theorem copy_of {w : World} {ao : Option Addr} {n cap : Nat} {zs : List El} (h : Has w (.slice ao n cap) zs) : (ao = none → n = 0) ∧ ∀ ad, ao = some ad → ∀ j u, (C zs)[j]? = some u → w.cell? (ad.add j) = some u := by
  obtain ⟨ao', cap', hv, h2⟩ := h
  injection hv with e1 e2 e3
  subst e1
  refine ⟨fun e => ?_, fun ad e j u hj => ?_⟩
  · rw [e2]
    by_cases hz : zs = []
    · rw [hz]; rfl
    · obtain ⟨u, hu⟩ := C_nil hz
      obtain ⟨a, ha, _⟩ := h2 0 u hu
      rw [e] at ha; cases ha
  · obtain ⟨a, ha, hc⟩ := h2 j u hj
    rw [e] at ha
    cases ha
    exact hc
/-- The mark of the list i at the place k. -/
def mk1 (i k : Nat) : El := (-1 - (i : Int), (k : Int), 7)
def marks (i f n : Nat) : List El := (List.range n).map fun k => mk1 i (f + k)
theorem marks_len (i f n : Nat) : (marks i f n).length = n := by simp [marks]
theorem marks_succ (i f n : Nat) : marks i f (n + 1) = marks i f n ++ [mk1 i (f + n)] := by
  unfold marks
  rw [List.range_succ, List.map_append]
  rfl
theorem marks_add (i f n m : Nat) : marks i f n ++ marks i (f + n) m = marks i f (n + m) := by
  induction m with
  | zero => simp [marks]
  | succ m ih => rw [marks_succ, ← List.append_assoc, ih, Nat.add_assoc, ← marks_succ]; rfl
theorem marks_at {i f n j : Nat} (h : j < n) : (marks i f n)[j]? = some (mk1 i (f + j)) := by
  unfold marks
  rw [List.getElem?_map, List.getElem?_range h]
  rfl
theorem Tryd.infoE : (Tryd.prog.info? 46).map (fun i => (i.zero, i.size, i.bytes)) = some (some (.agg #[.int .i64 0, .int .i64 0, .int .i64 0]), 3, 24) := by kernel_rfl
theorem Tryd.infoR : (Tryd.prog.info? 22).map (fun i => (i.zero, i.size, i.bytes)) = some (some (.slice none 0 0), 1, 24) := by kernel_rfl
theorem C_snoc (zs : List El) (z : El) : C (zs ++ [z]) = C zs ++ enc z := by
  rw [C_app]
  show _ ++ (enc z ++ []) = _
  rw [List.append_nil]
theorem below_row {w w2 w4 : World} {x : Obj} {v : Value} {n : Nat} {us : List Value} (h1 : w2.ownsRow w.heap.size 46 3 v n us) (hb : Below w.heap.size w w2) (hg : (w2.alloc x).grownBy w4 v.ownBlock) : Below w.heap.size w w4 :=
  (hb.alloc hb.size x).grown hg (by have := hb.size; simp; omega) (fun k hk => (h1.lt k hk).1)
theorem enc_one (z : El) : ∀ u ∈ enc z, u.oneCell' = true := fun u hu => C_one [z] u (by simpa [C] using hu)
end BEdges
section
open Go.RowKit Go.Maps
attribute [local go_sem ↓] Go.wp_at_zero Go.wp_at_succ
/-- A system as a value. -/
def sysV (n k s : Int) (v : Value) : Value := .agg #[.int .i64 n, .int .i64 k, .int .i64 s, v]
theorem four_cells {w : World} {b : Nat} {x0 x1 x2 x3 : Value} {t : TypeId} (h : w.heap[b]? = some (.cells #[x0, x1, x2, x3] t (0, 0))) : w.cell? ⟨b, 0, none⟩ = some x0 ∧ w.cell? ⟨b, 1, none⟩ = some x1 ∧ w.cell? ⟨b, 2, none⟩ = some x2 ∧ w.cell? ⟨b, 3, none⟩ = some x3 := by
  simp [World.cell?, h]
theorem edge_at {w : World} {ao : Option Addr} {n cap : Nat} {es : List BEdges.El} (h : BEdges.Has w (.slice ao n cap) es) {j : Nat} {z : BEdges.El} (hz : es[j]? = some z) :
    ∃ a, ao = some a ∧ w.cell? (a.add (j * 3)) = some (.int .i64 z.1) ∧ w.cell? ⟨(a.add (j * 3)).block, (a.add (j * 3)).off + 1, none⟩ = some (.int .i64 z.2.1) ∧ w.cell? ⟨(a.add (j * 3)).block, (a.add (j * 3)).off + 2, none⟩ = some (.int .i64 z.2.2) := by
  obtain ⟨ao', cap', hv, hc⟩ := h
  injection hv with e1 e2 e3
  subst e1
  obtain ⟨a, rfl, c0⟩ := hc (j * 3 + 0) _ ((BEdges.C_at es j z hz 0 (by decide)).trans rfl)
  obtain ⟨a1, e1, c1⟩ := hc (j * 3 + 1) _ ((BEdges.C_at es j z hz 1 (by decide)).trans rfl)
  cases e1
  obtain ⟨a2, e2, c2⟩ := hc (j * 3 + 2) _ ((BEdges.C_at es j z hz 2 (by decide)).trans rfl)
  cases e2
  refine ⟨a, rfl, by simpa using c0, ?_, ?_⟩
  · rw [← BEdges.add_q] at c1; exact c1
  · rw [← BEdges.add_q] at c2; exact c2
def edgeOk (n k : Int) (e : Sy.Ed) : Bool := decide (0 ≤ e.1 ∧ e.1 < n ∧ 0 ≤ e.2.2 ∧ e.2.2 < n ∧ 0 ≤ e.2.1 ∧ e.2.1 < k)
end
section
open Go.RowKit Go.Maps
attribute [local go_sem ↓] Go.wp_at_zero Go.wp_at_succ
def edV (a : Sy.Ed) : Value := .agg #[.int .i64 a.1, .int .i64 a.2.1, .int .i64 a.2.2]
/-- A list of edges that is read, with room for all of them. -/
def HasE (w : World) (v : Value) (es : List Sy.Ed) : Prop := ∃ ao cap, v = .slice ao es.length cap ∧ es.length ≤ cap ∧ BEdges.Has w v es
theorem HasE.below {w w' : World} {v : Value} {es : List Sy.Ed} (h : HasE w v es) (hb : Below w.heap.size w w') : HasE w' v es := by
  obtain ⟨ao, cap, h1, h2, h3⟩ := h
  exact ⟨ao, cap, h1, h2, h3.below hb⟩
theorem HasE.of_own {w : World} {B : Nat} {v : Value} {es : List Sy.Ed} (h : BEdges.Own w B v es) : HasE w v es := by
  have h3 := BEdges.Own.has h
  rcases h.2 with ⟨rfl, h0⟩ | ⟨g, cap, cur, rfl, _, _, hc, _⟩
  · exact ⟨none, 0, by rw [h0], by omega, h3⟩
  · exact ⟨_, cap, rfl, hc, h3⟩
theorem hasE_take {w : World} {ao : Option Addr} {n cap : Nat} {es : List Sy.Ed} (h : HasE w (.slice ao n cap) es) (k : Nat) (hk : k ≤ es.length) : HasE w (.slice ao k cap) (es.take k) := by
  obtain ⟨ao', cap', hv, hc, h3⟩ := h
  injection hv with e1 e2 e3
  subst e1; subst e2; subst e3
  have hl : (es.take k).length = k := by rw [List.length_take]; omega
  obtain ⟨ao2, cap2, hv2, h4⟩ := h3
  injection hv2 with f1 f2 f3
  subst f1; subst f3
  refine ⟨ao, cap, by rw [hl], by omega, ao, cap, by rw [hl], fun j u hj => ?_⟩
  refine h4 j u ?_
  have e : BEdges.C es = BEdges.C (es.take k) ++ BEdges.C (es.drop k) := by rw [← BEdges.C_app, List.take_append_drop]
  rw [e, List.getElem?_append_left (List.getElem?_eq_some_iff.1 hj).1]
  exact hj
theorem hasE_drop {w : World} {a : Addr} {n cap : Nat} {es : List Sy.Ed} (h : HasE w (.slice (some a) n cap) es) (k : Nat) (hk : k ≤ es.length) : HasE w (.slice (some (a.add (k * 3))) (n - k) (cap - k)) (es.drop k) := by
  obtain ⟨ao', cap', hv, hc, h3⟩ := h
  injection hv with e1 e2 e3
  subst e1; subst e2; subst e3
  have hl : (es.drop k).length = es.length - k := List.length_drop
  obtain ⟨ao2, cap2, hv2, h4⟩ := h3
  injection hv2 with f1 f2 f3
  subst f1; subst f3
  refine ⟨_, _, by rw [hl], by omega, _, _, by rw [hl], fun j u hj => ⟨_, rfl, ?_⟩⟩
  have e : BEdges.C es = BEdges.C (es.take k) ++ BEdges.C (es.drop k) := by rw [← BEdges.C_app, List.take_append_drop]
  have hcl : (BEdges.C (es.take k)).length = k * 3 := by rw [BEdges.C_len, List.length_take, Nat.min_eq_left hk]
  obtain ⟨a2, ha2, hc2⟩ := h4 (k * 3 + j) u (by rw [e, List.getElem?_append_right (by omega), hcl, Nat.add_sub_cancel_left]; exact hj)
  cases ha2
  rw [BEdges.add_q]
  exact hc2
end
section
open Go.RowKit Go.Maps
attribute [local go_sem ↓] Go.wp_at_zero Go.wp_at_succ
/-- A list's elements where a row of one's own holds them. -/
theorem own_edge {w : World} {B : Nat} {ao : Option Addr} {n cap : Nat} {es : List Sy.Ed} (h : BEdges.Own w B (.slice ao n cap) es) {j : Nat} {z : Sy.Ed} (hz : es[j]? = some z) :
    ∃ g, ao = some ⟨g, 0, none⟩ ∧ w.cell? ⟨g, j * 3, none⟩ = some (.int .i64 z.1) ∧ w.cell? ⟨g, j * 3 + 1, none⟩ = some (.int .i64 z.2.1) ∧ w.cell? ⟨g, j * 3 + 2, none⟩ = some (.int .i64 z.2.2) := by
  have hlt := (List.getElem?_eq_some_iff.1 hz).1
  obtain ⟨g, c, hf, _, _⟩ := World.ownsRow.form h (by omega)
  injection hf with e1 e2 e3
  subst e1
  refine ⟨g, rfl, ?_, ?_, ?_⟩
  · have := BEdges.Own.at h ((BEdges.C_at es j z hz 0 (by decide)).trans rfl); simpa using this
  · exact BEdges.Own.at h ((BEdges.C_at es j z hz 1 (by decide)).trans rfl)
  · exact BEdges.Own.at h ((BEdges.C_at es j z hz 2 (by decide)).trans rfl)
end
section
open Go.RowKit Go.Extern.Stop Go.Stop Go.Extern
end
section
open Go.RowKit
/-- The package variable number g holds the error at a, which lies in memory. -/
def Sent (w : World) (g : Nat) (a : Addr) : Prop := w.cell? ⟨g, 0, none⟩ = some (.iface 139 (.pointer (some a))) ∧ ∃ c t, w.heap[a.block]? = some (.cells c t (0, 0))
theorem Sent.below {w w1 : World} {g : Nat} {a : Addr} (h : Sent w g a) (hb : Below w.heap.size w w1) : Sent w1 g a := by
  obtain ⟨h1, c, t, h2⟩ := h
  exact ⟨(hb.cell (World.block_lt_of_cell? w _ h1)).trans h1, c, t, by rw [hb.block _ (lt_of_block h2)]; exact h2⟩
end
section
open Go.RowKit Go.Extern.Stop Go.Stop Go.Extern
/-- A chain of faults of these layers, all at one place, that ends in the error at a. -/
def Chain (w : World) (l c : Int) (a : Addr) : List ByteArray → Value → Prop
  | [], v => v = .iface 139 (.pointer (some a))
  | s :: r, v => ∃ b u, v = .iface 83 (.pointer (some ⟨b, 0, none⟩)) ∧ w.heap[b]? = some (.cells #[.string s, .int .i64 l, .int .i64 c, u] 85 (0, 0)) ∧ Chain w l c a r u
theorem Chain.below {w w' : World} {l c : Int} {a : Addr} : ∀ {ls : List ByteArray} {v : Value}, Chain w l c a ls v → Below w.heap.size w w' → Chain w' l c a ls v
  | [], _, h, _ => h
  | s :: r, v, h, hb => by
    obtain ⟨b, u, h1, h2, h3⟩ := h
    exact ⟨b, u, h1, (hb.block b (Array.getElem?_eq_some_iff.1 h2).1).trans h2, Chain.below h3 hb⟩
theorem Chain.iface {w : World} {l c : Int} {a : Addr} {ls : List ByteArray} {v : Value} (h : Chain w l c a ls v) : ∃ T u, v = .iface T u := by
  cases ls with
  | nil => exact ⟨_, _, h⟩
  | cons s r => obtain ⟨b, u, h1, _⟩ := h; exact ⟨_, _, h1⟩
theorem fault_cells {w : World} {b : Nat} {x0 x1 x2 x3 : Value} {t : TypeId} (h : w.heap[b]? = some (.cells #[x0, x1, x2, x3] t (0, 0))) : w.cell? ⟨b, 0, none⟩ = some x0 ∧ w.cell? ⟨b, 1, none⟩ = some x1 ∧ w.cell? ⟨b, 2, none⟩ = some x2 ∧ w.cell? ⟨b, 3, none⟩ = some x3 := by
  simp [World.cell?, h]
end
section
open Go.RowKit
end
section
open Go.RowKit
theorem castY (v : Value) (w : World) : (Instr.typeAssert (.iface 83 v) 32 83 true).run Tryd.prog w = .ok (.tuple #[v, .bool true]) w := by kernel_rfl
theorem castN (v : Value) (w : World) : (Instr.typeAssert (.iface 139 v) 32 83 true).run Tryd.prog w = .ok (.tuple #[.pointer none, .bool false]) w := by kernel_rfl
/-- The layers' names, a blank behind each. -/
def joinS (x : ByteArray) : List ByteArray → ByteArray
  | [] => x
  | s :: r => joinS (x ++ s ++ ⟨#[32]⟩) r
theorem joinS_size (ls : List ByteArray) (h : ∀ s ∈ ls, s.size ≤ 100) : ∀ x, (joinS x ls).size ≤ x.size + 101 * ls.length ∧ x.size ≤ (joinS x ls).size := by
  induction ls with
  | nil => intro x; simp [joinS]
  | cons s r ih =>
    intro x
    have h1 := h s List.mem_cons_self
    have h2 := ih (fun y hy => h y (List.mem_cons_of_mem _ hy)) (x ++ s ++ ⟨#[32]⟩)
    have h3 : (x ++ s ++ ⟨#[32]⟩).size = x.size + s.size + 1 := by rw [ByteArray.size_append, ByteArray.size_append]; rfl
    simp only [joinS, List.length_cons]
    omega
theorem Chain.drew {w : World} {l c : Int} {a : Addr} {ls : List ByteArray} {v : Value} (h : Chain w l c a ls v) (n : Nat) : Chain (w.drewN n) l c a ls v := h.below (below_drewN (Below.refl _ _) n)
end
section
open Go.RowKit Go.Maps
attribute [local go_sem ↓] Go.wp_at_zero Go.wp_at_succ
def sysB : ByteArray := ⟨#[115, 121, 115, 116, 101, 109]⟩
def sysB1 : ByteArray := ⟨#[115, 121, 115, 116, 101, 109, 32]⟩
theorem sys_join : joinS ⟨#[]⟩ [sysB] = sysB1 := by decide
theorem four_set {w : World} {b : Nat} {x0 x1 x2 x3 a0 a1 a2 a3 : Value} {t : TypeId} (h : w.heap[b]? = some (.cells #[x0, x1, x2, x3] t (0, 0))) : ((((w.setCell ⟨b, 0, none⟩ a0).setCell ⟨b, 1, none⟩ a1).setCell ⟨b, 2, none⟩ a2).setCell ⟨b, 3, none⟩ a3).heap[b]? = some (.cells #[a0, a1, a2, a3] t (0, 0)) :=
  heap_setCell_same _ b 3 _ _ _ (heap_setCell_same _ b 2 _ _ _ (heap_setCell_same _ b 1 _ _ _ (heap_setCell_same w b 0 _ _ _ h)))
theorem four_below {B : Nat} {w w2 : World} {b : Nat} (h : Below B w w2) (hb : B ≤ b) (a0 a1 a2 a3 : Value) : Below B w ((((w2.setCell ⟨b, 0, none⟩ a0).setCell ⟨b, 1, none⟩ a1).setCell ⟨b, 2, none⟩ a2).setCell ⟨b, 3, none⟩ a3) := (((h.setCell hb _).setCell hb _).setCell hb _).setCell hb _
/-- The document's answer to Check. -/
def chkV (ok : Bool) : Value := if ok then .agg #[.int .i64 0, .int .i64 0, .int .i64 0, .string ⟨#[]⟩] else .agg #[.int .i64 14, .int .i64 0, .int .i64 0, .string sysB1]
end
section
open Go.RowKit Go.Maps
attribute [local go_sem ↓] Go.wp_at_zero Go.wp_at_succ
namespace Sy
theorem canonG_bound (l : List Int) : ∀ seen k, k ∈ canonG seen l → k < (seenG seen l).length := by
  induction l with
  | nil => intro seen k h; simp [canonG] at h
  | cons c r ih =>
    intro seen k h
    simp only [canonG, List.mem_cons] at h
    simp only [seenG]
    have hmono : ∀ (m : List Int) (s : List Int), s.length ≤ (seenG s m).length := fun m => by
      induction m with
      | nil => intro s; simp [seenG]
      | cons d q ih2 =>
        intro s
        simp only [seenG]
        have := ih2 (if place d s < s.length then s else s ++ [d])
        have h2 : s.length ≤ (if place d s < s.length then s else s ++ [d]).length := by split <;> simp
        omega
    rcases h with rfl | h
    · have h1 := hmono r (if place c seen < seen.length then seen else seen ++ [c])
      have h2 : place c seen < (if place c seen < seen.length then seen else seen ++ [c]).length := by
        have h3 := place_le c seen
        split
        · assumption
        · simp; omega
      omega
    · exact ih _ k h
theorem place_app (c : Int) (a b : List Int) (h : ∀ x ∈ a, x ≠ c) : place c (a ++ b) = a.length + place c b := by
  induction a with
  | nil => simp
  | cons x r ih =>
    have hx := h x List.mem_cons_self
    simp only [List.cons_append, place, if_neg hx, List.length_cons]
    rw [ih fun y hy => h y (List.mem_cons_of_mem _ hy)]
    omega
theorem canon_step {zs : List Int} {i : Nat} {z : Int} (h : zs[i]? = some z) : canonG [] (zs.take (i + 1)) = canonG [] (zs.take i) ++ [place z (seenG [] (zs.take i))] := by
  obtain ⟨hl, rfl⟩ := List.getElem?_eq_some_iff.1 h
  rw [List.take_succ_eq_append_getElem hl, canonG_app]
  rfl
theorem seen_step {zs : List Int} {i : Nat} {z : Int} (h : zs[i]? = some z) : seenG [] (zs.take (i + 1)) = if place z (seenG [] (zs.take i)) < (seenG [] (zs.take i)).length then seenG [] (zs.take i) else seenG [] (zs.take i) ++ [z] := by
  obtain ⟨hl, rfl⟩ := List.getElem?_eq_some_iff.1 h
  rw [List.take_succ_eq_append_getElem hl, seenG_app]
  rfl
end Sy
/-- Numbers as cells. -/
def natC (l : List Nat) : List Value := l.map fun (k : Nat) => Value.int .i64 (k : Int)
theorem natC_len (l : List Nat) : (natC l).length = l.length := by simp [natC]
def natI (l : List Nat) : List Int := l.map fun (k : Nat) => (k : Int)
theorem iC_nat (l : List Nat) : iC (natI l) = natC l := by simp [iC, natI, natC]
theorem natC_step (C : List Nat) (n i k : Nat) (hC : C.length = i) (hi : i < n) : (natC C ++ List.replicate (n - i) (Value.int .i64 0)).set i (.int .i64 (k : Int)) = natC (C ++ [k]) ++ List.replicate (n - (i + 1)) (Value.int .i64 0) := by
  have e : n - i = (n - (i + 1)) + 1 := by omega
  rw [List.set_append_right _ _ (by rw [natC_len]; omega), natC_len, hC, Nat.sub_self, e, List.replicate_succ, List.set_cons_zero]
  simp [natC]
end
section
open Go.RowKit Go.Maps
attribute [local go_sem ↓] Go.wp_at_zero Go.wp_at_succ
theorem Sy.top_snoc (l : List Nat) (k : Nat) : Sy.top (l ++ [k]) = max (Sy.top l) (k + 1) := by
  induction l with
  | nil => simp [Sy.top]
  | cons a r ih => simp only [List.cons_append, Sy.top, ih]; omega
theorem Sy.top_le (l : List Nat) (m : Nat) (h : ∀ k ∈ l, k < m) : Sy.top l ≤ m := by
  induction l with
  | nil => simp [Sy.top]
  | cons a r ih =>
    have h1 := h a List.mem_cons_self
    have h2 := ih fun k hk => h k (List.mem_cons_of_mem _ hk)
    simp only [Sy.top]; omega
theorem Sy.canon_lt (zs : List Int) : ∀ k ∈ Sy.canon zs, k < zs.length := fun k hk => by
  have h1 := Sy.canonG_bound zs [] k hk
  have h2 := Sy.seenG_len zs []
  simp at h2; omega
/-- Are there as many as states, in their one form? -/
def Sy.classes (n : Int) (zs : List Int) : Bool := decide ((zs.length : Int) = n) && Sy.formG 0 zs
end
section
open Go.RowKit Go.Maps
/-- Numbers that are ints. -/
def I64s (zs : List Int) : Prop := ∀ z ∈ zs, (Lit.int .i64 z).wf = true
def PCanon : Prop := ∀ (v : Value) (zs : List Int) (W : World), HasI W v zs → zs.length ≤ 100000 → I64s zs → Calls Tryd.prog 18 #[v] W fun r w' => ∃ u, r = .returned u ∧ OwnI w' W.heap.size u (natI (Sy.canon zs)) ∧ Below W.heap.size W w'
theorem rg_b {w2 W : World} {P : Prop} (h : P ∧ Hid (Below w2.heap.size w2 W)) : Below w2.heap.size w2 W := h.2.out
theorem rg_up4 {w2 wa wb : World} {a0 a1 a2 a3 : Addr} {x0 x1 x2 x3 : Value} (hb : Below wa.heap.size wa wb) (h : (wa.cell? a0 = some x0 ∧ wa.cell? a1 = some x1 ∧ wa.cell? a2 = some x2 ∧ wa.cell? a3 = some x3) ∧ Hid (Below w2.heap.size w2 wa)) : (wb.cell? a0 = some x0 ∧ wb.cell? a1 = some x1 ∧ wb.cell? a2 = some x2 ∧ wb.cell? a3 = some x3) ∧ Hid (Below w2.heap.size w2 wb) :=
  have up : ∀ {a : Addr} {x : Value}, wa.cell? a = some x → wb.cell? a = some x := fun c => (hb.cell (World.block_lt_of_cell? wa _ c)).trans c
  ⟨⟨up h.1.1, up h.1.2.1, up h.1.2.2.1, up h.1.2.2.2⟩, (h.2.out.trans (hb.mono h.2.out.size) : Below w2.heap.size w2 wb)⟩
end
section
open Go.RowKit Go.Maps
attribute [local go_sem ↓] Go.wp_at_zero Go.wp_at_succ
theorem sysFault_any (a : Addr) (w : World) : Calls Tryd.prog 29 #[.iface 139 (.pointer (some a))] w fun r w' => ∃ x, r = .returned x ∧ Chain w' 0 0 a [sysB] x ∧ Below w.heap.size w w' := by
  go_enter Tryd.func29, Tryd.ntmps29
  go_wp2
  go_ret
  exact ⟨_, rfl, ⟨_, _, rfl, (MapKept.heap_alloc w _).1, rfl⟩, (Below.refl _ _).alloc (Nat.le_refl _) _⟩
theorem below_any (a b : Int) (w : World) : Calls Tryd.prog 40 #[.int .i64 a, .int .i64 b] w fun r w' => r = .returned (.bool (decide (0 ≤ a ∧ a < b))) ∧ w' = w := by
  by_cases h0 : 0 ≤ a
  · by_cases h1 : a < b
    · go_enter Tryd.func40, Tryd.ntmps40
      go_wp2
      go_ret
      exact ⟨by simp [h0, h1], rfl⟩
    · go_enter Tryd.func40, Tryd.ntmps40
      go_wp2
      go_ret
      exact ⟨by simp [h1], rfl⟩
  · go_enter Tryd.func40, Tryd.ntmps40
    go_wp2
    go_ret
    exact ⟨by simp; omega, rfl⟩
set_option maxRecDepth 100000 in
set_option maxHeartbeats 4000000 in
theorem stranger_any (n k s : Int) (v : Value) (b : Nat) (x : Sy.Ed) (w : World) (hB : w.heap[b]? = some (.cells #[.int .i64 n, .int .i64 k, .int .i64 s, v] 24 (0, 0))) :
    Calls Tryd.prog 45 #[edV x, .pointer (some ⟨b, 0, none⟩)] w fun r w' => r = .returned (.bool (!edgeOk n k x)) ∧ Below w.heap.size w w' := by
  obtain ⟨b0, b1, b2, b3⟩ := four_cells hB
  have hlt := t_lt hB
  have hne : ¬ b = w.heap.size := by omega
  have hA := fun W => below_any x.1 n W
  have hT := fun W => below_any x.2.2 n W
  have hL := fun W => below_any x.2.1 k W
  have hok : edgeOk n k x = (decide (0 ≤ x.1 ∧ x.1 < n) && decide (0 ≤ x.2.2 ∧ x.2.2 < n) && decide (0 ≤ x.2.1 ∧ x.2.1 < k)) := by
    unfold edgeOk
    rw [Bool.eq_iff_iff]
    simp only [Bool.and_eq_true, decide_eq_true_eq]
    omega
  unfold edV
  rw [hok]
  generalize decide (0 ≤ x.1 ∧ x.1 < n) = pa at hA ⊢
  generalize decide (0 ≤ x.2.2 ∧ x.2.2 < n) = pt at hT ⊢
  generalize decide (0 ≤ x.2.1 ∧ x.2.1 < k) = pl at hL ⊢
  clear hok hB b2 b3
  obtain ⟨x0, x1, x2⟩ := x
  cases pa with
  | false =>
    go_enter Tryd.func45, Tryd.ntmps45
    go_wp2_with (go_at_call 40; refine (hA _).mono ?_; rintro r w' ⟨rfl, hw⟩; obtain rfl := hw.symm)
    go_ret
    exact ⟨rfl, (Below.refl _ _).alloc (Nat.le_refl _) _⟩
  | true =>
    cases pt with
    | false =>
      go_enter Tryd.func45, Tryd.ntmps45
      go_wp2_with fail
      refine (hA _).mono ?_
      rintro r w1 ⟨rfl, hw⟩; obtain rfl := hw.symm
      go_wp2_with fail
      refine (hT _).mono ?_
      rintro r w1 ⟨rfl, hw⟩; obtain rfl := hw.symm
      go_wp2
      go_ret
      exact ⟨rfl, (Below.refl _ _).alloc (Nat.le_refl _) _⟩
    | true =>
      go_enter Tryd.func45, Tryd.ntmps45
      go_wp2_with fail
      refine (hA _).mono ?_
      rintro r w1 ⟨rfl, hw⟩; obtain rfl := hw.symm
      go_wp2_with fail
      refine (hT _).mono ?_
      rintro r w1 ⟨rfl, hw⟩; obtain rfl := hw.symm
      go_wp2_with fail
      refine (hL _).mono ?_
      rintro r w1 ⟨rfl, hw⟩; obtain rfl := hw.symm
      go_wp2
      go_ret
      exact ⟨rfl, (Below.refl _ _).alloc (Nat.le_refl _) _⟩
theorem enter_str : ∀ args w, (callFunc 45 args).run Tryd.prog w = .ok (.enter 45 args) w := enters_of Tryd.func45 (by kernel_rfl) rfl
/-- The first edge that is a stranger, or none. -/
def firstBad (n k : Int) (es : List Sy.Ed) : Int := if es.all (edgeOk n k) then -1 else ((es.findIdx fun e => !edgeOk n k e : Nat) : Int)
theorem findIdx_at {es : List Sy.Ed} {p : Sy.Ed → Bool} {i : Nat} {z : Sy.Ed} (hz : es[i]? = some z) (hp : p z = true) (hall : ∀ x ∈ es.take i, p x = false) : es.findIdx p = i := by
  obtain ⟨hl, rfl⟩ := List.getElem?_eq_some_iff.1 hz
  rw [List.findIdx_eq hl]
  refine ⟨hp, fun j hj => hall _ ?_⟩
  exact List.mem_take_iff_getElem.2 ⟨j, by omega, rfl⟩
set_option maxRecDepth 100000 in
set_option maxHeartbeats 4000000 in
theorem idxBad_any (n k s : Int) (ve v : Value) (b : Nat) (es : List Sy.Ed) (w : World) (hn : es.length ≤ 100000) (hv : BEdges.Has w v es) (hB : w.heap[b]? = some (.cells #[.int .i64 n, .int .i64 k, .int .i64 s, ve] 24 (0, 0))) :
    Calls Tryd.prog 44 #[v, .func (.func 45) #[] #[.pointer (some ⟨b, 0, none⟩)]] w fun r w' => r = .returned (.int .i64 (firstBad n k es)) ∧ Below w.heap.size w w' := by
  obtain ⟨ao, cap, rfl, _⟩ := _root_.id hv
  obtain ⟨m, hm⟩ : ∃ m, m = es.length := ⟨_, rfl⟩
  have HV : Hid _ := And.intro hv (And.intro hm hB)
  rw [← hm] at hn ⊢
  clear hv hm hB
  have he := enter_str
  go_enter Tryd.func44, Tryd.ntmps44
  go_wp2_with fail
  go_loopg [8] m (fun q iv wr => ∃ i : Nat, q = m - i ∧ i ≤ m ∧ iv = .int .i64 i ∧ Below w.heap.size w wr ∧ ∀ x ∈ es.take i, (!edgeOk n k x) = false)
  case atStart => exact ⟨0, rfl, Nat.zero_le _, rfl, Below.refl _ _, fun x hx => by simp at hx⟩
  case round =>
    obtain ⟨i, rfl, hi, rfl, hb, hall⟩ := hrel
    by_cases hlt : i < m
    · obtain ⟨z, hz⟩ : ∃ z, es[i]? = some z := ⟨es[i]'(by have := HV.out.2.1; omega), List.getElem?_eq_getElem _⟩
      obtain ⟨a, rfl, z0, z1, z2⟩ := edge_at (HV.out.1.below hb) hz
      have q0 : (0 : Int) ≤ (i : Int) := by omega
      have q1 : (i : Int) < (m : Int) := by omega
      have hC := stranger_any n k s ve b z wr ((hb.block b (t_lt HV.out.2.2)).trans HV.out.2.2)
      unfold edV at hC
      have HB : Hid _ := And.intro hb (And.intro hall hz)
      clear hb hall hz
      cases hq : (!edgeOk n k z) with
      | true =>
        rw [hq] at hC
        have HQ : Hid _ := hq
        clear hq
        go_wp2_with (go_at_fn 45; refine hC.mono ?_; rintro r w1 ⟨rfl, hb1⟩)
        go_ret
        refine ⟨?_, HB.out.1.trans (hb1.mono HB.out.1.size)⟩
        have hf := findIdx_at HB.out.2.2 HQ.out HB.out.2.1
        have hna : es.all (edgeOk n k) = false := by
          rw [List.all_eq_false]
          exact ⟨z, List.mem_of_getElem? HB.out.2.2, by have := HQ.out; simpa using this⟩
        unfold firstBad
        rw [hna, hf]
        rfl
      | false =>
        rw [hq] at hC
        have HQ : Hid _ := hq
        clear hq
        go_wp2_with (go_at_fn 45; refine hC.mono ?_; rintro r w1 ⟨rfl, hb1⟩)
        go_roundg (m - (i + 1))
        case measure => omega
        case rel =>
          refine ⟨i + 1, rfl, by omega, by go_num, HB.out.1.trans (hb1.mono HB.out.1.size), fun x hx => ?_⟩
          rw [take_succ_of HB.out.2.2] at hx
          rcases List.mem_append.1 hx with hx | hx
          · exact HB.out.2.1 x hx
          · rw [List.mem_singleton.1 hx]; exact HQ.out
    · have HB : Hid _ := And.intro hb hall
      clear hb hall
      have q1 : ¬ (i : Int) < (m : Int) := by omega
      go_wp2
      go_ret
      refine ⟨?_, HB.out.1⟩
      have hal : es.all (edgeOk n k) = true := by
        rw [List.all_eq_true]
        intro x hx
        have h1 := HB.out.2 x (by rw [List.take_of_length_le (by have := HV.out.2.1; omega)]; exact hx)
        simpa using h1
      unfold firstBad
      rw [hal]
      rfl
set_option maxRecDepth 100000 in
set_option maxHeartbeats 1000000 in
theorem hasBad_any (n k s : Int) (ve v : Value) (b : Nat) (es : List Sy.Ed) (w : World) (hn : es.length ≤ 100000) (hv : BEdges.Has w v es) (hB : w.heap[b]? = some (.cells #[.int .i64 n, .int .i64 k, .int .i64 s, ve] 24 (0, 0))) :
    Calls Tryd.prog 27 #[v, .func (.func 45) #[] #[.pointer (some ⟨b, 0, none⟩)]] w fun r w' => r = .returned (.bool (!es.all (edgeOk n k))) ∧ Below w.heap.size w w' := by
  have hC := idxBad_any n k s ve v b es w hn hv hB
  have hd : (!es.all (edgeOk n k)) = decide (0 ≤ firstBad n k es) := by
    unfold firstBad
    cases es.all (edgeOk n k) <;> simp
  rw [hd]
  generalize firstBad n k es = c at hC ⊢
  clear hd hB hv
  by_cases h : 0 ≤ c
  all_goals
    go_enter Tryd.func27, Tryd.ntmps27
    go_wp2_with (go_at_call 44; refine hC.mono ?_; rintro r w1 ⟨rfl, hb1⟩)
    go_ret
    exact ⟨by simp [h], hb1⟩
theorem mkStr_any (n k s : Int) (v : Value) (w : World) : Calls Tryd.prog 28 #[sysV n k s v] w fun r w' => r = .returned (.func (.func 45) #[] #[.pointer (some ⟨w.heap.size, 0, none⟩)]) ∧ w' = w.alloc (.cells #[.int .i64 n, .int .i64 k, .int .i64 s, v] 24) := by
  unfold sysV
  go_enter Tryd.func28, Tryd.ntmps28
  go_wp2
  go_ret
  exact ⟨rfl, rfl⟩
/-- The program's error of a system: nil, or a fault of system that wraps ErrSystem. -/
def SErr (a : Addr) (w : World) (ok : Bool) (x : Value) : Prop := if ok = true then x = .nilIface else Chain w 0 0 a [sysB] x
theorem SErr.below {a : Addr} {w w' : World} {ok : Bool} {x : Value} (h : SErr a w ok x) (hb : Below w.heap.size w w') : SErr a w' ok x := by
  unfold SErr at h ⊢
  split
  · next h1 => rw [if_pos h1] at h; exact h
  · next h1 => rw [if_neg h1] at h; exact h.below hb
/-- What Check looks at ahead of the edges. -/
def chkA (n k s : Int) (m : Nat) : Bool := decide (0 ≤ n ∧ n ≤ 1000) && decide (1 ≤ k ∧ k ≤ 201) && decide (0 ≤ s ∧ s < max n 1) && decide (m ≤ 10000)
theorem right_eq (n k s : Int) (es : List Sy.Ed) : Sy.right n k s es = (chkA n k s es.length && es.all (edgeOk n k)) := by
  unfold Sy.right chkA edgeOk
  rw [Bool.eq_iff_iff]
  simp only [Bool.and_eq_true, decide_eq_true_eq]
  constructor
  · rintro ⟨⟨h1, h2⟩, h3⟩
    refine ⟨⟨⟨⟨⟨h1.1, h1.2.1⟩, h1.2.2.1, h1.2.2.2.1⟩, ?_⟩, h1.2.2.2.2⟩, h3⟩
    rcases Int.lt_or_eq_of_le h1.1 with h | h
    · have := h2.2 h; omega
    · have := h2.1 h.symm; omega
  · rintro ⟨⟨⟨⟨h1, h2⟩, h3⟩, h4⟩, h5⟩
    exact ⟨⟨⟨h1.1, h1.2, h2.1, h2.2, h4⟩, ⟨fun e => by omega, fun e => by omega⟩⟩, h5⟩
set_option maxRecDepth 100000 in
set_option maxHeartbeats 4000000 in
theorem check_early (n k s : Int) (ao : Option Addr) (m cap : Nat) (a : Addr) (w : World) (hS : Sent w 0 a) (h : chkA n k s m = false) :
    Calls Tryd.prog 12 #[sysV n k s (.slice ao m cap)] w fun r w' => ∃ x, r = .returned x ∧ Chain w' 0 0 a [sysB] x ∧ Below w.heap.size w w' := by
  unfold sysV
  have hg : (w.alloc (.cells #[.int .i64 n, .int .i64 k, .int .i64 s, .slice ao m cap] 24)).cell? ⟨0, 0, none⟩ = some (.iface 139 (.pointer (some a))) := (((Below.refl _ w).alloc (Nat.le_refl _) _).cell (World.block_lt_of_cell? w _ hS.1)).trans hS.1
  have hF := sysFault_any a (w.alloc (.cells #[.int .i64 n, .int .i64 k, .int .i64 s, .slice ao m cap] 24))
  have hb0 : Hid (Below w.heap.size w (w.alloc (.cells #[.int .i64 n, .int .i64 k, .int .i64 s, .slice ao m cap] 24))) := (Below.refl _ w).alloc (Nat.le_refl _) _
  have hc : ¬ 0 ≤ n ∨ 0 ≤ n ∧ ¬ n ≤ 1000 ∨ (0 ≤ n ∧ n ≤ 1000) ∧ (¬ 1 ≤ k ∨ 1 ≤ k ∧ ¬ k ≤ 201 ∨ (1 ≤ k ∧ k ≤ 201) ∧ (s < 0 ∨ 0 ≤ s ∧ (n < 1 ∧ 1 ≤ s) ∨ 0 ≤ s ∧ (¬ n < 1 ∧ n ≤ s) ∨ 0 ≤ s ∧ (n < 1 ∧ ¬ 1 ≤ s) ∧ (10000 : Int) < (m : Int) ∨ 0 ≤ s ∧ (¬ n < 1 ∧ ¬ n ≤ s) ∧ (10000 : Int) < (m : Int))) := by
    unfold chkA at h
    simp only [Bool.and_eq_false_iff, decide_eq_false_iff_not] at h
    omega
  clear h hS
  rcases hc with h | ⟨h1, h2⟩ | ⟨⟨h1, h2⟩, h | ⟨h3, h4⟩ | ⟨⟨h3, h4⟩, h | ⟨h5, h6, h7⟩ | ⟨h5, h6, h7⟩ | ⟨h5, ⟨h6, h7⟩, h8⟩ | ⟨h5, ⟨h6, h7⟩, h8⟩⟩⟩
  all_goals
    go_enter Tryd.func12, Tryd.ntmps12
    go_wp2_with (go_at_call 29; refine hF.mono ?_; rintro r w1 ⟨x, rfl, hC, hb1⟩; have HC : Hid _ := And.intro hC hb1; clear hC hb1)
    go_ret
    exact ⟨x, rfl, HC.out.1, hb0.out.trans (HC.out.2.mono hb0.out.size)⟩
set_option maxRecDepth 100000 in
set_option maxHeartbeats 4000000 in
theorem check_late (n k s : Int) (v : Value) (es : List Sy.Ed) (a : Addr) (w : World) (hS : Sent w 0 a) (hv : BEdges.Has w v es) (h : chkA n k s es.length = true) :
    Calls Tryd.prog 12 #[sysV n k s v] w fun r w' => ∃ x, r = .returned x ∧ SErr a w' (es.all (edgeOk n k)) x ∧ Below w.heap.size w w' := by
  obtain ⟨w0, hw0⟩ : ∃ w0, w0 = w.alloc (.cells #[.int .i64 n, .int .i64 k, .int .i64 s, v] 24) := ⟨_, rfl⟩
  have hb0 : Below w.heap.size w w0 := by rw [hw0]; exact (Below.refl _ _).alloc (Nat.le_refl _) _
  have hg0 : w0.heap[w.heap.size]? = some (.cells #[.int .i64 n, .int .i64 k, .int .i64 s, v] 24 (0, 0)) := by rw [hw0]; exact heap_alloc_new w _
  obtain ⟨ao, cap, rfl, _⟩ := _root_.id hv
  obtain ⟨m, hm⟩ : ∃ m, m = es.length := ⟨_, rfl⟩
  rw [← hm] at h hg0 hw0 hv ⊢
  have hc : (0 ≤ n ∧ n ≤ 1000) ∧ (1 ≤ k ∧ k ≤ 201) ∧ (0 ≤ s ∧ (n < 1 ∧ ¬ 1 ≤ s ∨ ¬ n < 1 ∧ ¬ n ≤ s)) ∧ m ≤ 10000 := by
    unfold chkA at h
    simp only [Bool.and_eq_true, decide_eq_true_eq] at h
    omega
  obtain ⟨⟨h1, h2⟩, ⟨h3, h4⟩, ⟨h5, h6⟩, h7⟩ := hc
  have h8 : ¬ (10000 : Int) < (m : Int) := by omega
  obtain ⟨x0, x1, x2, x3⟩ := four_cells hg0
  have hM : ∀ W, Below w0.heap.size w0 W → Calls Tryd.prog 28 #[sysV n k s (.slice ao m cap)] W fun r w' => ∃ b, r = .returned (.func (.func 45) #[] #[.pointer (some ⟨b, 0, none⟩)]) ∧ w'.heap[b]? = some (.cells #[.int .i64 n, .int .i64 k, .int .i64 s, .slice ao m cap] 24 (0, 0)) ∧ Below W.heap.size W w' := fun W _ => (mkStr_any n k s _ W).mono fun r w' ⟨hr, hw⟩ => ⟨_, hr, by rw [hw]; exact heap_alloc_new W _, by rw [hw]; exact (Below.refl _ _).alloc (Nat.le_refl _) _⟩
  have hC : ∀ W b, Below w0.heap.size w0 W → W.heap[b]? = some (.cells #[.int .i64 n, .int .i64 k, .int .i64 s, .slice ao m cap] 24 (0, 0)) → Calls Tryd.prog 27 #[.slice ao m cap, .func (.func 45) #[] #[.pointer (some ⟨b, 0, none⟩)]] W fun r w' => r = .returned (.bool (!es.all (edgeOk n k))) ∧ Below W.heap.size W w' := fun W b hb hB => hasBad_any n k s _ _ b es W (by omega) ((hv.below hb0).below hb) hB
  have HC : Hid _ := And.intro hM hC
  have HB : Hid _ := And.intro hb0 hS
  have HW : Hid (w0 = w.alloc (.cells #[.int .i64 n, .int .i64 k, .int .i64 s, .slice ao m cap] 24)) := hw0
  clear hw0
  unfold sysV at HC ⊢
  generalize hq : es.all (edgeOk n k) = q at HC ⊢
  clear hM hC hv hb0 hg0 hm h hS hq
  rcases h6 with ⟨h6, h9⟩ | ⟨h6, h9⟩
  all_goals
    cases q with
    | true =>
      go_enter Tryd.func12, Tryd.ntmps12
      go_upto_region 5 with fail
      rw [← HW.out]
      go_region_held3 (fun w' => (w'.cell? ⟨w.heap.size, 0, none⟩ = some (.int .i64 n) ∧ w'.cell? ⟨w.heap.size, 1, none⟩ = some (.int .i64 k) ∧ w'.cell? ⟨w.heap.size, 2, none⟩ = some (.int .i64 s) ∧ w'.cell? ⟨w.heap.size, 3, none⟩ = some (.slice ao m cap)) ∧ Hid (Below w0.heap.size w0 w')) (first | exact rg_up4 hb3 (by assumption) | exact ⟨⟨x0, x1, x2, x3⟩, ((Below.refl _ _).drew : Below w0.heap.size w0 w0.drew)⟩ | go_keep)
        ((first
          | (go_at_call 28; refine (HC.out.1 _ (rg_b (by assumption))).mono ?_; rintro r w3 ⟨b3, rfl, hB3, hb3⟩)
          | (go_at_call 27; refine (HC.out.2 _ _ (rg_b (by assumption)) hB3).mono ?_; rintro r w3 ⟨rfl, hb3⟩)
          | fail))
      all_goals
        have HF : Hid (Below w0.heap.size w0 w3) := (rg_b (by assumption) : Below w0.heap.size w0 w3)
        clear hb3
        go_wp2_with fail
        go_ret
        exact ⟨_, rfl, by simp [SErr], HB.out.1.trans (HF.out.mono HB.out.1.size)⟩
    | false =>
      go_enter Tryd.func12, Tryd.ntmps12
      go_upto_region 5 with fail
      rw [← HW.out]
      go_region_held3 (fun w' => (w'.cell? ⟨w.heap.size, 0, none⟩ = some (.int .i64 n) ∧ w'.cell? ⟨w.heap.size, 1, none⟩ = some (.int .i64 k) ∧ w'.cell? ⟨w.heap.size, 2, none⟩ = some (.int .i64 s) ∧ w'.cell? ⟨w.heap.size, 3, none⟩ = some (.slice ao m cap)) ∧ Hid (Below w0.heap.size w0 w')) (first | exact rg_up4 hb3 (by assumption) | exact ⟨⟨x0, x1, x2, x3⟩, ((Below.refl _ _).drew : Below w0.heap.size w0 w0.drew)⟩ | go_keep)
        ((first
          | (go_at_call 28; refine (HC.out.1 _ (rg_b (by assumption))).mono ?_; rintro r w3 ⟨b3, rfl, hB3, hb3⟩)
          | (go_at_call 27; refine (HC.out.2 _ _ (rg_b (by assumption)) hB3).mono ?_; rintro r w3 ⟨rfl, hb3⟩)
          | fail))
      all_goals
        have hbw : Below w0.heap.size w0 w3 := rg_b (by assumption)
        have hS3 := (HB.out.2.below HB.out.1).below hbw
        have hg := hS3.1
        have HF : Hid (Below w0.heap.size w0 w3) := hbw
        have hFl := sysFault_any a w3
        clear hb3 hbw hS3
        go_wp2_with (go_at_call 29; refine hFl.mono ?_; rintro r w4 ⟨x, rfl, hC4, hb4⟩; have HC4 : Hid _ := And.intro hC4 hb4; clear hC4 hb4)
        go_ret
        exact ⟨x, rfl, by simpa [SErr] using HC4.out.1, (HB.out.1.trans (HF.out.mono HB.out.1.size)).trans (HC4.out.2.mono (by have := HB.out.1.size; have := HF.out.size; omega))⟩
theorem check_any (n k s : Int) (v : Value) (es : List Sy.Ed) (a : Addr) (w : World) (hS : Sent w 0 a) (hv : BEdges.Has w v es) :
    Calls Tryd.prog 12 #[sysV n k s v] w fun r w' => ∃ x, r = .returned x ∧ SErr a w' (Sy.right n k s es) x ∧ Below w.heap.size w w' := by
  rw [right_eq]
  cases h : chkA n k s es.length with
  | true =>
    rw [Bool.true_and]
    exact check_late n k s v es a w hS hv h
  | false =>
    obtain ⟨ao, cap, rfl, _⟩ := _root_.id hv
    refine (check_early n k s ao es.length cap a w hS h).mono fun r w' ⟨x, hr, hC, hb⟩ => ⟨x, hr, by simpa [SErr] using hC, hb⟩
end
section
open Go.RowKit Go.Maps
attribute [local go_sem ↓] Go.wp_at_zero Go.wp_at_succ
def cmpI (a b : Int) : Int := if a < b then -1 else if b < a then 1 else 0
theorem isNaN_any (a : Int) (w : World) : Calls Tryd.prog 61 #[.int .i64 a] w fun r w' => r = .returned (.bool false) ∧ w' = w := by
  have e : (a != a) = false := by simp
  go_enter Tryd.func61, Tryd.ntmps61
  go_wp2
  go_ret
  exact ⟨by simp, rfl⟩
set_option maxRecDepth 100000 in
theorem cmpI_any (a b : Int) (w : World) : Calls Tryd.prog 43 #[.int .i64 a, .int .i64 b] w fun r w' => r = .returned (.int .i64 (cmpI a b)) ∧ w' = w := by
  have hN := fun (x : Int) (W : World) => isNaN_any x W
  have HN : Hid _ := hN
  clear hN
  by_cases h1 : a < b
  · go_enter Tryd.func43, Tryd.ntmps43
    go_wp2_with (go_at_call 61; refine (HN.out _ _).mono ?_; rintro r w' ⟨rfl, hw⟩; obtain rfl := hw.symm)
    go_ret
    exact ⟨by simp [cmpI, h1], rfl⟩
  · by_cases h2 : b < a
    · go_enter Tryd.func43, Tryd.ntmps43
      go_wp2_with (go_at_call 61; refine (HN.out _ _).mono ?_; rintro r w' ⟨rfl, hw⟩; obtain rfl := hw.symm)
      go_ret
      exact ⟨by simp [cmpI, h1, h2], rfl⟩
    · go_enter Tryd.func43, Tryd.ntmps43
      go_wp2_with (go_at_call 61; refine (HN.out _ _).mono ?_; rintro r w' ⟨rfl, hw⟩; obtain rfl := hw.symm)
      go_ret
      exact ⟨by simp [cmpI]; split <;> (try split) <;> omega, rfl⟩
def orI (a b c : Int) : Int := if a = 0 then if b = 0 then c else b else a
set_option maxRecDepth 100000 in
set_option maxHeartbeats 1000000 in
theorem orI_any (g : Nat) (a b c : Int) (w : World) (hg : w.heap[g]? = some (.cells #[.int .i64 a, .int .i64 b, .int .i64 c] 3 (0, 0))) : Calls Tryd.prog 60 #[.slice (some ⟨g, 0, none⟩) 3 3] w fun r w' => r = .returned (.int .i64 (orI a b c)) ∧ w' = w := by
  have c0 : w.cell? ⟨g, 0, none⟩ = some (.int .i64 a) := cell0_of hg rfl
  have c1 : w.cell? ⟨g, 1, none⟩ = some (.int .i64 b) := cell0_of hg rfl
  have c2 : w.cell? ⟨g, 2, none⟩ = some (.int .i64 c) := cell0_of hg rfl
  have cs : ∀ (i : Nat) (z : Int), [a, b, c][i]? = some z → w.cell? ⟨g, i, none⟩ = some (.int .i64 z) := fun i z h => by
    match i, h with
    | 0, h => simp at h; rw [← h]; exact c0
    | 1, h => simp at h; rw [← h]; exact c1
    | 2, h => simp at h; rw [← h]; exact c2
    | i + 3, h => simp at h
  have HC : Hid _ := cs
  clear cs hg c0 c1 c2
  go_enter Tryd.func60, Tryd.ntmps60
  go_wp2_with fail
  go_loopg [8] 3 (fun q iv wr => ∃ i : Nat, q = 3 - i ∧ i ≤ 3 ∧ iv = .int .i64 i ∧ wr = w ∧ ∀ x ∈ [a, b, c].take i, x = 0)
  case atStart => exact ⟨0, rfl, by omega, rfl, rfl, fun x hx => by simp at hx⟩
  case round =>
    obtain ⟨i, rfl, hi, rfl, rfl, hz⟩ := hrel
    by_cases hlt : i < 3
    · obtain ⟨z, hz1⟩ : ∃ z, [a, b, c][i]? = some z := ⟨[a, b, c][i]'(by simp; omega), List.getElem?_eq_getElem _⟩
      have cz := HC.out i z hz1
      have q0 : (0 : Int) ≤ (i : Int) := by omega
      have q1 : (i : Int) < 3 := by omega
      have HZ : Hid _ := And.intro hz hz1
      clear hz hz1
      by_cases h0 : z = 0
      · have e0 : (z != 0) = false := by simp [h0]
        have HE : Hid _ := h0
        clear h0
        go_wp2
        go_roundg (3 - (i + 1))
        case measure => omega
        case rel =>
          refine ⟨i + 1, rfl, by omega, by go_num, rfl, fun x hx => ?_⟩
          rw [take_succ_of HZ.out.2] at hx
          rcases List.mem_append.1 hx with hx | hx
          · exact HZ.out.1 x hx
          · rw [List.mem_singleton.1 hx]; exact HE.out
      · have e0 : (z != 0) = true := by simp [h0]
        have HE : Hid _ := h0
        clear h0
        go_wp2
        go_ret
        refine ⟨?_, rfl⟩
        have h1 := HZ.out.2
        have h2 := HZ.out.1
        have h3 := HE.out
        show Ending.returned (Value.int .i64 z) = _
        congr 2
        match i, h1, h2 with
        | 0, h1, h2 => simp at h1; subst h1; unfold orI; rw [if_neg h3]
        | 1, h1, h2 => simp at h1 h2; subst h1; unfold orI; rw [if_pos h2, if_neg h3]
        | 2, h1, h2 => simp at h1 h2; subst h1; unfold orI; rw [if_pos h2.1, if_pos h2.2]
        | i + 3, h1, h2 => simp at h1
    · obtain rfl : i = 3 := by omega
      have HZ : Hid _ := hz
      clear hz
      go_wp2
      go_ret
      refine ⟨?_, rfl⟩
      have h2 := HZ.out
      simp at h2
      simp [orI, h2]
def cmpE (a b : Sy.Ed) : Int := orI (cmpI a.1 b.1) (cmpI a.2.1 b.2.1) (cmpI a.2.2 b.2.2)
theorem cmpE_lt (a b : Sy.Ed) : decide (cmpE a b < 0) = Sy.lt a b := by
  rw [Bool.eq_iff_iff, Sy.lt_iff, decide_eq_true_eq]
  unfold cmpE orI cmpI
  (repeat' split) <;> omega
/-- A view: which row an edge stands in, and as which step. -/
def ViewAt (f : Nat) (vw : Sy.Ed → Sy.Ed) : Prop := (∀ args w, (callFunc f args).run Tryd.prog w = .ok (.enter f args) w) ∧ ∀ (x : Sy.Ed) (w : World), Calls Tryd.prog f #[edV x] w fun r w' => r = .returned (.tuple #[.int .i64 (vw x).1, .agg #[.int .i64 (vw x).2.1, .int .i64 (vw x).2.2]]) ∧ Below w.heap.size w w'
set_option maxRecDepth 100000 in
set_option maxHeartbeats 1000000 in
theorem forward_at : ViewAt 21 fun x => x := ⟨enters_of Tryd.func21 (by kernel_rfl) rfl, fun x w => by
  obtain ⟨x0, x1, x2⟩ := x
  unfold edV
  go_enter Tryd.func21, Tryd.ntmps21
  go_wp2_with fail
  go_region
  all_goals
    go_wp2_with fail
    refine bodyPost_ret (v := .tuple #[.int .i64 x0, .agg #[.int .i64 x1, .int .i64 x2]]) (by simp [results, Tryd.results21, go_sem]) rfl ⟨rfl, ?_⟩
    first | exact (by repeat (first | exact Below.refl _ _ | assumption | refine Below.drew ?_ | refine Below.setCell ?_ (by simp) _ | refine Below.alloc ?_ (by simp) _)) | exact (by repeat (first | exact Below.refl _ _ | assumption | refine Below.setCell ?_ (by simp) _ | refine Below.alloc ?_ (by simp) _ | refine Below.drew ?_))⟩
set_option maxRecDepth 100000 in
set_option maxHeartbeats 1000000 in
theorem backward_at : ViewAt 23 Sy.turn := ⟨enters_of Tryd.func23 (by kernel_rfl) rfl, fun x w => by
  obtain ⟨x0, x1, x2⟩ := x
  unfold edV
  go_enter Tryd.func23, Tryd.ntmps23
  go_wp2_with fail
  go_region
  all_goals
    go_wp2_with fail
    refine bodyPost_ret (v := .tuple #[.int .i64 x2, .agg #[.int .i64 x1, .int .i64 x0]]) (by simp [results, Tryd.results23, go_sem]) rfl ⟨rfl, ?_⟩
    first | exact (by repeat (first | exact Below.refl _ _ | assumption | refine Below.drew ?_ | refine Below.setCell ?_ (by simp) _ | refine Below.alloc ?_ (by simp) _)) | exact (by repeat (first | exact Below.refl _ _ | assumption | refine Below.setCell ?_ (by simp) _ | refine Below.alloc ?_ (by simp) _ | refine Below.drew ?_))⟩
theorem enter_cmp : ∀ args w, (callFunc 39 args).run Tryd.prog w = .ok (.enter 39 args) w := enters_of Tryd.func39 (by kernel_rfl) rfl
set_option maxRecDepth 100000 in
set_option maxHeartbeats 4000000 in
theorem compare_any (f : Nat) (vw : Sy.Ed → Sy.Ed) (hV : ViewAt f vw) (a b : Sy.Ed) (w : World) :
    Calls Tryd.prog 39 #[.func (.func f) #[] #[], edV a, edV b] w fun r w' => r = .returned (.int .i64 (cmpE (vw a) (vw b))) ∧ Below w.heap.size w w' := by
  obtain ⟨he, hv⟩ := hV
  obtain ⟨a0, a1, a2⟩ := a
  obtain ⟨b0, b1, b2⟩ := b
  obtain ⟨w0, hw0⟩ : ∃ w0, w0 = (w.alloc (.cells #[.int .i64 a0, .int .i64 a1, .int .i64 a2] 46)).alloc (.cells #[.int .i64 b0, .int .i64 b1, .int .i64 b2] 46) := ⟨_, rfl⟩
  have hb0 : Below w.heap.size w w0 := by rw [hw0]; exact ((Below.refl _ _).alloc (Nat.le_refl _) _).alloc (by simp) _
  have hgb : w0.heap[w.heap.size + 1]? = some (.cells #[.int .i64 b0, .int .i64 b1, .int .i64 b2] 46 (0, 0)) := by rw [hw0]; exact two_alloc w _ _
  have hA := hv (a0, a1, a2)
  have hB := hv (b0, b1, b2)
  unfold cmpE
  generalize vw (a0, a1, a2) = p at hA ⊢
  generalize vw (b0, b1, b2) = q at hB ⊢
  obtain ⟨p0, p1, p2⟩ := p
  obtain ⟨q0, q1, q2⟩ := q
  unfold edV at hA hB ⊢
  have HA : Hid _ := And.intro hA hB
  have H0 : Hid _ := And.intro hb0 (And.intro hgb hw0)
  clear hA hB hb0 hgb hw0 hv
  simp only at HA ⊢
  go_enter Tryd.func39, Tryd.ntmps39
  go_wp2_with fail
  rw [← H0.out.2.2]
  refine Calls.mono (HA.out.1 _) ?_
  rintro r w1 ⟨rfl, hb1⟩
  have hgb1 := (hb1.block _ (t_lt H0.out.2.1)).trans H0.out.2.1
  obtain ⟨w2, hw2⟩ : ∃ w2, w2 = (w1.alloc (.cells #[.int .i64 p1, .int .i64 p2] 42)) := ⟨_, rfl⟩
  have hb2 : Below w1.heap.size w1 w2 := by rw [hw2]; exact (Below.refl _ _).alloc (Nat.le_refl _) _
  have hg2 : w2.heap[w1.heap.size]? = some (.cells #[.int .i64 p1, .int .i64 p2] 42 (0, 0)) := by rw [hw2]; exact heap_alloc_new w1 _
  have hgb2 := (hb2.block _ (t_lt hgb1)).trans hgb1
  have c0 : (w1.alloc (.cells #[.int .i64 p1, .int .i64 p2] 42)).cell? ⟨w.heap.size + 1, 0, none⟩ = some (.int .i64 b0) := by rw [← hw2]; exact cell0_of hgb2 rfl
  have c1 : (w1.alloc (.cells #[.int .i64 p1, .int .i64 p2] 42)).cell? ⟨w.heap.size + 1, 1, none⟩ = some (.int .i64 b1) := by rw [← hw2]; exact cell0_of hgb2 rfl
  have c2 : (w1.alloc (.cells #[.int .i64 p1, .int .i64 p2] 42)).cell? ⟨w.heap.size + 1, 2, none⟩ = some (.int .i64 b2) := by rw [← hw2]; exact cell0_of hgb2 rfl
  have hbw : Below w.heap.size w w2 := (H0.out.1.trans (hb1.mono H0.out.1.size)).trans (hb2.mono (by have := H0.out.1.size; have := hb1.size; omega))
  have H1 : Hid _ := And.intro hbw (And.intro hg2 hw2)
  clear hb1 hgb1 hb2 hg2 hgb2 hw2 H0 hbw
  go_wp2_with fail
  rw [← H1.out.2.2]
  refine Calls.mono (HA.out.2 _) ?_
  rintro r w3 ⟨rfl, hb3⟩
  have hg3 := (hb3.block _ (t_lt H1.out.2.1)).trans H1.out.2.1
  obtain ⟨w4, hw4⟩ : ∃ w4, w4 = (w3.alloc (.cells #[.int .i64 q1, .int .i64 q2] 42)) := ⟨_, rfl⟩
  have hb4 : Below w3.heap.size w3 w4 := by rw [hw4]; exact (Below.refl _ _).alloc (Nat.le_refl _) _
  have hg4 : w4.heap[w3.heap.size]? = some (.cells #[.int .i64 q1, .int .i64 q2] 42 (0, 0)) := by rw [hw4]; exact heap_alloc_new w3 _
  have hp4 := (hb4.block _ (t_lt hg3)).trans hg3
  have x0 : w4.cell? ⟨w1.heap.size, 0, none⟩ = some (.int .i64 p1) := cell0_of hp4 rfl
  have x1 : w4.cell? ⟨w1.heap.size, 1, none⟩ = some (.int .i64 p2) := cell0_of hp4 rfl
  have x2 : w4.cell? ⟨w3.heap.size, 0, none⟩ = some (.int .i64 q1) := cell0_of hg4 rfl
  have x3 : w4.cell? ⟨w3.heap.size, 1, none⟩ = some (.int .i64 q2) := cell0_of hg4 rfl
  have hbw : Below w.heap.size w w4 := (H1.out.1.trans (hb3.mono H1.out.1.size)).trans (hb4.mono (by have := H1.out.1.size; have := hb3.size; omega))
  have H2 : Hid _ := And.intro hbw hw4
  have hC : ∀ (x y : Int) (W : World), Calls Tryd.prog 43 #[.int .i64 x, .int .i64 y] W fun r w' => r = .returned (.int .i64 (cmpI x y)) ∧ Below W.heap.size W w' := fun x y W => (cmpI_any x y W).mono fun r w' ⟨hr, hw⟩ => ⟨hr, by rw [hw]; exact Below.refl _ _⟩
  have hO : ∀ (x y z : Int) (W : World), Calls Tryd.prog 60 #[.slice (some ⟨W.heap.size, 0, none⟩) 3 3] (W.alloc (.cells #[.int .i64 x, .int .i64 y, .int .i64 z] 3)) fun r w' => r = .returned (.int .i64 (orI x y z)) ∧ Below (W.alloc (.cells #[.int .i64 x, .int .i64 y, .int .i64 z] 3)).heap.size (W.alloc (.cells #[.int .i64 x, .int .i64 y, .int .i64 z] 3)) w' := fun x y z W => (orI_any _ x y z _ (heap_alloc_new W _)).mono fun r w' ⟨hr, hw⟩ => ⟨hr, by rw [hw]; exact Below.refl _ _⟩
  have HC : Hid _ := And.intro hC hO
  clear hb3 hg3 hb4 hg4 hp4 hw4 hbw H1 HA c0 c1 c2 hC hO
  go_upto_region 3 with fail
  rw [← H2.out.2]
  have HB : Hid _ := H2.out.1
  clear H2
  go_region_held3 (fun w' => (w'.cell? ⟨w1.heap.size, 0, none⟩ = some (.int .i64 p1) ∧ w'.cell? ⟨w1.heap.size, 1, none⟩ = some (.int .i64 p2) ∧ w'.cell? ⟨w3.heap.size, 0, none⟩ = some (.int .i64 q1) ∧ w'.cell? ⟨w3.heap.size, 1, none⟩ = some (.int .i64 q2)) ∧ Hid (Below w4.heap.size w4 w')) (first | exact rg_up4 hb5 (by assumption) | exact rg_up4 ((Below.refl _ _).alloc (Nat.le_refl _) _) (by assumption) | exact ⟨⟨x0, x1, x2, x3⟩, ((Below.refl _ _).drew : Below w4.heap.size w4 w4.drew)⟩ | go_keep)
    ((first
      | (go_at_call 43; refine (HC.out.1 _ _ _).mono ?_; rintro r w5 ⟨rfl, hb5⟩)
      | (go_at_call 60; refine (HC.out.2 _ _ _ _).mono ?_; rintro r w5 ⟨rfl, hb5⟩)
      | fail))
  all_goals
    have HF : Hid (Below w4.heap.size w4 w5) := (rg_b (by assumption) : Below w4.heap.size w4 w5)
    clear hb5
    go_wp2_with fail
    go_ret
    exact ⟨rfl, HB.out.trans (HF.out.mono HB.out.size)⟩
end
end Go.Proofs.YtladdlkfnfdhaaaDoor
