/- Texts of this claim, joined: SyRight, SySort, SySorted, Is, Sent, ErIs. -/
import Derived.Test.YtnpooilcpapkaabGreatDoorPart0
import Derived.Test.YtnpooilcpapkaabGreatDoorPart3
import Derived.Deep.DeepCutAuto
import Derived.Deep.RegionHeld3
import Derived.Deep.RegionLaw
import Derived.Test.YtnpooilcpapkaabGreatDoorProg
import Derived.WalkKit
import Derived.LaidEql
import Derived.Stop.Asserts
import Derived.RowKitTokens
import Derived.Below
import Derived.OneCell
import Derived.Deep.LoopGhost
import Derived.WalkSmall
/- Contracts of the document's Right and Check of systems. -/
namespace Go.Proofs.YtnpooilcpapkaabGreatDoor
open Go.RowKit Go.Maps
attribute [local go_sem ↓] Go.wp_at_zero Go.wp_at_succ
/-- A system as a value. -/
def sysV (n k s : Int) (v : Value) : Value := .agg #[.int .i64 n, .int .i64 k, .int .i64 s, v]
theorem four_cells {w : World} {b : Nat} {x0 x1 x2 x3 : Value} {t : TypeId} (h : w.heap[b]? = some (.cells #[x0, x1, x2, x3] t (0, 0))) : w.cell? ⟨b, 0, none⟩ = some x0 ∧ w.cell? ⟨b, 1, none⟩ = some x1 ∧ w.cell? ⟨b, 2, none⟩ = some x2 ∧ w.cell? ⟨b, 3, none⟩ = some x3 := by
  simp [World.cell?, h]
theorem edge_at {w : World} {ao : Option Addr} {n cap : Nat} {es : List BEdges.El} (h : BEdges.Has w (.slice ao n cap) es) {j : Nat} {z : BEdges.El} (hz : es[j]? = some z) :
    ∃ a, ao = some a ∧ w.cell? (a.add (j * 3)) = some (.int .i64 z.1) ∧ w.cell? ⟨(a.add (j * 3)).block, (a.add (j * 3)).off + 1, none⟩ = some (.int .i64 z.2.1) ∧ w.cell? ⟨(a.add (j * 3)).block, (a.add (j * 3)).off + 2, none⟩ = some (.int .i64 z.2.2) := by
  obtain ⟨ao', cap', hv, hc⟩ := h
  injection hv with e1 e2 e3
  subst e1
  obtain ⟨a, rfl, c0⟩ := hc (j * 3 + 0) _ ((BEdges.C_at es j z hz 0 (by decide)).trans rfl)
  obtain ⟨a1, e1, c1⟩ := hc (j * 3 + 1) _ ((BEdges.C_at es j z hz 1 (by decide)).trans rfl)
  cases e1
  obtain ⟨a2, e2, c2⟩ := hc (j * 3 + 2) _ ((BEdges.C_at es j z hz 2 (by decide)).trans rfl)
  cases e2
  refine ⟨a, rfl, by simpa using c0, ?_, ?_⟩
  · rw [← BEdges.add_q] at c1; exact c1
  · rw [← BEdges.add_q] at c2; exact c2
def edgeOk (n k : Int) (e : Sy.Ed) : Bool := decide (0 ≤ e.1 ∧ e.1 < n ∧ 0 ≤ e.2.2 ∧ e.2.2 < n ∧ 0 ≤ e.2.1 ∧ e.2.1 < k)
end Go.Proofs.YtnpooilcpapkaabGreatDoor
/- Contracts of the document's less and Sorted of edges. -/
namespace Go.Proofs.YtnpooilcpapkaabGreatDoor
open Go.RowKit Go.Maps
attribute [local go_sem ↓] Go.wp_at_zero Go.wp_at_succ
def edV (a : Sy.Ed) : Value := .agg #[.int .i64 a.1, .int .i64 a.2.1, .int .i64 a.2.2]
/-- A list of edges that is read, with room for all of them. -/
def HasE (w : World) (v : Value) (es : List Sy.Ed) : Prop := ∃ ao cap, v = .slice ao es.length cap ∧ es.length ≤ cap ∧ BEdges.Has w v es
theorem HasE.below {w w' : World} {v : Value} {es : List Sy.Ed} (h : HasE w v es) (hb : Below w.heap.size w w') : HasE w' v es := by
  obtain ⟨ao, cap, h1, h2, h3⟩ := h
  exact ⟨ao, cap, h1, h2, h3.below hb⟩
theorem HasE.of_own {w : World} {B : Nat} {v : Value} {es : List Sy.Ed} (h : BEdges.Own w B v es) : HasE w v es := by
  have h3 := BEdges.Own.has h
  rcases h.2 with ⟨rfl, h0⟩ | ⟨g, cap, cur, rfl, _, _, hc, _⟩
  · exact ⟨none, 0, by rw [h0], by omega, h3⟩
  · exact ⟨_, cap, rfl, hc, h3⟩
theorem hasE_take {w : World} {ao : Option Addr} {n cap : Nat} {es : List Sy.Ed} (h : HasE w (.slice ao n cap) es) (k : Nat) (hk : k ≤ es.length) : HasE w (.slice ao k cap) (es.take k) := by
  obtain ⟨ao', cap', hv, hc, h3⟩ := h
  injection hv with e1 e2 e3
  subst e1; subst e2; subst e3
  have hl : (es.take k).length = k := by rw [List.length_take]; omega
  obtain ⟨ao2, cap2, hv2, h4⟩ := h3
  injection hv2 with f1 f2 f3
  subst f1; subst f3
  refine ⟨ao, cap, by rw [hl], by omega, ao, cap, by rw [hl], fun j u hj => ?_⟩
  refine h4 j u ?_
  have e : BEdges.C es = BEdges.C (es.take k) ++ BEdges.C (es.drop k) := by rw [← BEdges.C_app, List.take_append_drop]
  rw [e, List.getElem?_append_left (List.getElem?_eq_some_iff.1 hj).1]
  exact hj
theorem hasE_drop {w : World} {a : Addr} {n cap : Nat} {es : List Sy.Ed} (h : HasE w (.slice (some a) n cap) es) (k : Nat) (hk : k ≤ es.length) : HasE w (.slice (some (a.add (k * 3))) (n - k) (cap - k)) (es.drop k) := by
  obtain ⟨ao', cap', hv, hc, h3⟩ := h
  injection hv with e1 e2 e3
  subst e1; subst e2; subst e3
  have hl : (es.drop k).length = es.length - k := List.length_drop
  obtain ⟨ao2, cap2, hv2, h4⟩ := h3
  injection hv2 with f1 f2 f3
  subst f1; subst f3
  refine ⟨_, _, by rw [hl], by omega, _, _, by rw [hl], fun j u hj => ⟨_, rfl, ?_⟩⟩
  have e : BEdges.C es = BEdges.C (es.take k) ++ BEdges.C (es.drop k) := by rw [← BEdges.C_app, List.take_append_drop]
  have hcl : (BEdges.C (es.take k)).length = k * 3 := by rw [BEdges.C_len, List.length_take, Nat.min_eq_left hk]
  obtain ⟨a2, ha2, hc2⟩ := h4 (k * 3 + j) u (by rw [e, List.getElem?_append_right (by omega), hcl, Nat.add_sub_cancel_left]; exact hj)
  cases ha2
  rw [BEdges.add_q]
  exact hc2
end Go.Proofs.YtnpooilcpapkaabGreatDoor
/- Contract of the document's Sorted of edges. -/
namespace Go.Proofs.YtnpooilcpapkaabGreatDoor
open Go.RowKit Go.Maps
attribute [local go_sem ↓] Go.wp_at_zero Go.wp_at_succ
/-- A list's elements where a row of one's own holds them. -/
theorem own_edge {w : World} {B : Nat} {ao : Option Addr} {n cap : Nat} {es : List Sy.Ed} (h : BEdges.Own w B (.slice ao n cap) es) {j : Nat} {z : Sy.Ed} (hz : es[j]? = some z) :
    ∃ g, ao = some ⟨g, 0, none⟩ ∧ w.cell? ⟨g, j * 3, none⟩ = some (.int .i64 z.1) ∧ w.cell? ⟨g, j * 3 + 1, none⟩ = some (.int .i64 z.2.1) ∧ w.cell? ⟨g, j * 3 + 2, none⟩ = some (.int .i64 z.2.2) := by
  have hlt := (List.getElem?_eq_some_iff.1 hz).1
  obtain ⟨g, c, hf, _, _⟩ := World.ownsRow.form h (by omega)
  injection hf with e1 e2 e3
  subst e1
  refine ⟨g, rfl, ?_, ?_, ?_⟩
  · have := BEdges.Own.at h ((BEdges.C_at es j z hz 0 (by decide)).trans rfl); simpa using this
  · exact BEdges.Own.at h ((BEdges.C_at es j z hz 1 (by decide)).trans rfl)
  · exact BEdges.Own.at h ((BEdges.C_at es j z hz 2 (by decide)).trans rfl)
end Go.Proofs.YtnpooilcpapkaabGreatDoor
/- errors.Is at a fault of package api that wraps one of api's errors, and a target that is one of api's errors: true just if it is that one. -/
namespace Go.Proofs.YtnpooilcpapkaabGreatDoor
open Go.RowKit Go.Extern.Stop Go.Stop Go.Extern
theorem Tryz.isTypeOf (v : Value) (w : World) : (Extern.ReflectliteType.typeOf #[.iface 148 v]).run Tryz.prog w = .ok (.iface 58 (.agg #[.pointer (some ⟨22, 148, none⟩)])) w := by kernel_rfl
/-- The model's entry for reflectlite's Comparable. -/
def cmpEntry : Array Value → Sem Value := Extern.ReflectliteType.method fun t => do
  Rtype.noPackHeld "Comparable" t
  pure (.bool (← typeInfo t).comparable)
theorem Tryz.isComparable (w : World) : (cmpEntry #[.agg #[.pointer (some ⟨22, 148, none⟩)]]).run Tryz.prog w = .ok (.bool true) w := by kernel_rfl
theorem Tryz.isMethodComparable (v : Value) (w : World) : (Go.method 285 58 v "Comparable").run Tryz.prog w = .ok (109, v) w := by kernel_rfl
theorem Tryz.isComp : (Tryz.prog.info? 148).map (·.comparable) = some true := by kernel_rfl
theorem Tryz.isSize : (Tryz.prog.info? 173).map (·.size) = some 1 := by kernel_rfl
theorem Tryz.noIsE (v : Value) (xT : TypeId) (w : World) : (Instr.typeAssert (.iface 148 v) xT 60 true).run Tryz.prog w = .ok (.tuple #[.nilIface, .bool false]) w := run_typeAssert_lacksB Tryz.underlying60 (by kernel_rfl) (by kernel_rfl) v xT w
theorem Tryz.noUnwrapE (v : Value) (xT : TypeId) (w : World) : (Instr.typeAssert (.iface 148 v) xT 63 true).run Tryz.prog w = .ok (.tuple #[.nilIface, .bool false]) w := run_typeAssert_lacksB Tryz.underlying63 (by kernel_rfl) (by kernel_rfl) v xT w
theorem Tryz.noUnwrapsE (v : Value) (xT : TypeId) (w : World) : (Instr.typeAssert (.iface 148 v) xT 65 true).run Tryz.prog w = .ok (.tuple #[.nilIface, .bool false]) w := run_typeAssert_lacksB Tryz.underlying65 (by kernel_rfl) (by kernel_rfl) v xT w
theorem Tryz.noIsW (v : Value) (xT : TypeId) (w : World) : (Instr.typeAssert (.iface 52 v) xT 60 true).run Tryz.prog w = .ok (.tuple #[.nilIface, .bool false]) w := run_typeAssert_lacksB Tryz.underlying60 (by kernel_rfl) (by kernel_rfl) v xT w
theorem Tryz.hasUnwrapW (v : Value) (xT : TypeId) (w : World) : (Instr.typeAssert (.iface 52 v) xT 63 true).run Tryz.prog w = .ok (.tuple #[.iface 52 v, .bool true]) w := run_typeAssert_hasB Tryz.underlying63 (by kernel_rfl) v xT w
theorem Tryz.methodUnwrap (v : Value) (w : World) : (Go.method 285 52 v "Unwrap").run Tryz.prog w = .ok (105, v) w := by kernel_rfl

set_option maxHeartbeats 1000000 in
/-- errors.Is(f, x), f a fault that wraps x itself. -/
theorem is_fault_same (pb : Nat) (b : Addr) (w : World) (h1 : w.cell? ⟨pb, 3, none⟩ = some (.iface 148 (.pointer (some b)))) :
    Calls Tryz.prog 7 #[.iface 52 (.pointer (some ⟨pb, 0, none⟩)), .iface 148 (.pointer (some b))] w fun e w' => e = .returned (.bool true) ∧ w' = w := by
  obtain ⟨i, hi, hcmp⟩ := Option.map_eq_some_iff.1 Tryz.isComp
  obtain ⟨j, hj, hjs⟩ := Option.map_eq_some_iff.1 Tryz.isSize
  have h8 := @run_callFunc_extern Tryz.prog 15 _ Extern.ReflectliteType.typeOf Tryz.func15 (by kernel_rfl) (by kernel_rfl) (by kernel_rfl) (by kernel_rfl)
  have h32 := @run_callFunc_extern Tryz.prog 109 _ cmpEntry Tryz.func109 (by kernel_rfl) (by kernel_rfl) (by kernel_rfl) (by kernel_rfl)
  have tT := Tryz.isTypeOf
  have cT := Tryz.isComparable
  have mR := Tryz.isMethodComparable
  have nE := Tryz.noIsE
  have uE := Tryz.noUnwrapE
  have vE := Tryz.noUnwrapsE
  have nW := Tryz.noIsW
  have uW := Tryz.hasUnwrapW
  have mU := Tryz.methodUnwrap
  have heq := run_eql_iface_ptr_same (P := Tryz.prog) w b Tryz.underlying27 Tryz.underlying148 hi hcmp hj
  have hty := run_eql_iface_types (P := Tryz.prog) 52 148 (.pointer (some ⟨pb, 0, none⟩)) (.pointer (some b)) Tryz.underlying27 (by decide) w
  go_enter Tryz.func7, Tryz.ntmps7
  go_wp2
  refine wp_loop_rounds 2 ?_
  rw [rounds_succ]
  go_wp2
  rw [rounds_succ]
  go_wp2
  go_ret
  exact ⟨rfl, rfl⟩
set_option maxHeartbeats 1000000 in
/-- errors.Is(f, x), f a fault that wraps another one of api's errors. -/
theorem is_fault_other (pb : Nat) (b a : Addr) (ca cb : Array Value) (ta tb : TypeId) (w : World) (h1 : w.cell? ⟨pb, 3, none⟩ = some (.iface 148 (.pointer (some a)))) (hne : a ≠ b) (ha : w.heap[a.block]? = some (.cells ca ta (0, 0))) (hb : w.heap[b.block]? = some (.cells cb tb (0, 0))) :
    Calls Tryz.prog 7 #[.iface 52 (.pointer (some ⟨pb, 0, none⟩)), .iface 148 (.pointer (some b))] w fun e w' => e = .returned (.bool false) ∧ w' = w := by
  obtain ⟨i, hi, hcmp⟩ := Option.map_eq_some_iff.1 Tryz.isComp
  obtain ⟨j, hj, hjs⟩ := Option.map_eq_some_iff.1 Tryz.isSize
  have h8 := @run_callFunc_extern Tryz.prog 15 _ Extern.ReflectliteType.typeOf Tryz.func15 (by kernel_rfl) (by kernel_rfl) (by kernel_rfl) (by kernel_rfl)
  have h32 := @run_callFunc_extern Tryz.prog 109 _ cmpEntry Tryz.func109 (by kernel_rfl) (by kernel_rfl) (by kernel_rfl) (by kernel_rfl)
  have tT := Tryz.isTypeOf
  have cT := Tryz.isComparable
  have mR := Tryz.isMethodComparable
  have nE := Tryz.noIsE
  have uE := Tryz.noUnwrapE
  have vE := Tryz.noUnwrapsE
  have nW := Tryz.noIsW
  have uW := Tryz.hasUnwrapW
  have mU := Tryz.methodUnwrap
  have heq := run_eql_iface_ptr_other (P := Tryz.prog) w Tryz.underlying27 Tryz.underlying148 hi hcmp hj (by rw [hjs]; decide) hne ha hb
  have hty := run_eql_iface_types (P := Tryz.prog) 52 148 (.pointer (some ⟨pb, 0, none⟩)) (.pointer (some b)) Tryz.underlying27 (by decide) w
  go_enter Tryz.func7, Tryz.ntmps7
  go_wp2
  refine wp_loop_rounds 2 ?_
  rw [rounds_succ]
  go_wp2
  rw [rounds_succ]
  go_wp2
  go_ret
  exact ⟨rfl, rfl⟩
end Go.Proofs.YtnpooilcpapkaabGreatDoor
/- What a statement knows of one of api's errors in memory. -/
namespace Go.Proofs.YtnpooilcpapkaabGreatDoor
open Go.RowKit
/-- The package variable number g holds the error at a, which lies in memory. -/
def Sent (w : World) (g : Nat) (a : Addr) : Prop := w.cell? ⟨g, 0, none⟩ = some (.iface 148 (.pointer (some a))) ∧ ∃ c t, w.heap[a.block]? = some (.cells c t (0, 0))
theorem Sent.below {w w1 : World} {g : Nat} {a : Addr} (h : Sent w g a) (hb : Below w.heap.size w w1) : Sent w1 g a := by
  obtain ⟨h1, c, t, h2⟩ := h
  exact ⟨(hb.cell (World.block_lt_of_cell? w _ h1)).trans h1, c, t, by rw [hb.block _ (lt_of_block h2)]; exact h2⟩
end Go.Proofs.YtnpooilcpapkaabGreatDoor
/- errors.Is at a chain of faults of package api, however long, that ends in one of api's errors: true just if it is that one. -/
namespace Go.Proofs.YtnpooilcpapkaabGreatDoor
open Go.RowKit Go.Extern.Stop Go.Stop Go.Extern
/-- A chain of faults of these layers, all at one place, that ends in the error at a. -/
def Chain (w : World) (l c : Int) (a : Addr) : List ByteArray → Value → Prop
  | [], v => v = .iface 148 (.pointer (some a))
  | s :: r, v => ∃ b u, v = .iface 52 (.pointer (some ⟨b, 0, none⟩)) ∧ w.heap[b]? = some (.cells #[.string s, .int .i64 l, .int .i64 c, u] 54 (0, 0)) ∧ Chain w l c a r u
theorem Chain.below {w w' : World} {l c : Int} {a : Addr} : ∀ {ls : List ByteArray} {v : Value}, Chain w l c a ls v → Below w.heap.size w w' → Chain w' l c a ls v
  | [], _, h, _ => h
  | s :: r, v, h, hb => by
    obtain ⟨b, u, h1, h2, h3⟩ := h
    exact ⟨b, u, h1, (hb.block b (Array.getElem?_eq_some_iff.1 h2).1).trans h2, Chain.below h3 hb⟩
theorem Chain.iface {w : World} {l c : Int} {a : Addr} {ls : List ByteArray} {v : Value} (h : Chain w l c a ls v) : ∃ T u, v = .iface T u := by
  cases ls with
  | nil => exact ⟨_, _, h⟩
  | cons s r => obtain ⟨b, u, h1, _⟩ := h; exact ⟨_, _, h1⟩
theorem fault_cells {w : World} {b : Nat} {x0 x1 x2 x3 : Value} {t : TypeId} (h : w.heap[b]? = some (.cells #[x0, x1, x2, x3] t (0, 0))) : w.cell? ⟨b, 0, none⟩ = some x0 ∧ w.cell? ⟨b, 1, none⟩ = some x1 ∧ w.cell? ⟨b, 2, none⟩ = some x2 ∧ w.cell? ⟨b, 3, none⟩ = some x3 := by
  simp [World.cell?, h]
set_option maxRecDepth 100000 in
set_option maxHeartbeats 4000000 in
theorem isLow_chain (v : Value) (ls : List ByteArray) (l c : Int) (a b : Addr) (ca cb : Array Value) (ta tb : TypeId) (w : World) (hC : Chain w l c a ls v) (ha : w.heap[a.block]? = some (.cells ca ta (0, 0))) (hb : w.heap[b.block]? = some (.cells cb tb (0, 0))) :
    Calls Tryz.prog 16 #[v, .iface 148 (.pointer (some b)), .bool true] w fun e w' => e = .returned (.bool (decide (a = b))) ∧ w' = w := by
  obtain ⟨i, hi, hcmp⟩ := Option.map_eq_some_iff.1 Tryz.isComp
  obtain ⟨j, hj, hjs⟩ := Option.map_eq_some_iff.1 Tryz.isSize
  have nE := Tryz.noIsE
  have uE := Tryz.noUnwrapE
  have vE := Tryz.noUnwrapsE
  have nW := Tryz.noIsW
  have uW := Tryz.hasUnwrapW
  have mU := Tryz.methodUnwrap
  have heq : (binOp .eql 27 (.iface 148 (.pointer (some a))) (.iface 148 (.pointer (some b)))).run Tryz.prog w = .ok (.bool (decide (a = b))) w := by
    by_cases e : a = b
    · subst e
      rw [run_eql_iface_ptr_same (P := Tryz.prog) w a Tryz.underlying27 Tryz.underlying148 hi hcmp hj]
      simp
    · rw [run_eql_iface_ptr_other (P := Tryz.prog) w Tryz.underlying27 Tryz.underlying148 hi hcmp hj (by rw [hjs]; decide) e ha hb]
      simp [e]
  obtain ⟨d, hd⟩ : ∃ d, d = decide (a = b) := ⟨_, rfl⟩
  rw [← hd] at heq ⊢
  have HC : Hid (Chain w l c a ls v) := hC
  clear hC ha hb hd hi hcmp hj hjs
  go_enter Tryz.func16, Tryz.ntmps16
  go_wp2_with fail
  go_loopg [0] (ls.length + 1) (fun q ev wr => ∃ (r : List ByteArray), q = r.length + 1 ∧ wr = w ∧ Chain w l c a r ev)
  case atStart => exact ⟨ls, rfl, rfl, HC.out⟩
  case round =>
    obtain ⟨r, rfl, rfl, hCr⟩ := hrel
    clear HC
    cases r with
    | nil =>
      have e : u0 = .iface 148 (.pointer (some a)) := hCr
      subst e
      clear hCr
      cases d
      · go_wp2
        go_ret
        exact ⟨rfl, rfl⟩
      · go_wp2
        go_ret
        exact ⟨rfl, rfl⟩
    | cons s r =>
      obtain ⟨pb, u, rfl, hB, hCu⟩ := hCr
      have h1 := (fault_cells hB).2.2.2
      have hty := run_eql_iface_types (P := Tryz.prog) 52 148 (.pointer (some ⟨pb, 0, none⟩)) (.pointer (some b)) Tryz.underlying27 (by decide) wr
      obtain ⟨T, x, rfl⟩ := hCu.iface
      have HU : Hid (Chain wr l c a r (.iface T x)) := hCu
      clear hCu hB heq
      go_wp2
      go_roundg (r.length + 1)
      case measure => simp
      case rel => exact ⟨r, rfl, rfl, HU.out⟩
set_option maxHeartbeats 1000000 in
theorem is_chain (v : Value) (ls : List ByteArray) (l c : Int) (a b : Addr) (ca cb : Array Value) (ta tb : TypeId) (w : World) (hC : Chain w l c a ls v) (ha : w.heap[a.block]? = some (.cells ca ta (0, 0))) (hb : w.heap[b.block]? = some (.cells cb tb (0, 0))) :
    Calls Tryz.prog 7 #[v, .iface 148 (.pointer (some b))] w fun e w' => e = .returned (.bool (decide (a = b))) ∧ w' = w := by
  have h8 := @run_callFunc_extern Tryz.prog 15 _ Extern.ReflectliteType.typeOf Tryz.func15 (by kernel_rfl) (by kernel_rfl) (by kernel_rfl) (by kernel_rfl)
  have h32 := @run_callFunc_extern Tryz.prog 109 _ cmpEntry Tryz.func109 (by kernel_rfl) (by kernel_rfl) (by kernel_rfl) (by kernel_rfl)
  have tT := Tryz.isTypeOf
  have cT := Tryz.isComparable
  have mR := Tryz.isMethodComparable
  have HL : Hid _ := isLow_chain v ls l c a b ca cb ta tb w hC ha hb
  obtain ⟨T, x, rfl⟩ := hC.iface
  clear hC ha hb
  go_enter Tryz.func7, Tryz.ntmps7
  go_wp2_with (go_at_call 16; refine Calls.mono HL.out ?_; rintro e w' ⟨rfl, hw⟩; obtain rfl := hw.symm; clear hw)
  go_ret
  exact ⟨rfl, rfl⟩
end Go.Proofs.YtnpooilcpapkaabGreatDoor
