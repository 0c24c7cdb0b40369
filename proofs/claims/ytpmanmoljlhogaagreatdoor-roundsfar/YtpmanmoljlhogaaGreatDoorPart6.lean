/- Texts of this claim, joined: Is, Sent, ErIs. -/
import Derived.Test.YtpmanmoljlhogaaGreatDoorProg
import Derived.WalkKit
import Derived.LaidEql
import Derived.Stop.Asserts
import Derived.RowKitTokens
import Derived.Below
import Derived.OneCell
import Derived.Deep.LoopGhost
import Derived.WalkSmall
/- errors.Is at a fault of package api that wraps one of api's errors, and a target that is one of api's errors: true just if it is that one. -/
namespace Go.Proofs.YtpmanmoljlhogaaGreatDoor
open Go.RowKit Go.Extern.Stop Go.Stop Go.Extern
theorem Tryz.isTypeOf (v : Value) (w : World) : (Extern.ReflectliteType.typeOf #[.iface 305 v]).run Tryz.prog w = .ok (.iface 190 (.agg #[.pointer (some ⟨23, 305, none⟩)])) w := by kernel_rfl
/-- The model's entry for reflectlite's Comparable. -/
def cmpEntry : Array Value → Sem Value := Extern.ReflectliteType.method fun t => do
  Rtype.noPackHeld "Comparable" t
  pure (.bool (← typeInfo t).comparable)
theorem Tryz.isComparable (w : World) : (cmpEntry #[.agg #[.pointer (some ⟨23, 305, none⟩)]]).run Tryz.prog w = .ok (.bool true) w := by kernel_rfl
theorem Tryz.isMethodComparable (v : Value) (w : World) : (Go.method 437 190 v "Comparable").run Tryz.prog w = .ok (258, v) w := by kernel_rfl
theorem Tryz.isComp : (Tryz.prog.info? 305).map (·.comparable) = some true := by kernel_rfl
theorem Tryz.isSize : (Tryz.prog.info? 325).map (·.size) = some 1 := by kernel_rfl
theorem Tryz.noIsE (v : Value) (xT : TypeId) (w : World) : (Instr.typeAssert (.iface 305 v) xT 192 true).run Tryz.prog w = .ok (.tuple #[.nilIface, .bool false]) w := run_typeAssert_lacksB Tryz.underlying192 (by kernel_rfl) (by kernel_rfl) v xT w
theorem Tryz.noUnwrapE (v : Value) (xT : TypeId) (w : World) : (Instr.typeAssert (.iface 305 v) xT 195 true).run Tryz.prog w = .ok (.tuple #[.nilIface, .bool false]) w := run_typeAssert_lacksB Tryz.underlying195 (by kernel_rfl) (by kernel_rfl) v xT w
theorem Tryz.noUnwrapsE (v : Value) (xT : TypeId) (w : World) : (Instr.typeAssert (.iface 305 v) xT 197 true).run Tryz.prog w = .ok (.tuple #[.nilIface, .bool false]) w := run_typeAssert_lacksB Tryz.underlying197 (by kernel_rfl) (by kernel_rfl) v xT w
theorem Tryz.noIsW (v : Value) (xT : TypeId) (w : World) : (Instr.typeAssert (.iface 76 v) xT 192 true).run Tryz.prog w = .ok (.tuple #[.nilIface, .bool false]) w := run_typeAssert_lacksB Tryz.underlying192 (by kernel_rfl) (by kernel_rfl) v xT w
theorem Tryz.hasUnwrapW (v : Value) (xT : TypeId) (w : World) : (Instr.typeAssert (.iface 76 v) xT 195 true).run Tryz.prog w = .ok (.tuple #[.iface 76 v, .bool true]) w := run_typeAssert_hasB Tryz.underlying195 (by kernel_rfl) v xT w
theorem Tryz.methodUnwrap (v : Value) (w : World) : (Go.method 437 76 v "Unwrap").run Tryz.prog w = .ok (252, v) w := by kernel_rfl

set_option maxHeartbeats 1000000 in
/-- errors.Is(f, x), f a fault that wraps x itself. -/
theorem is_fault_same (pb : Nat) (b : Addr) (w : World) (h1 : w.cell? ⟨pb, 3, none⟩ = some (.iface 305 (.pointer (some b)))) :
    Calls Tryz.prog 83 #[.iface 76 (.pointer (some ⟨pb, 0, none⟩)), .iface 305 (.pointer (some b))] w fun e w' => e = .returned (.bool true) ∧ w' = w := by
  obtain ⟨i, hi, hcmp⟩ := Option.map_eq_some_iff.1 Tryz.isComp
  obtain ⟨j, hj, hjs⟩ := Option.map_eq_some_iff.1 Tryz.isSize
  have h8 := @run_callFunc_extern Tryz.prog 119 _ Extern.ReflectliteType.typeOf Tryz.func119 (by kernel_rfl) (by kernel_rfl) (by kernel_rfl) (by kernel_rfl)
  have h32 := @run_callFunc_extern Tryz.prog 258 _ cmpEntry Tryz.func258 (by kernel_rfl) (by kernel_rfl) (by kernel_rfl) (by kernel_rfl)
  have tT := Tryz.isTypeOf
  have cT := Tryz.isComparable
  have mR := Tryz.isMethodComparable
  have nE := Tryz.noIsE
  have uE := Tryz.noUnwrapE
  have vE := Tryz.noUnwrapsE
  have nW := Tryz.noIsW
  have uW := Tryz.hasUnwrapW
  have mU := Tryz.methodUnwrap
  have heq := run_eql_iface_ptr_same (P := Tryz.prog) w b Tryz.underlying46 Tryz.underlying305 hi hcmp hj
  have hty := run_eql_iface_types (P := Tryz.prog) 76 305 (.pointer (some ⟨pb, 0, none⟩)) (.pointer (some b)) Tryz.underlying46 (by decide) w
  go_enter Tryz.func83, Tryz.ntmps83
  go_wp2
  refine wp_loop_rounds 2 ?_
  rw [rounds_succ]
  go_wp2
  rw [rounds_succ]
  go_wp2
  go_ret
  exact ⟨rfl, rfl⟩
set_option maxHeartbeats 1000000 in
/-- errors.Is(f, x), f a fault that wraps another one of api's errors. -/
theorem is_fault_other (pb : Nat) (b a : Addr) (ca cb : Array Value) (ta tb : TypeId) (w : World) (h1 : w.cell? ⟨pb, 3, none⟩ = some (.iface 305 (.pointer (some a)))) (hne : a ≠ b) (ha : w.heap[a.block]? = some (.cells ca ta (0, 0))) (hb : w.heap[b.block]? = some (.cells cb tb (0, 0))) :
    Calls Tryz.prog 83 #[.iface 76 (.pointer (some ⟨pb, 0, none⟩)), .iface 305 (.pointer (some b))] w fun e w' => e = .returned (.bool false) ∧ w' = w := by
  obtain ⟨i, hi, hcmp⟩ := Option.map_eq_some_iff.1 Tryz.isComp
  obtain ⟨j, hj, hjs⟩ := Option.map_eq_some_iff.1 Tryz.isSize
  have h8 := @run_callFunc_extern Tryz.prog 119 _ Extern.ReflectliteType.typeOf Tryz.func119 (by kernel_rfl) (by kernel_rfl) (by kernel_rfl) (by kernel_rfl)
  have h32 := @run_callFunc_extern Tryz.prog 258 _ cmpEntry Tryz.func258 (by kernel_rfl) (by kernel_rfl) (by kernel_rfl) (by kernel_rfl)
  have tT := Tryz.isTypeOf
  have cT := Tryz.isComparable
  have mR := Tryz.isMethodComparable
  have nE := Tryz.noIsE
  have uE := Tryz.noUnwrapE
  have vE := Tryz.noUnwrapsE
  have nW := Tryz.noIsW
  have uW := Tryz.hasUnwrapW
  have mU := Tryz.methodUnwrap
  have heq := run_eql_iface_ptr_other (P := Tryz.prog) w Tryz.underlying46 Tryz.underlying305 hi hcmp hj (by rw [hjs]; decide) hne ha hb
  have hty := run_eql_iface_types (P := Tryz.prog) 76 305 (.pointer (some ⟨pb, 0, none⟩)) (.pointer (some b)) Tryz.underlying46 (by decide) w
  go_enter Tryz.func83, Tryz.ntmps83
  go_wp2
  refine wp_loop_rounds 2 ?_
  rw [rounds_succ]
  go_wp2
  rw [rounds_succ]
  go_wp2
  go_ret
  exact ⟨rfl, rfl⟩
end Go.Proofs.YtpmanmoljlhogaaGreatDoor
/- What a statement knows of one of api's errors in memory. -/
namespace Go.Proofs.YtpmanmoljlhogaaGreatDoor
open Go.RowKit
/-- The package variable number g holds the error at a, which lies in memory. -/
def Sent (w : World) (g : Nat) (a : Addr) : Prop := w.cell? ⟨g, 0, none⟩ = some (.iface 305 (.pointer (some a))) ∧ ∃ c t, w.heap[a.block]? = some (.cells c t (0, 0))
theorem Sent.below {w w1 : World} {g : Nat} {a : Addr} (h : Sent w g a) (hb : Below w.heap.size w w1) : Sent w1 g a := by
  obtain ⟨h1, c, t, h2⟩ := h
  exact ⟨(hb.cell (World.block_lt_of_cell? w _ h1)).trans h1, c, t, by rw [hb.block _ (lt_of_block h2)]; exact h2⟩
end Go.Proofs.YtpmanmoljlhogaaGreatDoor
/- errors.Is at a chain of faults of package api, however long, that ends in one of api's errors: true just if it is that one. -/
namespace Go.Proofs.YtpmanmoljlhogaaGreatDoor
open Go.RowKit Go.Extern.Stop Go.Stop Go.Extern
/-- A chain of faults of these layers, all at one place, that ends in the error at a. -/
def Chain (w : World) (l c : Int) (a : Addr) : List ByteArray → Value → Prop
  | [], v => v = .iface 305 (.pointer (some a))
  | s :: r, v => ∃ b u, v = .iface 76 (.pointer (some ⟨b, 0, none⟩)) ∧ w.heap[b]? = some (.cells #[.string s, .int .i64 l, .int .i64 c, u] 79 (0, 0)) ∧ Chain w l c a r u
theorem Chain.below {w w' : World} {l c : Int} {a : Addr} : ∀ {ls : List ByteArray} {v : Value}, Chain w l c a ls v → Below w.heap.size w w' → Chain w' l c a ls v
  | [], _, h, _ => h
  | s :: r, v, h, hb => by
    obtain ⟨b, u, h1, h2, h3⟩ := h
    exact ⟨b, u, h1, (hb.block b (Array.getElem?_eq_some_iff.1 h2).1).trans h2, Chain.below h3 hb⟩
theorem Chain.iface {w : World} {l c : Int} {a : Addr} {ls : List ByteArray} {v : Value} (h : Chain w l c a ls v) : ∃ T u, v = .iface T u := by
  cases ls with
  | nil => exact ⟨_, _, h⟩
  | cons s r => obtain ⟨b, u, h1, _⟩ := h; exact ⟨_, _, h1⟩
theorem fault_cells {w : World} {b : Nat} {x0 x1 x2 x3 : Value} {t : TypeId} (h : w.heap[b]? = some (.cells #[x0, x1, x2, x3] t (0, 0))) : w.cell? ⟨b, 0, none⟩ = some x0 ∧ w.cell? ⟨b, 1, none⟩ = some x1 ∧ w.cell? ⟨b, 2, none⟩ = some x2 ∧ w.cell? ⟨b, 3, none⟩ = some x3 := by
  simp [World.cell?, h]
set_option maxRecDepth 100000 in
set_option maxHeartbeats 4000000 in
theorem isLow_chain (v : Value) (ls : List ByteArray) (l c : Int) (a b : Addr) (ca cb : Array Value) (ta tb : TypeId) (w : World) (hC : Chain w l c a ls v) (ha : w.heap[a.block]? = some (.cells ca ta (0, 0))) (hb : w.heap[b.block]? = some (.cells cb tb (0, 0))) :
    Calls Tryz.prog 120 #[v, .iface 305 (.pointer (some b)), .bool true] w fun e w' => e = .returned (.bool (decide (a = b))) ∧ w' = w := by
  obtain ⟨i, hi, hcmp⟩ := Option.map_eq_some_iff.1 Tryz.isComp
  obtain ⟨j, hj, hjs⟩ := Option.map_eq_some_iff.1 Tryz.isSize
  have nE := Tryz.noIsE
  have uE := Tryz.noUnwrapE
  have vE := Tryz.noUnwrapsE
  have nW := Tryz.noIsW
  have uW := Tryz.hasUnwrapW
  have mU := Tryz.methodUnwrap
  have heq : (binOp .eql 46 (.iface 305 (.pointer (some a))) (.iface 305 (.pointer (some b)))).run Tryz.prog w = .ok (.bool (decide (a = b))) w := by
    by_cases e : a = b
    · subst e
      rw [run_eql_iface_ptr_same (P := Tryz.prog) w a Tryz.underlying46 Tryz.underlying305 hi hcmp hj]
      simp
    · rw [run_eql_iface_ptr_other (P := Tryz.prog) w Tryz.underlying46 Tryz.underlying305 hi hcmp hj (by rw [hjs]; decide) e ha hb]
      simp [e]
  obtain ⟨d, hd⟩ : ∃ d, d = decide (a = b) := ⟨_, rfl⟩
  rw [← hd] at heq ⊢
  have HC : Hid (Chain w l c a ls v) := hC
  clear hC ha hb hd hi hcmp hj hjs
  go_enter Tryz.func120, Tryz.ntmps120
  go_wp2_with fail
  go_loopg [0] (ls.length + 1) (fun q ev wr => ∃ (r : List ByteArray), q = r.length + 1 ∧ wr = w ∧ Chain w l c a r ev)
  case atStart => exact ⟨ls, rfl, rfl, HC.out⟩
  case round =>
    obtain ⟨r, rfl, rfl, hCr⟩ := hrel
    clear HC
    cases r with
    | nil =>
      have e : u0 = .iface 305 (.pointer (some a)) := hCr
      subst e
      clear hCr
      cases d
      · go_wp2
        go_ret
        exact ⟨rfl, rfl⟩
      · go_wp2
        go_ret
        exact ⟨rfl, rfl⟩
    | cons s r =>
      obtain ⟨pb, u, rfl, hB, hCu⟩ := hCr
      have h1 := (fault_cells hB).2.2.2
      have hty := run_eql_iface_types (P := Tryz.prog) 76 305 (.pointer (some ⟨pb, 0, none⟩)) (.pointer (some b)) Tryz.underlying46 (by decide) wr
      obtain ⟨T, x, rfl⟩ := hCu.iface
      have HU : Hid (Chain wr l c a r (.iface T x)) := hCu
      clear hCu hB heq
      go_wp2
      go_roundg (r.length + 1)
      case measure => simp
      case rel => exact ⟨r, rfl, rfl, HU.out⟩
set_option maxHeartbeats 1000000 in
theorem is_chain (v : Value) (ls : List ByteArray) (l c : Int) (a b : Addr) (ca cb : Array Value) (ta tb : TypeId) (w : World) (hC : Chain w l c a ls v) (ha : w.heap[a.block]? = some (.cells ca ta (0, 0))) (hb : w.heap[b.block]? = some (.cells cb tb (0, 0))) :
    Calls Tryz.prog 83 #[v, .iface 305 (.pointer (some b))] w fun e w' => e = .returned (.bool (decide (a = b))) ∧ w' = w := by
  have h8 := @run_callFunc_extern Tryz.prog 119 _ Extern.ReflectliteType.typeOf Tryz.func119 (by kernel_rfl) (by kernel_rfl) (by kernel_rfl) (by kernel_rfl)
  have h32 := @run_callFunc_extern Tryz.prog 258 _ cmpEntry Tryz.func258 (by kernel_rfl) (by kernel_rfl) (by kernel_rfl) (by kernel_rfl)
  have tT := Tryz.isTypeOf
  have cT := Tryz.isComparable
  have mR := Tryz.isMethodComparable
  have HL : Hid _ := isLow_chain v ls l c a b ca cb ta tb w hC ha hb
  obtain ⟨T, x, rfl⟩ := hC.iface
  clear hC ha hb
  go_enter Tryz.func83, Tryz.ntmps83
  go_wp2_with (go_at_call 120; refine Calls.mono HL.out ?_; rintro e w' ⟨rfl, hw⟩; obtain rfl := hw.symm; clear hw)
  go_ret
  exact ⟨rfl, rfl⟩
end Go.Proofs.YtpmanmoljlhogaaGreatDoor
