/- Texts of this claim, joined: Is, Sent, ErIs. -/
import Derived.Test.YtibdgefjpcebkaaGreatDoorProg
import Derived.WalkKit
import Derived.LaidEql
import Derived.Stop.Asserts
import Derived.RowKitTokens
import Derived.Below
import Derived.OneCell
import Derived.Deep.LoopGhost
import Derived.WalkSmall
namespace Go.Proofs.YtibdgefjpcebkaaGreatDoor
section
open Go.RowKit Go.Extern.Stop Go.Stop Go.Extern
theorem Tryz.isTypeOf (v : Value) (w : World) : (Extern.ReflectliteType.typeOf #[.iface 240 v]).run Tryz.prog w = .ok (.iface 195 (.agg #[.pointer (some ⟨20, 240, none⟩)])) w := by kernel_rfl
def cmpEntry : Array Value → Sem Value := Extern.ReflectliteType.method fun t => do
  Rtype.noPackHeld "Comparable" t
  pure (.bool (← typeInfo t).comparable)
theorem Tryz.isComparable (w : World) : (cmpEntry #[.agg #[.pointer (some ⟨20, 240, none⟩)]]).run Tryz.prog w = .ok (.bool true) w := by kernel_rfl
theorem Tryz.isMethodComparable (v : Value) (w : World) : (Go.method 376 195 v "Comparable").run Tryz.prog w = .ok (196, v) w := by kernel_rfl
theorem Tryz.isComp : (Tryz.prog.info? 240).map (·.comparable) = some true := by kernel_rfl
theorem Tryz.isSize : (Tryz.prog.info? 264).map (·.size) = some 1 := by kernel_rfl
theorem Tryz.noIsE (v : Value) (xT : TypeId) (w : World) : (Instr.typeAssert (.iface 240 v) xT 197 true).run Tryz.prog w = .ok (.tuple #[.nilIface, .bool false]) w := run_typeAssert_lacksB Tryz.underlying197 (by kernel_rfl) (by kernel_rfl) v xT w
theorem Tryz.noUnwrapE (v : Value) (xT : TypeId) (w : World) : (Instr.typeAssert (.iface 240 v) xT 200 true).run Tryz.prog w = .ok (.tuple #[.nilIface, .bool false]) w := run_typeAssert_lacksB Tryz.underlying200 (by kernel_rfl) (by kernel_rfl) v xT w
theorem Tryz.noUnwrapsE (v : Value) (xT : TypeId) (w : World) : (Instr.typeAssert (.iface 240 v) xT 202 true).run Tryz.prog w = .ok (.tuple #[.nilIface, .bool false]) w := run_typeAssert_lacksB Tryz.underlying202 (by kernel_rfl) (by kernel_rfl) v xT w
theorem Tryz.noIsW (v : Value) (xT : TypeId) (w : World) : (Instr.typeAssert (.iface 83 v) xT 197 true).run Tryz.prog w = .ok (.tuple #[.nilIface, .bool false]) w := run_typeAssert_lacksB Tryz.underlying197 (by kernel_rfl) (by kernel_rfl) v xT w
theorem Tryz.hasUnwrapW (v : Value) (xT : TypeId) (w : World) : (Instr.typeAssert (.iface 83 v) xT 200 true).run Tryz.prog w = .ok (.tuple #[.iface 83 v, .bool true]) w := run_typeAssert_hasB Tryz.underlying200 (by kernel_rfl) v xT w
theorem Tryz.methodUnwrap (v : Value) (w : World) : (Go.method 376 83 v "Unwrap").run Tryz.prog w = .ok (191, v) w := by kernel_rfl

end
section
open Go.RowKit
def Sent (w : World) (g : Nat) (a : Addr) : Prop := w.cell? ⟨g, 0, none⟩ = some (.iface 240 (.pointer (some a))) ∧ ∃ c t, w.heap[a.block]? = some (.cells c t (0, 0))
theorem Sent.below {w w1 : World} {g : Nat} {a : Addr} (h : Sent w g a) (hb : Below w.heap.size w w1) : Sent w1 g a := by
  obtain ⟨h1, c, t, h2⟩ := h
  exact ⟨(hb.cell (World.block_lt_of_cell? w _ h1)).trans h1, c, t, by rw [hb.block _ (lt_of_block h2)]; exact h2⟩
end
section
open Go.RowKit Go.Extern.Stop Go.Stop Go.Extern
def Chain (w : World) (l c : Int) (a : Addr) : List ByteArray → Value → Prop
  | [], v => v = .iface 240 (.pointer (some a))
  | s :: r, v => ∃ b u, v = .iface 83 (.pointer (some ⟨b, 0, none⟩)) ∧ w.heap[b]? = some (.cells #[.string s, .int .i64 l, .int .i64 c, u] 86 (0, 0)) ∧ Chain w l c a r u
theorem Chain.below {w w' : World} {l c : Int} {a : Addr} : ∀ {ls : List ByteArray} {v : Value}, Chain w l c a ls v → Below w.heap.size w w' → Chain w' l c a ls v
  | [], _, h, _ => h
  | s :: r, v, h, hb => by
    obtain ⟨b, u, h1, h2, h3⟩ := h
    exact ⟨b, u, h1, (hb.block b (Array.getElem?_eq_some_iff.1 h2).1).trans h2, Chain.below h3 hb⟩
theorem Chain.iface {w : World} {l c : Int} {a : Addr} {ls : List ByteArray} {v : Value} (h : Chain w l c a ls v) : ∃ T u, v = .iface T u := by
  cases ls with
  | nil => exact ⟨_, _, h⟩
  | cons s r => obtain ⟨b, u, h1, _⟩ := h; exact ⟨_, _, h1⟩
theorem fault_cells {w : World} {b : Nat} {x0 x1 x2 x3 : Value} {t : TypeId} (h : w.heap[b]? = some (.cells #[x0, x1, x2, x3] t (0, 0))) : w.cell? ⟨b, 0, none⟩ = some x0 ∧ w.cell? ⟨b, 1, none⟩ = some x1 ∧ w.cell? ⟨b, 2, none⟩ = some x2 ∧ w.cell? ⟨b, 3, none⟩ = some x3 := by
  simp [World.cell?, h]
set_option maxRecDepth 100000 in
set_option maxHeartbeats 4000000 in
theorem isLow_chain (v : Value) (ls : List ByteArray) (l c : Int) (a b : Addr) (ca cb : Array Value) (ta tb : TypeId) (w : World) (hC : Chain w l c a ls v) (ha : w.heap[a.block]? = some (.cells ca ta (0, 0))) (hb : w.heap[b.block]? = some (.cells cb tb (0, 0))) :
    Calls Tryz.prog 128 #[v, .iface 240 (.pointer (some b)), .bool true] w fun e w' => e = .returned (.bool (decide (a = b))) ∧ w' = w := by
  obtain ⟨i, hi, hcmp⟩ := Option.map_eq_some_iff.1 Tryz.isComp
  obtain ⟨j, hj, hjs⟩ := Option.map_eq_some_iff.1 Tryz.isSize
  have nE := Tryz.noIsE
  have uE := Tryz.noUnwrapE
  have vE := Tryz.noUnwrapsE
  have nW := Tryz.noIsW
  have uW := Tryz.hasUnwrapW
  have mU := Tryz.methodUnwrap
  have heq : (binOp .eql 47 (.iface 240 (.pointer (some a))) (.iface 240 (.pointer (some b)))).run Tryz.prog w = .ok (.bool (decide (a = b))) w := by
    by_cases e : a = b
    · subst e
      rw [run_eql_iface_ptr_same (P := Tryz.prog) w a Tryz.underlying47 Tryz.underlying240 hi hcmp hj]
      simp
    · rw [run_eql_iface_ptr_other (P := Tryz.prog) w Tryz.underlying47 Tryz.underlying240 hi hcmp hj (by rw [hjs]; decide) e ha hb]
      simp [e]
  obtain ⟨d, hd⟩ : ∃ d, d = decide (a = b) := ⟨_, rfl⟩
  rw [← hd] at heq ⊢
  have HC : Hid (Chain w l c a ls v) := hC
  clear hC ha hb hd hi hcmp hj hjs
  go_enter Tryz.func128, Tryz.ntmps128
  go_wp2_with fail
  go_loopg [0] (ls.length + 1) (fun q ev wr => ∃ (r : List ByteArray), q = r.length + 1 ∧ wr = w ∧ Chain w l c a r ev)
  case atStart => exact ⟨ls, rfl, rfl, HC.out⟩
  case round =>
    obtain ⟨r, rfl, rfl, hCr⟩ := hrel
    clear HC
    cases r with
    | nil =>
      have e : u0 = .iface 240 (.pointer (some a)) := hCr
      subst e
      clear hCr
      cases d
      · go_wp2
        go_ret
        exact ⟨rfl, rfl⟩
      · go_wp2
        go_ret
        exact ⟨rfl, rfl⟩
    | cons s r =>
      obtain ⟨pb, u, rfl, hB, hCu⟩ := hCr
      have h1 := (fault_cells hB).2.2.2
      have hty := run_eql_iface_types (P := Tryz.prog) 83 240 (.pointer (some ⟨pb, 0, none⟩)) (.pointer (some b)) Tryz.underlying47 (by decide) wr
      obtain ⟨T, x, rfl⟩ := hCu.iface
      have HU : Hid (Chain wr l c a r (.iface T x)) := hCu
      clear hCu hB heq
      go_wp2
      go_roundg (r.length + 1)
      case measure => simp
      case rel => exact ⟨r, rfl, rfl, HU.out⟩
set_option maxHeartbeats 1000000 in
theorem is_chain (v : Value) (ls : List ByteArray) (l c : Int) (a b : Addr) (ca cb : Array Value) (ta tb : TypeId) (w : World) (hC : Chain w l c a ls v) (ha : w.heap[a.block]? = some (.cells ca ta (0, 0))) (hb : w.heap[b.block]? = some (.cells cb tb (0, 0))) :
    Calls Tryz.prog 90 #[v, .iface 240 (.pointer (some b))] w fun e w' => e = .returned (.bool (decide (a = b))) ∧ w' = w := by
  have h8 := @run_callFunc_extern Tryz.prog 127 _ Extern.ReflectliteType.typeOf Tryz.func127 (by kernel_rfl) (by kernel_rfl) (by kernel_rfl) (by kernel_rfl)
  have h32 := @run_callFunc_extern Tryz.prog 196 _ cmpEntry Tryz.func196 (by kernel_rfl) (by kernel_rfl) (by kernel_rfl) (by kernel_rfl)
  have tT := Tryz.isTypeOf
  have cT := Tryz.isComparable
  have mR := Tryz.isMethodComparable
  have HL : Hid _ := isLow_chain v ls l c a b ca cb ta tb w hC ha hb
  obtain ⟨T, x, rfl⟩ := hC.iface
  clear hC ha hb
  go_enter Tryz.func90, Tryz.ntmps90
  go_wp2_with (go_at_call 128; refine Calls.mono HL.out ?_; rintro e w' ⟨rfl, hw⟩; obtain rfl := hw.symm; clear hw)
  go_ret
  exact ⟨rfl, rfl⟩
end
end Go.Proofs.YtibdgefjpcebkaaGreatDoor
