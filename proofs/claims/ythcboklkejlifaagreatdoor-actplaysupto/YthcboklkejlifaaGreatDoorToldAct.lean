/- Contract of the book's Told at a fault of act; errors.Is at api's errors bare. -/
import Derived.Test.YthcboklkejlifaaGreatDoorPart3
import Derived.Test.YthcboklkejlifaaGreatDoorPart0
import Derived.Deep.QuietTactic
import Derived.BigQuiet
import Derived.WalkSmall
namespace Go.Proofs.YthcboklkejlifaaGreatDoor
open Go.RowKit Go.Extern.Stop Go.Stop Go.Extern
set_option maxHeartbeats 1000000 in
theorem is_bare_same (a : Addr) (w : World) :
    Calls Tryz.prog 85 #[.iface 194 (.pointer (some a)), .iface 194 (.pointer (some a))] w fun e w' => e = .returned (.bool true) ∧ w' = w := by
  obtain ⟨i, hi, hcmp⟩ := Option.map_eq_some_iff.1 Tryz.isComp
  obtain ⟨j, hj, hjs⟩ := Option.map_eq_some_iff.1 Tryz.isSize
  have h8 := @run_callFunc_extern Tryz.prog 128 _ Extern.ReflectliteType.typeOf Tryz.func128 (by kernel_rfl) (by kernel_rfl) (by kernel_rfl) (by kernel_rfl)
  have h32 := @run_callFunc_extern Tryz.prog 167 _ cmpEntry Tryz.func167 (by kernel_rfl) (by kernel_rfl) (by kernel_rfl) (by kernel_rfl)
  have tT := Tryz.isTypeOf
  have cT := Tryz.isComparable
  have mR := Tryz.isMethodComparable
  have nE := Tryz.noIsE
  have uE := Tryz.noUnwrapE
  have vE := Tryz.noUnwrapsE
  have nW := Tryz.noIsW
  have uW := Tryz.hasUnwrapW
  have mU := Tryz.methodUnwrap
  have heq := run_eql_iface_ptr_same (P := Tryz.prog) w a Tryz.underlying40 Tryz.underlying194 hi hcmp hj
  go_enter Tryz.func85, Tryz.ntmps85
  go_wp2
  refine wp_loop_rounds 1 ?_
  rw [rounds_succ]
  go_wp2
  go_ret
  exact ⟨rfl, rfl⟩
set_option maxHeartbeats 1000000 in
theorem is_bare_other (b a : Addr) (ca cb : Array Value) (ta tb : TypeId) (w : World) (hne : a ≠ b) (ha : w.heap[a.block]? = some (.cells ca ta (0, 0))) (hb : w.heap[b.block]? = some (.cells cb tb (0, 0))) :
    Calls Tryz.prog 85 #[.iface 194 (.pointer (some a)), .iface 194 (.pointer (some b))] w fun e w' => e = .returned (.bool false) ∧ w' = w := by
  obtain ⟨i, hi, hcmp⟩ := Option.map_eq_some_iff.1 Tryz.isComp
  obtain ⟨j, hj, hjs⟩ := Option.map_eq_some_iff.1 Tryz.isSize
  have h8 := @run_callFunc_extern Tryz.prog 128 _ Extern.ReflectliteType.typeOf Tryz.func128 (by kernel_rfl) (by kernel_rfl) (by kernel_rfl) (by kernel_rfl)
  have h32 := @run_callFunc_extern Tryz.prog 167 _ cmpEntry Tryz.func167 (by kernel_rfl) (by kernel_rfl) (by kernel_rfl) (by kernel_rfl)
  have tT := Tryz.isTypeOf
  have cT := Tryz.isComparable
  have mR := Tryz.isMethodComparable
  have nE := Tryz.noIsE
  have uE := Tryz.noUnwrapE
  have vE := Tryz.noUnwrapsE
  have nW := Tryz.noIsW
  have uW := Tryz.hasUnwrapW
  have mU := Tryz.methodUnwrap
  have heq := run_eql_iface_ptr_other (P := Tryz.prog) w Tryz.underlying40 Tryz.underlying194 hi hcmp hj (by rw [hjs]; decide) hne ha hb
  go_enter Tryz.func85, Tryz.ntmps85
  go_wp2
  refine wp_loop_rounds 1 ?_
  rw [rounds_succ]
  go_wp2
  go_ret
  exact ⟨rfl, rfl⟩
theorem cast_yes (v : Value) (w : World) : (Instr.typeAssert (.iface 58 v) 40 58 true).run Tryz.prog w = .ok (.tuple #[v, .bool true]) w := by kernel_rfl
theorem cast_no (v : Value) (w : World) : (Instr.typeAssert (.iface 194 v) 40 58 true).run Tryz.prog w = .ok (.tuple #[.pointer none, .bool false]) w := by kernel_rfl
def actB : ByteArray := ⟨#[97, 99, 116, 32]⟩
def errV (a : Addr) : Value := .iface 194 (.pointer (some a))
theorem blk_cell {w : World} {B : Nat} {cs : Array Value} {t : TypeId} (h : w.heap[B]? = some (.cells cs t (0, 0))) (k : Nat) : w.cell? ⟨B, k, none⟩ = cs[k]? := by
  simp [World.cell?, h]
/-- The fault and the document's error lie in memory. -/
def TA (b E : Nat) (k : Int) (a : Addr) (w : World) : Prop :=
  ActFault w b (.iface 194 (.pointer (some a))) ∧ w.heap[E]? = some (.cells #[.int .i64 k, .int .i64 0, .int .i64 0, .string actB] 44 (0, 0))
theorem TA.draws {b E : Nat} {k : Int} {a : Addr} {w : World} (h : TA b E k a w) (n : Nat) : TA b E k a (w.drewN n) := h
theorem TA.cells {b E : Nat} {k : Int} {a : Addr} {w : World} (h : TA b E k a w) :
    w.cell? ⟨b, 0, none⟩ = some (.string ⟨#[97, 99, 116]⟩) ∧ w.cell? ⟨b, 1, none⟩ = some (.int .i64 0) ∧ w.cell? ⟨b, 2, none⟩ = some (.int .i64 0) ∧ w.cell? ⟨b, 3, none⟩ = some (.iface 194 (.pointer (some a))) ∧
    w.cell? ⟨E, 0, none⟩ = some (.int .i64 k) ∧ w.cell? ⟨E, 1, none⟩ = some (.int .i64 0) ∧ w.cell? ⟨E, 2, none⟩ = some (.int .i64 0) ∧ w.cell? ⟨E, 3, none⟩ = some (.string actB) := by
  unfold TA ActFault at h
  refine ⟨?_, ?_, ?_, ?_, ?_, ?_, ?_, ?_⟩
  · rw [blk_cell h.1]; rfl
  · rw [blk_cell h.1]; rfl
  · rw [blk_cell h.1]; rfl
  · rw [blk_cell h.1]; rfl
  · rw [blk_cell h.2]; rfl
  · rw [blk_cell h.2]; rfl
  · rw [blk_cell h.2]; rfl
  · rw [blk_cell h.2]; rfl
set_option maxRecDepth 100000 in
set_option maxHeartbeats 4000000 in
theorem told_act (b : Nat) (k : Int) (a : Addr) (P : World → Prop) (hst : ∀ W W', P W → Below W.heap.size W W' → P W') (hk : k ≠ 0)
    (hcode : ∀ W, P W → W.cell? ⟨b, 3, none⟩ = some (.iface 194 (.pointer (some a))) → Calls Tryz.prog 29 #[.iface 58 (.pointer (some ⟨b, 0, none⟩))] W fun e w' => e = .returned (.int .i64 k) ∧ w' = W)
    (hbare : ∀ W, P W → Calls Tryz.prog 29 #[.iface 194 (.pointer (some a))] W fun e w' => e = .returned (.int .i64 k) ∧ w' = W)
    (w : World) (hP : P w) (hB : ActFault w b (.iface 194 (.pointer (some a)))) :
    Calls Tryz.prog 9 #[.iface 58 (.pointer (some ⟨b, 0, none⟩)), .agg #[.int .i64 k, .int .i64 0, .int .i64 0, .string actB]] w fun e w' => e = .returned (.bool true) ∧ Below w.heap.size w w' := by
  have y := cast_yes
  have n := cast_no
  have zs : (⟨#[]⟩ ++ ⟨#[97, 99, 116]⟩ ++ ⟨#[32]⟩ : ByteArray) = actB := by decide
  have z0 : (k == 0) = false := by simpa using hk
  have z3 : (k != k) = false := by simp
  have z4 : (k == k) = true := by simp
  have hPd : ∀ W m, P W → P (W.drewN m) := fun W m h => hst W _ h (below_drewN (Below.refl _ _) m)
  have HE : Hid (P w ∧ ActFault w b (.iface 194 (.pointer (some a)))) := ⟨hP, hB⟩
  clear hP hB hk
  go_enter Tryz.func9, Tryz.ntmps9
  go_wp2_with fail
  obtain ⟨w1, hw1⟩ : ∃ w1, w1 = w.alloc (.cells #[.int .i64 k, .int .i64 0, .int .i64 0, .string actB] 44) := ⟨_, rfl⟩
  rw [← hw1]
  have Hw1 : Hid (TA b w.heap.size k a w1 ∧ P w1 ∧ Below w.heap.size w w1) := (by
    have hb : Below w.heap.size w w1 := by rw [hw1]; exact (Below.refl _ _).alloc (Nat.le_refl _) _
    exact ⟨⟨(hb.block b (tab_lt HE.out.2)).trans HE.out.2, by rw [hw1]; exact (MapKept.heap_alloc w _).1⟩, hst _ _ HE.out.1 hb, hb⟩ : TA b w.heap.size k a w1 ∧ P w1 ∧ Below w.heap.size w w1)
  clear hw1 HE
  obtain ⟨c0, c1, c2, c3, e0, e1, e2, e3⟩ := Hw1.out.1.cells
  go_quiet ((go_at_call 29; exact Calls.quiet_of_same (hcode _ (hPd _ _ Hw1.out.2.1) (by exact c3))))
  obtain ⟨w2, hw2⟩ : ∃ w2, w2 = w1.drewN nq := ⟨_, rfl⟩
  rw [← hw2]
  have Hw2 : Hid (TA b w.heap.size k a w2 ∧ P w2 ∧ Below w.heap.size w w2) := (by rw [hw2]; exact ⟨Hw1.out.1.draws _, hPd _ _ Hw1.out.2.1, below_drewN Hw1.out.2.2 _⟩ : TA b w.heap.size k a w2 ∧ P w2 ∧ Below w.heap.size w w2)
  clear hw2 c0 c1 c2 c3 e0 e1 e2 e3
  obtain ⟨c0, c1, c2, c3, e0, e1, e2, e3⟩ := Hw2.out.1.cells
  go_wp2_with fail
  refine wp_loop_rounds 2 ?_
  rw [rounds_succ]
  go_wp2_with fail
  go_quiet (fail)
  obtain ⟨w3, hw3⟩ : ∃ w3, w3 = w2.drewN nq := ⟨_, rfl⟩
  rw [← hw3]
  have Hw3 : Hid (TA b w.heap.size k a w3 ∧ P w3 ∧ Below w.heap.size w w3) := (by rw [hw3]; exact ⟨Hw2.out.1.draws _, hPd _ _ Hw2.out.2.1, below_drewN Hw2.out.2.2 _⟩ : TA b w.heap.size k a w3 ∧ P w3 ∧ Below w.heap.size w w3)
  clear hw3 c0 c1 c2 c3 e0 e1 e2 e3
  obtain ⟨c0, c1, c2, c3, e0, e1, e2, e3⟩ := Hw3.out.1.cells
  go_wp2_with fail
  rw [rounds_succ]
  go_wp2_with fail
  go_quiet ((go_at_call 29; exact Calls.quiet_of_same (hbare _ (hPd _ _ Hw3.out.2.1))))
  go_wp2
  go_ret
  exact ⟨rfl, below_drewN Hw3.out.2.2 _⟩
end Go.Proofs.YthcboklkejlifaaGreatDoor
