/- Contract of the book's Told at a fault of lexis that wraps ErrLong or ErrWord, and at no error; and of api.Code at these errors bare. -/
import Derived.Test.YthcboklkejlifaaGreatDoorCode
import Derived.Test.YthcboklkejlifaaGreatDoorScanner
import Derived.Deep.QuietTactic
import Derived.BigQuiet
namespace Go.Proofs.YthcboklkejlifaaGreatDoor
open Go.RowKit Go.Extern.Stop Go.Stop Go.Extern
set_option maxHeartbeats 1000000 in
theorem is_bare_same (a : Addr) (w : World) :
    Calls Tryz.prog 85 #[.iface 194 (.pointer (some a)), .iface 194 (.pointer (some a))] w fun e w' => e = .returned (.bool true) ∧ w' = w := by
  obtain ⟨i, hi, hcmp⟩ := Option.map_eq_some_iff.1 Tryz.isComp
  obtain ⟨j, hj, hjs⟩ := Option.map_eq_some_iff.1 Tryz.isSize
  have h8 := @run_callFunc_extern Tryz.prog 128 _ Extern.ReflectliteType.typeOf Tryz.func128 (by kernel_rfl) (by kernel_rfl) (by kernel_rfl) (by kernel_rfl)
  have h32 := @run_callFunc_extern Tryz.prog 167 _ cmpEntry Tryz.func167 (by kernel_rfl) (by kernel_rfl) (by kernel_rfl) (by kernel_rfl)
  have tT := Tryz.isTypeOf
  have cT := Tryz.isComparable
  have mR := Tryz.isMethodComparable
  have nE := Tryz.noIsE
  have uE := Tryz.noUnwrapE
  have vE := Tryz.noUnwrapsE
  have nW := Tryz.noIsW
  have uW := Tryz.hasUnwrapW
  have mU := Tryz.methodUnwrap
  have heq := run_eql_iface_ptr_same (P := Tryz.prog) w a Tryz.underlying40 Tryz.underlying194 hi hcmp hj
  go_enter Tryz.func85, Tryz.ntmps85
  go_wp2
  refine wp_loop_rounds 1 ?_
  rw [rounds_succ]
  go_wp2
  go_ret
  exact ⟨rfl, rfl⟩
set_option maxHeartbeats 1000000 in
theorem is_bare_other (b a : Addr) (ca cb : Array Value) (ta tb : TypeId) (w : World) (hne : a ≠ b) (ha : w.heap[a.block]? = some (.cells ca ta (0, 0))) (hb : w.heap[b.block]? = some (.cells cb tb (0, 0))) :
    Calls Tryz.prog 85 #[.iface 194 (.pointer (some a)), .iface 194 (.pointer (some b))] w fun e w' => e = .returned (.bool false) ∧ w' = w := by
  obtain ⟨i, hi, hcmp⟩ := Option.map_eq_some_iff.1 Tryz.isComp
  obtain ⟨j, hj, hjs⟩ := Option.map_eq_some_iff.1 Tryz.isSize
  have h8 := @run_callFunc_extern Tryz.prog 128 _ Extern.ReflectliteType.typeOf Tryz.func128 (by kernel_rfl) (by kernel_rfl) (by kernel_rfl) (by kernel_rfl)
  have h32 := @run_callFunc_extern Tryz.prog 167 _ cmpEntry Tryz.func167 (by kernel_rfl) (by kernel_rfl) (by kernel_rfl) (by kernel_rfl)
  have tT := Tryz.isTypeOf
  have cT := Tryz.isComparable
  have mR := Tryz.isMethodComparable
  have nE := Tryz.noIsE
  have uE := Tryz.noUnwrapE
  have vE := Tryz.noUnwrapsE
  have nW := Tryz.noIsW
  have uW := Tryz.hasUnwrapW
  have mU := Tryz.methodUnwrap
  have heq := run_eql_iface_ptr_other (P := Tryz.prog) w Tryz.underlying40 Tryz.underlying194 hi hcmp hj (by rw [hjs]; decide) hne ha hb
  go_enter Tryz.func85, Tryz.ntmps85
  go_wp2
  refine wp_loop_rounds 1 ?_
  rw [rounds_succ]
  go_wp2
  go_ret
  exact ⟨rfl, rfl⟩
set_option maxHeartbeats 1000000 in
theorem bare_long (aA aL aI aW : Addr) (w : World) (hE : Errs w aA aL aI aW) :
    Calls Tryz.prog 29 #[.iface 194 (.pointer (some aL))] w fun e w' => e = .returned (.int .i64 2) ∧ w' = w := by
  obtain ⟨⟨gA, cA, tA, bA⟩, ⟨gL, cL, tL, bL⟩, _, _, n1, _, _, _⟩ := hE
  go_enter Tryz.func29, Tryz.ntmps29
  go_wp2_with fail
  refine (is_bare_other aA aL cL cA tL tA _ n1 bL bA).mono ?_
  rintro e w' ⟨rfl, rfl⟩
  go_wp2_with fail
  refine (is_bare_same aL _).mono ?_
  rintro e w' ⟨rfl, rfl⟩
  go_wp2_with fail
  go_ret
  exact ⟨rfl, rfl⟩
set_option maxHeartbeats 1000000 in
theorem bare_word (aA aL aI aW : Addr) (w : World) (hE : Errs w aA aL aI aW) :
    Calls Tryz.prog 29 #[.iface 194 (.pointer (some aW))] w fun e w' => e = .returned (.int .i64 4) ∧ w' = w := by
  obtain ⟨⟨gA, cA, tA, bA⟩, ⟨gL, cL, tL, bL⟩, ⟨gI, cI, tI, bI⟩, ⟨gW, cW, tW, bW⟩, _, n1, n2, n3⟩ := hE
  go_enter Tryz.func29, Tryz.ntmps29
  go_wp2_with fail
  refine (is_bare_other aA aW cW cA tW tA _ n1 bW bA).mono ?_
  rintro e w' ⟨rfl, rfl⟩
  go_wp2_with fail
  refine (is_bare_other aL aW cW cL tW tL _ n2 bW bL).mono ?_
  rintro e w' ⟨rfl, rfl⟩
  go_wp2_with fail
  refine (is_bare_other aI aW cW cI tW tI _ n3 bW bI).mono ?_
  rintro e w' ⟨rfl, rfl⟩
  go_wp2_with fail
  refine (is_bare_same aW _).mono ?_
  rintro e w' ⟨rfl, rfl⟩
  go_wp2_with fail
  go_ret
  exact ⟨rfl, rfl⟩
theorem cast_yes (v : Value) (w : World) : (Instr.typeAssert (.iface 58 v) 40 58 true).run Tryz.prog w = .ok (.tuple #[v, .bool true]) w := by kernel_rfl
theorem cast_no (v : Value) (w : World) : (Instr.typeAssert (.iface 194 v) 40 58 true).run Tryz.prog w = .ok (.tuple #[.pointer none, .bool false]) w := by kernel_rfl
set_option maxHeartbeats 1000000 in
theorem told_nil (l c : Int) (x : ByteArray) (w : World) :
    Calls Tryz.prog 9 #[.nilIface, .agg #[.int .i64 0, .int .i64 l, .int .i64 c, .string x]] w fun e w' => e = .returned (.bool true) ∧ Below w.heap.size w w' := by
  go_enter Tryz.func9, Tryz.ntmps9
  go_wp2
  go_ret
  exact ⟨rfl, (Below.refl _ _).alloc (Nat.le_refl _) _⟩
def lexisB : ByteArray := ⟨#[108, 101, 120, 105, 115, 32]⟩
/-- The fault and the document's error lie in memory, beside api's errors. -/
def TB (b E l c : Nat) (k : Int) (a aA aL aI aW : Addr) (w : World) : Prop :=
  w.heap[b]? = some (.cells #[.string ⟨#[108, 101, 120, 105, 115]⟩, .int .i64 l, .int .i64 c, .iface 194 (.pointer (some a))] 60 (0, 0)) ∧ w.heap[E]? = some (.cells #[.int .i64 k, .int .i64 l, .int .i64 c, .string lexisB] 44 (0, 0)) ∧ Errs w aA aL aI aW
theorem TB.draws {b E l c : Nat} {k : Int} {a aA aL aI aW : Addr} {w : World} (h : TB b E l c k a aA aL aI aW w) (n : Nat) : TB b E l c k a aA aL aI aW (w.drewN n) :=
  ⟨h.1, h.2.1, h.2.2.below (below_drewN (Below.refl _ _) n)⟩
theorem TB.cells {b E l c : Nat} {k : Int} {a aA aL aI aW : Addr} {w : World} (h : TB b E l c k a aA aL aI aW w) :
    w.cell? ⟨b, 0, none⟩ = some (.string ⟨#[108, 101, 120, 105, 115]⟩) ∧ w.cell? ⟨b, 1, none⟩ = some (.int .i64 l) ∧ w.cell? ⟨b, 2, none⟩ = some (.int .i64 c) ∧ w.cell? ⟨b, 3, none⟩ = some (.iface 194 (.pointer (some a))) ∧
    w.cell? ⟨E, 0, none⟩ = some (.int .i64 k) ∧ w.cell? ⟨E, 1, none⟩ = some (.int .i64 l) ∧ w.cell? ⟨E, 2, none⟩ = some (.int .i64 c) ∧ w.cell? ⟨E, 3, none⟩ = some (.string lexisB) := by
  refine ⟨?_, ?_, ?_, ?_, ?_, ?_, ?_, ?_⟩
  · rw [cell_of_block h.1]; rfl
  · rw [cell_of_block h.1]; rfl
  · rw [cell_of_block h.1]; rfl
  · rw [cell_of_block h.1]; rfl
  · rw [cell_of_block h.2.1]; rfl
  · rw [cell_of_block h.2.1]; rfl
  · rw [cell_of_block h.2.1]; rfl
  · rw [cell_of_block h.2.1]; rfl
set_option maxRecDepth 100000 in
set_option maxHeartbeats 4000000 in
theorem told_long (b l c : Nat) (aA aL aI aW : Addr) (w : World) (hE : Errs w aA aL aI aW) (hB : w.heap[b]? = some (.cells #[.string ⟨#[108, 101, 120, 105, 115]⟩, .int .i64 l, .int .i64 c, .iface 194 (.pointer (some aL))] 60 (0, 0))) :
    Calls Tryz.prog 9 #[.iface 58 (.pointer (some ⟨b, 0, none⟩)), .agg #[.int .i64 2, .int .i64 l, .int .i64 c, .string lexisB]] w fun e w' => e = .returned (.bool true) ∧ Below w.heap.size w w' := by
  have y := cast_yes
  have n := cast_no
  have zs : (⟨#[]⟩ ++ ⟨#[108, 101, 120, 105, 115]⟩ ++ ⟨#[32]⟩ : ByteArray) = lexisB := by decide
  have z1 : ((l : Int) != (l : Int)) = false := by simp
  have z2 : ((c : Int) != (c : Int)) = false := by simp
  have z3 : ((2 : Int) != 2) = false := by simp
  have z4 : ((2 : Int) == 2) = true := by simp
  have HE : Hid (Errs w aA aL aI aW ∧ w.heap[b]? = some (.cells #[.string ⟨#[108, 101, 120, 105, 115]⟩, .int .i64 l, .int .i64 c, .iface 194 (.pointer (some aL))] 60 (0, 0))) := ⟨hE, hB⟩
  clear hE hB
  go_enter Tryz.func9, Tryz.ntmps9
  go_wp2_with fail
  obtain ⟨k, hk⟩ : ∃ k : Int, k = 2 := ⟨_, rfl⟩
  obtain ⟨E, hEE⟩ : ∃ E, E = w.heap.size := ⟨_, rfl⟩
  obtain ⟨w1, hw1⟩ : ∃ w1, w1 = w.alloc (.cells #[.int .i64 2, .int .i64 l, .int .i64 c, .string lexisB] 44) := ⟨_, rfl⟩
  rw [← hw1]
  have Hw1 : Hid (TB b w.heap.size l c 2 aL aA aL aI aW w1 ∧ Below w.heap.size w w1) := (by
    have hb : Below w.heap.size w w1 := by rw [hw1]; exact (Below.refl _ _).alloc (Nat.le_refl _) _
    exact ⟨⟨by rw [hb.block b (lt_of_block HE.out.2)]; exact HE.out.2, by rw [hw1]; exact heap_alloc_new w _, HE.out.1.below hb⟩, hb⟩ : TB b w.heap.size l c 2 aL aA aL aI aW w1 ∧ Below w.heap.size w w1)
  clear hw1 HE hk hEE
  obtain ⟨c0, c1, c2, c3, e0, e1, e2, e3⟩ := Hw1.out.1.cells
  go_quiet ((go_at_call 29; exact Calls.quiet_of_same (code_long b aA aL aI aW _ (Hw1.out.1.draws _).2.2 (by exact c3))))
  obtain ⟨w2, hw2⟩ : ∃ w2, w2 = w1.drewN nq := ⟨_, rfl⟩
  rw [← hw2]
  have Hw2 : Hid (TB b w.heap.size l c 2 aL aA aL aI aW w2 ∧ Below w.heap.size w w2) := (by rw [hw2]; exact ⟨Hw1.out.1.draws _, below_drewN Hw1.out.2 _⟩ : TB b w.heap.size l c 2 aL aA aL aI aW w2 ∧ Below w.heap.size w w2)
  clear hw2 c0 c1 c2 c3 e0 e1 e2 e3
  obtain ⟨c0, c1, c2, c3, e0, e1, e2, e3⟩ := Hw2.out.1.cells
  go_wp2_with fail
  refine wp_loop_rounds 2 ?_
  rw [rounds_succ]
  go_wp2_with fail
  go_quiet (fail)
  obtain ⟨w3, hw3⟩ : ∃ w3, w3 = w2.drewN nq := ⟨_, rfl⟩
  rw [← hw3]
  have Hw3 : Hid (TB b w.heap.size l c 2 aL aA aL aI aW w3 ∧ Below w.heap.size w w3) := (by rw [hw3]; exact ⟨Hw2.out.1.draws _, below_drewN Hw2.out.2 _⟩ : TB b w.heap.size l c 2 aL aA aL aI aW w3 ∧ Below w.heap.size w w3)
  clear hw3 c0 c1 c2 c3 e0 e1 e2 e3
  obtain ⟨c0, c1, c2, c3, e0, e1, e2, e3⟩ := Hw3.out.1.cells
  go_wp2_with fail
  rw [rounds_succ]
  go_wp2_with fail
  go_quiet ((go_at_call 29; exact Calls.quiet_of_same (bare_long aA aL aI aW _ (Hw3.out.1.draws _).2.2)))
  go_wp2
  go_ret
  exact ⟨rfl, below_drewN Hw3.out.2 _⟩
set_option maxRecDepth 100000 in
set_option maxHeartbeats 4000000 in
theorem told_word (b l c : Nat) (aA aL aI aW : Addr) (w : World) (hE : Errs w aA aL aI aW) (hB : w.heap[b]? = some (.cells #[.string ⟨#[108, 101, 120, 105, 115]⟩, .int .i64 l, .int .i64 c, .iface 194 (.pointer (some aW))] 60 (0, 0))) :
    Calls Tryz.prog 9 #[.iface 58 (.pointer (some ⟨b, 0, none⟩)), .agg #[.int .i64 4, .int .i64 l, .int .i64 c, .string lexisB]] w fun e w' => e = .returned (.bool true) ∧ Below w.heap.size w w' := by
  have y := cast_yes
  have n := cast_no
  have zs : (⟨#[]⟩ ++ ⟨#[108, 101, 120, 105, 115]⟩ ++ ⟨#[32]⟩ : ByteArray) = lexisB := by decide
  have z1 : ((l : Int) != (l : Int)) = false := by simp
  have z2 : ((c : Int) != (c : Int)) = false := by simp
  have z3 : ((4 : Int) != 4) = false := by simp
  have z4 : ((4 : Int) == 4) = true := by simp
  have HE : Hid (Errs w aA aL aI aW ∧ w.heap[b]? = some (.cells #[.string ⟨#[108, 101, 120, 105, 115]⟩, .int .i64 l, .int .i64 c, .iface 194 (.pointer (some aW))] 60 (0, 0))) := ⟨hE, hB⟩
  clear hE hB
  go_enter Tryz.func9, Tryz.ntmps9
  go_wp2_with fail
  obtain ⟨k, hk⟩ : ∃ k : Int, k = 4 := ⟨_, rfl⟩
  obtain ⟨E, hEE⟩ : ∃ E, E = w.heap.size := ⟨_, rfl⟩
  obtain ⟨w1, hw1⟩ : ∃ w1, w1 = w.alloc (.cells #[.int .i64 4, .int .i64 l, .int .i64 c, .string lexisB] 44) := ⟨_, rfl⟩
  rw [← hw1]
  have Hw1 : Hid (TB b w.heap.size l c 4 aW aA aL aI aW w1 ∧ Below w.heap.size w w1) := (by
    have hb : Below w.heap.size w w1 := by rw [hw1]; exact (Below.refl _ _).alloc (Nat.le_refl _) _
    exact ⟨⟨by rw [hb.block b (lt_of_block HE.out.2)]; exact HE.out.2, by rw [hw1]; exact heap_alloc_new w _, HE.out.1.below hb⟩, hb⟩ : TB b w.heap.size l c 4 aW aA aL aI aW w1 ∧ Below w.heap.size w w1)
  clear hw1 HE hk hEE
  obtain ⟨c0, c1, c2, c3, e0, e1, e2, e3⟩ := Hw1.out.1.cells
  go_quiet ((go_at_call 29; exact Calls.quiet_of_same (code_word b aA aL aI aW _ (Hw1.out.1.draws _).2.2 (by exact c3))))
  obtain ⟨w2, hw2⟩ : ∃ w2, w2 = w1.drewN nq := ⟨_, rfl⟩
  rw [← hw2]
  have Hw2 : Hid (TB b w.heap.size l c 4 aW aA aL aI aW w2 ∧ Below w.heap.size w w2) := (by rw [hw2]; exact ⟨Hw1.out.1.draws _, below_drewN Hw1.out.2 _⟩ : TB b w.heap.size l c 4 aW aA aL aI aW w2 ∧ Below w.heap.size w w2)
  clear hw2 c0 c1 c2 c3 e0 e1 e2 e3
  obtain ⟨c0, c1, c2, c3, e0, e1, e2, e3⟩ := Hw2.out.1.cells
  go_wp2_with fail
  refine wp_loop_rounds 2 ?_
  rw [rounds_succ]
  go_wp2_with fail
  go_quiet (fail)
  obtain ⟨w3, hw3⟩ : ∃ w3, w3 = w2.drewN nq := ⟨_, rfl⟩
  rw [← hw3]
  have Hw3 : Hid (TB b w.heap.size l c 4 aW aA aL aI aW w3 ∧ Below w.heap.size w w3) := (by rw [hw3]; exact ⟨Hw2.out.1.draws _, below_drewN Hw2.out.2 _⟩ : TB b w.heap.size l c 4 aW aA aL aI aW w3 ∧ Below w.heap.size w w3)
  clear hw3 c0 c1 c2 c3 e0 e1 e2 e3
  obtain ⟨c0, c1, c2, c3, e0, e1, e2, e3⟩ := Hw3.out.1.cells
  go_wp2_with fail
  rw [rounds_succ]
  go_wp2_with fail
  go_quiet ((go_at_call 29; exact Calls.quiet_of_same (bare_word aA aL aI aW _ (Hw3.out.1.draws _).2.2)))
  go_wp2
  go_ret
  exact ⟨rfl, below_drewN Hw3.out.2 _⟩
end Go.Proofs.YthcboklkejlifaaGreatDoor
