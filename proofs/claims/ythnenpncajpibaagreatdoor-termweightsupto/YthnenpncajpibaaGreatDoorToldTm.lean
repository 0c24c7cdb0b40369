/- Contract of the book's Told at a fault of term; told of chapter 3; api.Code at ErrArg and ErrIndex, wrapped and bare. -/
import Derived.Test.YthnenpncajpibaaGreatDoorTmSameT
import Derived.Deep.QuietTactic
import Derived.BigQuiet
import Derived.WalkSmall
namespace Go.Proofs.YthnenpncajpibaaGreatDoor
open Go.RowKit Go.Extern.Stop Go.Stop Go.Extern
set_option maxHeartbeats 1000000 in
theorem is_bare_same (a : Addr) (w : World) :
    Calls Tryz.prog 126 #[.iface 201 (.pointer (some a)), .iface 201 (.pointer (some a))] w fun e w' => e = .returned (.bool true) ∧ w' = w := by
  obtain ⟨i, hi, hcmp⟩ := Option.map_eq_some_iff.1 Tryz.isComp
  obtain ⟨j, hj, hjs⟩ := Option.map_eq_some_iff.1 Tryz.isSize
  have h8 := @run_callFunc_extern Tryz.prog 135 _ Extern.ReflectliteType.typeOf Tryz.func135 (by kernel_rfl) (by kernel_rfl) (by kernel_rfl) (by kernel_rfl)
  have h32 := @run_callFunc_extern Tryz.prog 159 _ cmpEntry Tryz.func159 (by kernel_rfl) (by kernel_rfl) (by kernel_rfl) (by kernel_rfl)
  have tT := Tryz.isTypeOf
  have cT := Tryz.isComparable
  have mR := Tryz.isMethodComparable
  have nE := Tryz.noIsE
  have uE := Tryz.noUnwrapE
  have vE := Tryz.noUnwrapsE
  have nW := Tryz.noIsW
  have uW := Tryz.hasUnwrapW
  have mU := Tryz.methodUnwrap
  have heq := run_eql_iface_ptr_same (P := Tryz.prog) w a Tryz.underlying51 Tryz.underlying201 hi hcmp hj
  go_enter Tryz.func126, Tryz.ntmps126
  go_wp2
  refine wp_loop_rounds 1 ?_
  rw [rounds_succ]
  go_wp2
  go_ret
  exact ⟨rfl, rfl⟩
set_option maxHeartbeats 1000000 in
theorem is_bare_other (b a : Addr) (ca cb : Array Value) (ta tb : TypeId) (w : World) (hne : a ≠ b) (ha : w.heap[a.block]? = some (.cells ca ta (0, 0))) (hb : w.heap[b.block]? = some (.cells cb tb (0, 0))) :
    Calls Tryz.prog 126 #[.iface 201 (.pointer (some a)), .iface 201 (.pointer (some b))] w fun e w' => e = .returned (.bool false) ∧ w' = w := by
  obtain ⟨i, hi, hcmp⟩ := Option.map_eq_some_iff.1 Tryz.isComp
  obtain ⟨j, hj, hjs⟩ := Option.map_eq_some_iff.1 Tryz.isSize
  have h8 := @run_callFunc_extern Tryz.prog 135 _ Extern.ReflectliteType.typeOf Tryz.func135 (by kernel_rfl) (by kernel_rfl) (by kernel_rfl) (by kernel_rfl)
  have h32 := @run_callFunc_extern Tryz.prog 159 _ cmpEntry Tryz.func159 (by kernel_rfl) (by kernel_rfl) (by kernel_rfl) (by kernel_rfl)
  have tT := Tryz.isTypeOf
  have cT := Tryz.isComparable
  have mR := Tryz.isMethodComparable
  have nE := Tryz.noIsE
  have uE := Tryz.noUnwrapE
  have vE := Tryz.noUnwrapsE
  have nW := Tryz.noIsW
  have uW := Tryz.hasUnwrapW
  have mU := Tryz.methodUnwrap
  have heq := run_eql_iface_ptr_other (P := Tryz.prog) w Tryz.underlying51 Tryz.underlying201 hi hcmp hj (by rw [hjs]; decide) hne ha hb
  go_enter Tryz.func126, Tryz.ntmps126
  go_wp2
  refine wp_loop_rounds 1 ?_
  rw [rounds_succ]
  go_wp2
  go_ret
  exact ⟨rfl, rfl⟩
theorem cast_yes (v : Value) (w : World) : (Instr.typeAssert (.iface 124 v) 51 124 true).run Tryz.prog w = .ok (.tuple #[v, .bool true]) w := by kernel_rfl
theorem cast_no (v : Value) (w : World) : (Instr.typeAssert (.iface 201 v) 51 124 true).run Tryz.prog w = .ok (.tuple #[.pointer none, .bool false]) w := by kernel_rfl
def termB : ByteArray := ⟨#[116, 101, 114, 109, 32]⟩
def errV (a : Addr) : Value := .iface 201 (.pointer (some a))
theorem blk_cell {w : World} {B : Nat} {cs : Array Value} {t : TypeId} (h : w.heap[B]? = some (.cells cs t (0, 0))) (k : Nat) : w.cell? ⟨B, k, none⟩ = cs[k]? := by
  simp [World.cell?, h]
/-- The fault and the document's error lie in memory. -/
def TT (b E : Nat) (k : Int) (a : Addr) (w : World) : Prop :=
  TermFault w b (.iface 201 (.pointer (some a))) ∧ w.heap[E]? = some (.cells #[.int .i64 k, .int .i64 0, .int .i64 0, .string termB] 81 (0, 0))
theorem TT.draws {b E : Nat} {k : Int} {a : Addr} {w : World} (h : TT b E k a w) (n : Nat) : TT b E k a (w.drewN n) := h
theorem TT.cells {b E : Nat} {k : Int} {a : Addr} {w : World} (h : TT b E k a w) :
    w.cell? ⟨b, 0, none⟩ = some (.string ⟨#[116, 101, 114, 109]⟩) ∧ w.cell? ⟨b, 1, none⟩ = some (.int .i64 0) ∧ w.cell? ⟨b, 2, none⟩ = some (.int .i64 0) ∧ w.cell? ⟨b, 3, none⟩ = some (.iface 201 (.pointer (some a))) ∧
    w.cell? ⟨E, 0, none⟩ = some (.int .i64 k) ∧ w.cell? ⟨E, 1, none⟩ = some (.int .i64 0) ∧ w.cell? ⟨E, 2, none⟩ = some (.int .i64 0) ∧ w.cell? ⟨E, 3, none⟩ = some (.string termB) := by
  unfold TT TermFault at h
  refine ⟨?_, ?_, ?_, ?_, ?_, ?_, ?_, ?_⟩
  · rw [blk_cell h.1]; rfl
  · rw [blk_cell h.1]; rfl
  · rw [blk_cell h.1]; rfl
  · rw [blk_cell h.1]; rfl
  · rw [blk_cell h.2]; rfl
  · rw [blk_cell h.2]; rfl
  · rw [blk_cell h.2]; rfl
  · rw [blk_cell h.2]; rfl
set_option maxRecDepth 100000 in
set_option maxHeartbeats 4000000 in
theorem told_tm (b : Nat) (k : Int) (a : Addr) (P : World → Prop) (hst : ∀ W W', P W → Below W.heap.size W W' → P W') (hk : k ≠ 0)
    (hcode : ∀ W, P W → W.cell? ⟨b, 3, none⟩ = some (.iface 201 (.pointer (some a))) → Calls Tryz.prog 89 #[.iface 124 (.pointer (some ⟨b, 0, none⟩))] W fun e w' => e = .returned (.int .i64 k) ∧ w' = W)
    (hbare : ∀ W, P W → Calls Tryz.prog 89 #[.iface 201 (.pointer (some a))] W fun e w' => e = .returned (.int .i64 k) ∧ w' = W)
    (w : World) (hP : P w) (hB : TermFault w b (.iface 201 (.pointer (some a)))) :
    Calls Tryz.prog 30 #[.iface 124 (.pointer (some ⟨b, 0, none⟩)), .agg #[.int .i64 k, .int .i64 0, .int .i64 0, .string termB]] w fun e w' => e = .returned (.bool true) ∧ Below w.heap.size w w' := by
  have y := cast_yes
  have n := cast_no
  have zs : (⟨#[]⟩ ++ ⟨#[116, 101, 114, 109]⟩ ++ ⟨#[32]⟩ : ByteArray) = termB := by decide
  have z0 : (k == 0) = false := by simpa using hk
  have z3 : (k != k) = false := by simp
  have z4 : (k == k) = true := by simp
  have hPd : ∀ W m, P W → P (W.drewN m) := fun W m h => hst W _ h (below_drewN (Below.refl _ _) m)
  have HE : Hid (P w ∧ TermFault w b (.iface 201 (.pointer (some a)))) := ⟨hP, hB⟩
  clear hP hB hk
  go_enter Tryz.func30, Tryz.ntmps30
  go_wp2_with fail
  obtain ⟨w1, hw1⟩ : ∃ w1, w1 = w.alloc (.cells #[.int .i64 k, .int .i64 0, .int .i64 0, .string termB] 81) := ⟨_, rfl⟩
  rw [← hw1]
  have Hw1 : Hid (TT b w.heap.size k a w1 ∧ P w1 ∧ Below w.heap.size w w1) := (by
    have hb : Below w.heap.size w w1 := by rw [hw1]; exact (Below.refl _ _).alloc (Nat.le_refl _) _
    exact ⟨⟨(hb.block b (t_lt HE.out.2)).trans HE.out.2, by rw [hw1]; exact (MapKept.heap_alloc w _).1⟩, hst _ _ HE.out.1 hb, hb⟩ : TT b w.heap.size k a w1 ∧ P w1 ∧ Below w.heap.size w w1)
  clear hw1 HE
  obtain ⟨c0, c1, c2, c3, e0, e1, e2, e3⟩ := Hw1.out.1.cells
  go_quiet ((go_at_call 89; exact Calls.quiet_of_same (hcode _ (hPd _ _ Hw1.out.2.1) (by exact c3))))
  obtain ⟨w2, hw2⟩ : ∃ w2, w2 = w1.drewN nq := ⟨_, rfl⟩
  rw [← hw2]
  have Hw2 : Hid (TT b w.heap.size k a w2 ∧ P w2 ∧ Below w.heap.size w w2) := (by rw [hw2]; exact ⟨Hw1.out.1.draws _, hPd _ _ Hw1.out.2.1, below_drewN Hw1.out.2.2 _⟩ : TT b w.heap.size k a w2 ∧ P w2 ∧ Below w.heap.size w w2)
  clear hw2 c0 c1 c2 c3 e0 e1 e2 e3
  obtain ⟨c0, c1, c2, c3, e0, e1, e2, e3⟩ := Hw2.out.1.cells
  go_wp2_with fail
  refine wp_loop_rounds 2 ?_
  rw [rounds_succ]
  go_wp2_with fail
  go_quiet (fail)
  obtain ⟨w3, hw3⟩ : ∃ w3, w3 = w2.drewN nq := ⟨_, rfl⟩
  rw [← hw3]
  have Hw3 : Hid (TT b w.heap.size k a w3 ∧ P w3 ∧ Below w.heap.size w w3) := (by rw [hw3]; exact ⟨Hw2.out.1.draws _, hPd _ _ Hw2.out.2.1, below_drewN Hw2.out.2.2 _⟩ : TT b w.heap.size k a w3 ∧ P w3 ∧ Below w.heap.size w w3)
  clear hw3 c0 c1 c2 c3 e0 e1 e2 e3
  obtain ⟨c0, c1, c2, c3, e0, e1, e2, e3⟩ := Hw3.out.1.cells
  go_wp2_with fail
  rw [rounds_succ]
  go_wp2_with fail
  go_quiet ((go_at_call 89; exact Calls.quiet_of_same (hbare _ (hPd _ _ Hw3.out.2.1))))
  go_wp2
  go_ret
  exact ⟨rfl, below_drewN Hw3.out.2.2 _⟩
/-- The errors that a fault of term is held against. -/
structure ErrT (w : World) (aA aI aL : Addr) : Prop where
  a : Sent w 0 aA
  i : Sent w 1 aI
  l : Sent w 2 aL
  ia : aI ≠ aA
  il : aI ≠ aL
theorem ErrT.below {w w' : World} {aA aI aL : Addr} (h : ErrT w aA aI aL) (hb : Below w.heap.size w w') : ErrT w' aA aI aL := ⟨h.a.below hb, h.i.below hb, h.l.below hb, h.ia, h.il⟩
set_option maxHeartbeats 1000000 in
theorem bare_arg3 (aA : Addr) (w : World) (hE : w.cell? ⟨0, 0, none⟩ = some (.iface 201 (.pointer (some aA)))) :
    Calls Tryz.prog 89 #[.iface 201 (.pointer (some aA))] w fun e w' => e = .returned (.int .i64 1) ∧ w' = w := by
  go_enter Tryz.func89, Tryz.ntmps89
  go_wp2_with fail
  refine (is_bare_same aA _).mono ?_
  rintro e w' ⟨rfl, rfl⟩
  go_wp2_with fail
  go_ret
  exact ⟨rfl, rfl⟩
set_option maxHeartbeats 1000000 in
theorem code_index3 (pb : Nat) (aA aI aL : Addr) (w : World) (hE : ErrT w aA aI aL) (h1 : w.cell? ⟨pb, 3, none⟩ = some (.iface 201 (.pointer (some aI)))) :
    Calls Tryz.prog 89 #[.iface 124 (.pointer (some ⟨pb, 0, none⟩))] w fun e w' => e = .returned (.int .i64 3) ∧ w' = w := by
  obtain ⟨⟨gA, cA, tA, bA⟩, ⟨gI, cI, tI, bI⟩, ⟨gL, cL, tL, bL⟩, n1, n2⟩ := hE
  go_enter Tryz.func89, Tryz.ntmps89
  go_wp2_with fail
  refine (is_fault_other pb aA aI cI cA tI tA _ h1 n1 bI bA).mono ?_
  rintro e w' ⟨rfl, rfl⟩
  go_wp2_with fail
  refine (is_fault_other pb aL aI cI cL tI tL _ h1 n2 bI bL).mono ?_
  rintro e w' ⟨rfl, rfl⟩
  go_wp2_with fail
  refine (is_fault_same pb aI _ h1).mono ?_
  rintro e w' ⟨rfl, rfl⟩
  go_wp2_with fail
  go_ret
  exact ⟨rfl, rfl⟩
set_option maxHeartbeats 1000000 in
theorem bare_index3 (aA aI aL : Addr) (w : World) (hE : ErrT w aA aI aL) :
    Calls Tryz.prog 89 #[.iface 201 (.pointer (some aI))] w fun e w' => e = .returned (.int .i64 3) ∧ w' = w := by
  obtain ⟨⟨gA, cA, tA, bA⟩, ⟨gI, cI, tI, bI⟩, ⟨gL, cL, tL, bL⟩, n1, n2⟩ := hE
  go_enter Tryz.func89, Tryz.ntmps89
  go_wp2_with fail
  refine (is_bare_other aA aI cI cA tI tA _ n1 bI bA).mono ?_
  rintro e w' ⟨rfl, rfl⟩
  go_wp2_with fail
  refine (is_bare_other aL aI cI cL tI tL _ n2 bI bL).mono ?_
  rintro e w' ⟨rfl, rfl⟩
  go_wp2_with fail
  refine (is_bare_same aI _).mono ?_
  rintro e w' ⟨rfl, rfl⟩
  go_wp2_with fail
  go_ret
  exact ⟨rfl, rfl⟩
set_option maxHeartbeats 1000000 in
theorem bad_tm (k : Int) (w : World) : Calls Tryz.prog 31 #[.string ⟨#[116, 101, 114, 109]⟩, .int .i64 k] w fun e w' => e = .returned (.agg #[.int .i64 k, .int .i64 0, .int .i64 0, .string termB]) ∧ Below w.heap.size w w' := by
  have zs : (⟨#[116, 101, 114, 109]⟩ ++ ⟨#[32]⟩ : ByteArray) = termB := by decide
  go_enter Tryz.func31, Tryz.ntmps31
  go_wp2
  exact bodyPost_ret (v := .agg #[.int .i64 k, .int .i64 0, .int .i64 0, .string termB]) (by simp [results, Tryz.results31, go_sem]) rfl ⟨rfl, (Below.refl _ _).alloc (Nat.le_refl _) _⟩
set_option maxRecDepth 100000 in
theorem told3_arg (b : Nat) (aA : Addr) (w : World) (hE : Sent w 0 aA) (hF : TermFault w b (errV aA)) :
    Calls Tryz.prog 12 #[tFaultV b, .int .i64 1] w fun e w' => e = .returned (.bool true) ∧ Below w.heap.size w w' := by
  unfold tFaultV
  have HE : Hid _ := And.intro hE hF
  clear hE hF
  go_enter Tryz.func12, Tryz.ntmps12
  go_wp2_with fail
  refine (bad_tm 1 w).mono ?_
  rintro r w1 ⟨rfl, hb1⟩
  have hT := told_tm b 1 aA (fun W => Sent W 0 aA) (fun W W' h hb => h.below hb) (by decide) (fun W h h3 => code_arg3 b aA W h.1 h3) (fun W h => bare_arg3 aA W h.1) w1 (HE.out.1.below hb1) ((hb1.block _ (t_lt HE.out.2)).trans HE.out.2)
  have HT : Hid _ := And.intro hT hb1
  clear hT hb1
  go_wp2_with fail
  refine HT.out.1.mono ?_
  rintro r w2 ⟨rfl, hb2⟩
  have HB : Hid _ := HT.out.2.trans (hb2.mono HT.out.2.size)
  clear hb2
  go_wp2_with fail
  go_ret
  exact ⟨rfl, HB.out⟩
set_option maxRecDepth 100000 in
theorem told3_index (b : Nat) (aA aI aL : Addr) (w : World) (hE : ErrT w aA aI aL) (hF : TermFault w b (errV aI)) :
    Calls Tryz.prog 12 #[tFaultV b, .int .i64 3] w fun e w' => e = .returned (.bool true) ∧ Below w.heap.size w w' := by
  unfold tFaultV
  have HE : Hid _ := And.intro hE hF
  clear hE hF
  go_enter Tryz.func12, Tryz.ntmps12
  go_wp2_with fail
  refine (bad_tm 3 w).mono ?_
  rintro r w1 ⟨rfl, hb1⟩
  have hT := told_tm b 3 aI (fun W => ErrT W aA aI aL) (fun W W' h hb => h.below hb) (by decide) (fun W h h3 => code_index3 b aA aI aL W h h3) (fun W h => bare_index3 aA aI aL W h) w1 (HE.out.1.below hb1) ((hb1.block _ (t_lt HE.out.2)).trans HE.out.2)
  have HT : Hid _ := And.intro hT hb1
  clear hT hb1
  go_wp2_with fail
  refine HT.out.1.mono ?_
  rintro r w2 ⟨rfl, hb2⟩
  have HB : Hid _ := HT.out.2.trans (hb2.mono HT.out.2.size)
  clear hb2
  go_wp2_with fail
  go_ret
  exact ⟨rfl, HB.out⟩
end Go.Proofs.YthnenpncajpibaaGreatDoor
