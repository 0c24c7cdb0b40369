/- Texts of this claim, joined: ToldTm, TmTwo, Rd. -/
import Derived.Test.YthnenpncajpibaaGreatDoorPart5
import Derived.Deep.QuietTactic
import Derived.BigQuiet
import Derived.WalkSmall
import Derived.Test.YthnenpncajpibaaGreatDoorPart9
import Derived.Test.YthnenpncajpibaaGreatDoorPart10
/- Contract of the book's Told at a fault of term; told of chapter 3; api.Code at ErrArg and ErrIndex, wrapped and bare. -/
namespace Go.Proofs.YthnenpncajpibaaGreatDoor
open Go.RowKit Go.Extern.Stop Go.Stop Go.Extern
set_option maxHeartbeats 1000000 in
theorem is_bare_same (a : Addr) (w : World) :
    Calls Tryz.prog 126 #[.iface 201 (.pointer (some a)), .iface 201 (.pointer (some a))] w fun e w' => e = .returned (.bool true) ∧ w' = w := by
  obtain ⟨i, hi, hcmp⟩ := Option.map_eq_some_iff.1 Tryz.isComp
  obtain ⟨j, hj, hjs⟩ := Option.map_eq_some_iff.1 Tryz.isSize
  have h8 := @run_callFunc_extern Tryz.prog 135 _ Extern.ReflectliteType.typeOf Tryz.func135 (by kernel_rfl) (by kernel_rfl) (by kernel_rfl) (by kernel_rfl)
  have h32 := @run_callFunc_extern Tryz.prog 159 _ cmpEntry Tryz.func159 (by kernel_rfl) (by kernel_rfl) (by kernel_rfl) (by kernel_rfl)
  have tT := Tryz.isTypeOf
  have cT := Tryz.isComparable
  have mR := Tryz.isMethodComparable
  have nE := Tryz.noIsE
  have uE := Tryz.noUnwrapE
  have vE := Tryz.noUnwrapsE
  have nW := Tryz.noIsW
  have uW := Tryz.hasUnwrapW
  have mU := Tryz.methodUnwrap
  have heq := run_eql_iface_ptr_same (P := Tryz.prog) w a Tryz.underlying51 Tryz.underlying201 hi hcmp hj
  go_enter Tryz.func126, Tryz.ntmps126
  go_wp2
  refine wp_loop_rounds 1 ?_
  rw [rounds_succ]
  go_wp2
  go_ret
  exact ⟨rfl, rfl⟩
set_option maxHeartbeats 1000000 in
theorem is_bare_other (b a : Addr) (ca cb : Array Value) (ta tb : TypeId) (w : World) (hne : a ≠ b) (ha : w.heap[a.block]? = some (.cells ca ta (0, 0))) (hb : w.heap[b.block]? = some (.cells cb tb (0, 0))) :
    Calls Tryz.prog 126 #[.iface 201 (.pointer (some a)), .iface 201 (.pointer (some b))] w fun e w' => e = .returned (.bool false) ∧ w' = w := by
  obtain ⟨i, hi, hcmp⟩ := Option.map_eq_some_iff.1 Tryz.isComp
  obtain ⟨j, hj, hjs⟩ := Option.map_eq_some_iff.1 Tryz.isSize
  have h8 := @run_callFunc_extern Tryz.prog 135 _ Extern.ReflectliteType.typeOf Tryz.func135 (by kernel_rfl) (by kernel_rfl) (by kernel_rfl) (by kernel_rfl)
  have h32 := @run_callFunc_extern Tryz.prog 159 _ cmpEntry Tryz.func159 (by kernel_rfl) (by kernel_rfl) (by kernel_rfl) (by kernel_rfl)
  have tT := Tryz.isTypeOf
  have cT := Tryz.isComparable
  have mR := Tryz.isMethodComparable
  have nE := Tryz.noIsE
  have uE := Tryz.noUnwrapE
  have vE := Tryz.noUnwrapsE
  have nW := Tryz.noIsW
  have uW := Tryz.hasUnwrapW
  have mU := Tryz.methodUnwrap
  have heq := run_eql_iface_ptr_other (P := Tryz.prog) w Tryz.underlying51 Tryz.underlying201 hi hcmp hj (by rw [hjs]; decide) hne ha hb
  go_enter Tryz.func126, Tryz.ntmps126
  go_wp2
  refine wp_loop_rounds 1 ?_
  rw [rounds_succ]
  go_wp2
  go_ret
  exact ⟨rfl, rfl⟩
theorem cast_yes (v : Value) (w : World) : (Instr.typeAssert (.iface 124 v) 51 124 true).run Tryz.prog w = .ok (.tuple #[v, .bool true]) w := by kernel_rfl
theorem cast_no (v : Value) (w : World) : (Instr.typeAssert (.iface 201 v) 51 124 true).run Tryz.prog w = .ok (.tuple #[.pointer none, .bool false]) w := by kernel_rfl
def termB : ByteArray := ⟨#[116, 101, 114, 109, 32]⟩
def errV (a : Addr) : Value := .iface 201 (.pointer (some a))
theorem blk_cell {w : World} {B : Nat} {cs : Array Value} {t : TypeId} (h : w.heap[B]? = some (.cells cs t (0, 0))) (k : Nat) : w.cell? ⟨B, k, none⟩ = cs[k]? := by
  simp [World.cell?, h]
/-- The fault and the document's error lie in memory. -/
def TT (b E : Nat) (k : Int) (a : Addr) (w : World) : Prop :=
  TermFault w b (.iface 201 (.pointer (some a))) ∧ w.heap[E]? = some (.cells #[.int .i64 k, .int .i64 0, .int .i64 0, .string termB] 81 (0, 0))
theorem TT.draws {b E : Nat} {k : Int} {a : Addr} {w : World} (h : TT b E k a w) (n : Nat) : TT b E k a (w.drewN n) := h
theorem TT.cells {b E : Nat} {k : Int} {a : Addr} {w : World} (h : TT b E k a w) :
    w.cell? ⟨b, 0, none⟩ = some (.string ⟨#[116, 101, 114, 109]⟩) ∧ w.cell? ⟨b, 1, none⟩ = some (.int .i64 0) ∧ w.cell? ⟨b, 2, none⟩ = some (.int .i64 0) ∧ w.cell? ⟨b, 3, none⟩ = some (.iface 201 (.pointer (some a))) ∧
    w.cell? ⟨E, 0, none⟩ = some (.int .i64 k) ∧ w.cell? ⟨E, 1, none⟩ = some (.int .i64 0) ∧ w.cell? ⟨E, 2, none⟩ = some (.int .i64 0) ∧ w.cell? ⟨E, 3, none⟩ = some (.string termB) := by
  unfold TT TermFault at h
  refine ⟨?_, ?_, ?_, ?_, ?_, ?_, ?_, ?_⟩
  · rw [blk_cell h.1]; rfl
  · rw [blk_cell h.1]; rfl
  · rw [blk_cell h.1]; rfl
  · rw [blk_cell h.1]; rfl
  · rw [blk_cell h.2]; rfl
  · rw [blk_cell h.2]; rfl
  · rw [blk_cell h.2]; rfl
  · rw [blk_cell h.2]; rfl
set_option maxRecDepth 100000 in
set_option maxHeartbeats 4000000 in
theorem told_tm (b : Nat) (k : Int) (a : Addr) (P : World → Prop) (hst : ∀ W W', P W → Below W.heap.size W W' → P W') (hk : k ≠ 0)
    (hcode : ∀ W, P W → W.cell? ⟨b, 3, none⟩ = some (.iface 201 (.pointer (some a))) → Calls Tryz.prog 89 #[.iface 124 (.pointer (some ⟨b, 0, none⟩))] W fun e w' => e = .returned (.int .i64 k) ∧ w' = W)
    (hbare : ∀ W, P W → Calls Tryz.prog 89 #[.iface 201 (.pointer (some a))] W fun e w' => e = .returned (.int .i64 k) ∧ w' = W)
    (w : World) (hP : P w) (hB : TermFault w b (.iface 201 (.pointer (some a)))) :
    Calls Tryz.prog 30 #[.iface 124 (.pointer (some ⟨b, 0, none⟩)), .agg #[.int .i64 k, .int .i64 0, .int .i64 0, .string termB]] w fun e w' => e = .returned (.bool true) ∧ Below w.heap.size w w' := by
  have y := cast_yes
  have n := cast_no
  have zs : (⟨#[]⟩ ++ ⟨#[116, 101, 114, 109]⟩ ++ ⟨#[32]⟩ : ByteArray) = termB := by decide
  have z0 : (k == 0) = false := by simpa using hk
  have z3 : (k != k) = false := by simp
  have z4 : (k == k) = true := by simp
  have hPd : ∀ W m, P W → P (W.drewN m) := fun W m h => hst W _ h (below_drewN (Below.refl _ _) m)
  have HE : Hid (P w ∧ TermFault w b (.iface 201 (.pointer (some a)))) := ⟨hP, hB⟩
  clear hP hB hk
  go_enter Tryz.func30, Tryz.ntmps30
  go_wp2_with fail
  obtain ⟨w1, hw1⟩ : ∃ w1, w1 = w.alloc (.cells #[.int .i64 k, .int .i64 0, .int .i64 0, .string termB] 81) := ⟨_, rfl⟩
  rw [← hw1]
  have Hw1 : Hid (TT b w.heap.size k a w1 ∧ P w1 ∧ Below w.heap.size w w1) := (by
    have hb : Below w.heap.size w w1 := by rw [hw1]; exact (Below.refl _ _).alloc (Nat.le_refl _) _
    exact ⟨⟨(hb.block b (t_lt HE.out.2)).trans HE.out.2, by rw [hw1]; exact (MapKept.heap_alloc w _).1⟩, hst _ _ HE.out.1 hb, hb⟩ : TT b w.heap.size k a w1 ∧ P w1 ∧ Below w.heap.size w w1)
  clear hw1 HE
  obtain ⟨c0, c1, c2, c3, e0, e1, e2, e3⟩ := Hw1.out.1.cells
  go_quiet ((go_at_call 89; exact Calls.quiet_of_same (hcode _ (hPd _ _ Hw1.out.2.1) (by exact c3))))
  obtain ⟨w2, hw2⟩ : ∃ w2, w2 = w1.drewN nq := ⟨_, rfl⟩
  rw [← hw2]
  have Hw2 : Hid (TT b w.heap.size k a w2 ∧ P w2 ∧ Below w.heap.size w w2) := (by rw [hw2]; exact ⟨Hw1.out.1.draws _, hPd _ _ Hw1.out.2.1, below_drewN Hw1.out.2.2 _⟩ : TT b w.heap.size k a w2 ∧ P w2 ∧ Below w.heap.size w w2)
  clear hw2 c0 c1 c2 c3 e0 e1 e2 e3
  obtain ⟨c0, c1, c2, c3, e0, e1, e2, e3⟩ := Hw2.out.1.cells
  go_wp2_with fail
  refine wp_loop_rounds 2 ?_
  rw [rounds_succ]
  go_wp2_with fail
  go_quiet (fail)
  obtain ⟨w3, hw3⟩ : ∃ w3, w3 = w2.drewN nq := ⟨_, rfl⟩
  rw [← hw3]
  have Hw3 : Hid (TT b w.heap.size k a w3 ∧ P w3 ∧ Below w.heap.size w w3) := (by rw [hw3]; exact ⟨Hw2.out.1.draws _, hPd _ _ Hw2.out.2.1, below_drewN Hw2.out.2.2 _⟩ : TT b w.heap.size k a w3 ∧ P w3 ∧ Below w.heap.size w w3)
  clear hw3 c0 c1 c2 c3 e0 e1 e2 e3
  obtain ⟨c0, c1, c2, c3, e0, e1, e2, e3⟩ := Hw3.out.1.cells
  go_wp2_with fail
  rw [rounds_succ]
  go_wp2_with fail
  go_quiet ((go_at_call 89; exact Calls.quiet_of_same (hbare _ (hPd _ _ Hw3.out.2.1))))
  go_wp2
  go_ret
  exact ⟨rfl, below_drewN Hw3.out.2.2 _⟩
/-- The errors that a fault of term is held against. -/
structure ErrT (w : World) (aA aI aL : Addr) : Prop where
  a : Sent w 0 aA
  i : Sent w 1 aI
  l : Sent w 2 aL
  ia : aI ≠ aA
  il : aI ≠ aL
theorem ErrT.below {w w' : World} {aA aI aL : Addr} (h : ErrT w aA aI aL) (hb : Below w.heap.size w w') : ErrT w' aA aI aL := ⟨h.a.below hb, h.i.below hb, h.l.below hb, h.ia, h.il⟩
set_option maxHeartbeats 1000000 in
theorem bare_arg3 (aA : Addr) (w : World) (hE : w.cell? ⟨0, 0, none⟩ = some (.iface 201 (.pointer (some aA)))) :
    Calls Tryz.prog 89 #[.iface 201 (.pointer (some aA))] w fun e w' => e = .returned (.int .i64 1) ∧ w' = w := by
  go_enter Tryz.func89, Tryz.ntmps89
  go_wp2_with fail
  refine (is_bare_same aA _).mono ?_
  rintro e w' ⟨rfl, rfl⟩
  go_wp2_with fail
  go_ret
  exact ⟨rfl, rfl⟩
set_option maxHeartbeats 1000000 in
theorem code_index3 (pb : Nat) (aA aI aL : Addr) (w : World) (hE : ErrT w aA aI aL) (h1 : w.cell? ⟨pb, 3, none⟩ = some (.iface 201 (.pointer (some aI)))) :
    Calls Tryz.prog 89 #[.iface 124 (.pointer (some ⟨pb, 0, none⟩))] w fun e w' => e = .returned (.int .i64 3) ∧ w' = w := by
  obtain ⟨⟨gA, cA, tA, bA⟩, ⟨gI, cI, tI, bI⟩, ⟨gL, cL, tL, bL⟩, n1, n2⟩ := hE
  go_enter Tryz.func89, Tryz.ntmps89
  go_wp2_with fail
  refine (is_fault_other pb aA aI cI cA tI tA _ h1 n1 bI bA).mono ?_
  rintro e w' ⟨rfl, rfl⟩
  go_wp2_with fail
  refine (is_fault_other pb aL aI cI cL tI tL _ h1 n2 bI bL).mono ?_
  rintro e w' ⟨rfl, rfl⟩
  go_wp2_with fail
  refine (is_fault_same pb aI _ h1).mono ?_
  rintro e w' ⟨rfl, rfl⟩
  go_wp2_with fail
  go_ret
  exact ⟨rfl, rfl⟩
set_option maxHeartbeats 1000000 in
theorem bare_index3 (aA aI aL : Addr) (w : World) (hE : ErrT w aA aI aL) :
    Calls Tryz.prog 89 #[.iface 201 (.pointer (some aI))] w fun e w' => e = .returned (.int .i64 3) ∧ w' = w := by
  obtain ⟨⟨gA, cA, tA, bA⟩, ⟨gI, cI, tI, bI⟩, ⟨gL, cL, tL, bL⟩, n1, n2⟩ := hE
  go_enter Tryz.func89, Tryz.ntmps89
  go_wp2_with fail
  refine (is_bare_other aA aI cI cA tI tA _ n1 bI bA).mono ?_
  rintro e w' ⟨rfl, rfl⟩
  go_wp2_with fail
  refine (is_bare_other aL aI cI cL tI tL _ n2 bI bL).mono ?_
  rintro e w' ⟨rfl, rfl⟩
  go_wp2_with fail
  refine (is_bare_same aI _).mono ?_
  rintro e w' ⟨rfl, rfl⟩
  go_wp2_with fail
  go_ret
  exact ⟨rfl, rfl⟩
set_option maxHeartbeats 1000000 in
theorem bad_tm (k : Int) (w : World) : Calls Tryz.prog 31 #[.string ⟨#[116, 101, 114, 109]⟩, .int .i64 k] w fun e w' => e = .returned (.agg #[.int .i64 k, .int .i64 0, .int .i64 0, .string termB]) ∧ Below w.heap.size w w' := by
  have zs : (⟨#[116, 101, 114, 109]⟩ ++ ⟨#[32]⟩ : ByteArray) = termB := by decide
  go_enter Tryz.func31, Tryz.ntmps31
  go_wp2
  exact bodyPost_ret (v := .agg #[.int .i64 k, .int .i64 0, .int .i64 0, .string termB]) (by simp [results, Tryz.results31, go_sem]) rfl ⟨rfl, (Below.refl _ _).alloc (Nat.le_refl _) _⟩
set_option maxRecDepth 100000 in
theorem told3_arg (b : Nat) (aA : Addr) (w : World) (hE : Sent w 0 aA) (hF : TermFault w b (errV aA)) :
    Calls Tryz.prog 12 #[tFaultV b, .int .i64 1] w fun e w' => e = .returned (.bool true) ∧ Below w.heap.size w w' := by
  unfold tFaultV
  have HE : Hid _ := And.intro hE hF
  clear hE hF
  go_enter Tryz.func12, Tryz.ntmps12
  go_wp2_with fail
  refine (bad_tm 1 w).mono ?_
  rintro r w1 ⟨rfl, hb1⟩
  have hT := told_tm b 1 aA (fun W => Sent W 0 aA) (fun W W' h hb => h.below hb) (by decide) (fun W h h3 => code_arg3 b aA W h.1 h3) (fun W h => bare_arg3 aA W h.1) w1 (HE.out.1.below hb1) ((hb1.block _ (t_lt HE.out.2)).trans HE.out.2)
  have HT : Hid _ := And.intro hT hb1
  clear hT hb1
  go_wp2_with fail
  refine HT.out.1.mono ?_
  rintro r w2 ⟨rfl, hb2⟩
  have HB : Hid _ := HT.out.2.trans (hb2.mono HT.out.2.size)
  clear hb2
  go_wp2_with fail
  go_ret
  exact ⟨rfl, HB.out⟩
set_option maxRecDepth 100000 in
theorem told3_index (b : Nat) (aA aI aL : Addr) (w : World) (hE : ErrT w aA aI aL) (hF : TermFault w b (errV aI)) :
    Calls Tryz.prog 12 #[tFaultV b, .int .i64 3] w fun e w' => e = .returned (.bool true) ∧ Below w.heap.size w w' := by
  unfold tFaultV
  have HE : Hid _ := And.intro hE hF
  clear hE hF
  go_enter Tryz.func12, Tryz.ntmps12
  go_wp2_with fail
  refine (bad_tm 3 w).mono ?_
  rintro r w1 ⟨rfl, hb1⟩
  have hT := told_tm b 3 aI (fun W => ErrT W aA aI aL) (fun W W' h hb => h.below hb) (by decide) (fun W h h3 => code_index3 b aA aI aL W h h3) (fun W h => bare_index3 aA aI aL W h) w1 (HE.out.1.below hb1) ((hb1.block _ (t_lt HE.out.2)).trans HE.out.2)
  have HT : Hid _ := And.intro hT hb1
  clear hT hb1
  go_wp2_with fail
  refine HT.out.1.mono ?_
  rintro r w2 ⟨rfl, hb2⟩
  have HB : Hid _ := HT.out.2.trans (hb2.mono HT.out.2.size)
  clear hb2
  go_wp2_with fail
  go_ret
  exact ⟨rfl, HB.out⟩
end Go.Proofs.YthnenpncajpibaaGreatDoor
/- A store of the program and one of the document beside each other, and a list that came in. -/
namespace Go.Proofs.YthnenpncajpibaaGreatDoor
open Go.RowKit Go.Maps
/-- A list of these terms that stands while only blocks of F turn. -/
def Lst (w : World) (F : Nat → Prop) (v : Value) (l : List Tm) : Prop := ∃ ao cap, v = .slice ao l.length cap ∧ ∀ (i : Nat) (t : Tm), l[i]? = some t → ∃ g o vn vp, ∀ w', Kept F w w' → OneT w' ao i t g o vn vp
/-- Lengths that memory has room for. -/
def Room (t : Tm) : Prop := t.names.length * 8 ≤ 140737488351232 ∧ t.pairs.length * 16 ≤ 140737488351232
/-- The two stores, told from where the call began. -/
structure Two (w w' : World) (b c : Nat) (L M : List Tm) (F G F' G' : Nat → Prop) : Prop where
  s : StoB w' b L F'
  r : RStoB w' c M G'
  ap : ∀ i, F' i → ¬ G' i
  k : Kept (fun i => F i ∨ G i) w w'
  f : ∀ i, F' i → F i ∨ w.heap.size ≤ i
  g : ∀ i, G' i → G i ∨ w.heap.size ≤ i
theorem Two.start {w : World} {b c : Nat} {L M : List Tm} {F G : Nat → Prop} (h : StoB w b L F) (k : RStoB w c M G) (hd : ∀ i, F i → ¬ G i) : Two w w b c L M F G F G :=
  ⟨h, k, hd, Kept.refl _ _, fun _ h => .inl h, fun _ h => .inl h⟩
theorem Two.below {w w1 w2 : World} {b c : Nat} {L M : List Tm} {F G F' G' : Nat → Prop} (h : Two w w1 b c L M F G F' G') (hb : Below w1.heap.size w1 w2) : Two w w2 b c L M F G F' G' :=
  ⟨h.s.below hb, h.r.below hb, h.ap, h.k.trans (.of_below hb), h.f, h.g⟩
theorem Two.sput {w w1 w2 : World} {b c : Nat} {L L' M : List Tm} {F G F' G' F2 : Nat → Prop} (h : Two w w1 b c L M F G F' G') (hs : StoB w2 b L' F2) (hk : Kept F' w1 w2) (hf : ∀ i, F2 i → F' i ∨ w1.heap.size ≤ i) : Two w w2 b c L' M F G F2 G' := by
  refine ⟨hs, h.r.kept hk fun i hi hf => h.ap i hf hi, fun i hi hg => ?_, h.k.trans2 hk fun i hi => ?_, fun i hi => ?_, h.g⟩
  · rcases hf i hi with e | e
    · exact h.ap i e hg
    · have := h.r.foot_lt hg; omega
  · rcases h.f i hi with e | e
    · exact .inl (.inl e)
    · exact .inr e
  · rcases hf i hi with e | e
    · exact h.f i e
    · have := h.k.size; exact .inr (by omega)
theorem Two.rput {w w1 w2 : World} {b c : Nat} {L M M' : List Tm} {F G F' G' G2 : Nat → Prop} (h : Two w w1 b c L M F G F' G') (hs : RStoB w2 c M' G2) (hk : Kept G' w1 w2) (hf : ∀ i, G2 i → G' i ∨ w1.heap.size ≤ i) : Two w w2 b c L M' F G F' G2 := by
  refine ⟨h.s.kept hk fun i hi hf => h.ap i hi hf, hs, fun i hi hg => ?_, h.k.trans2 hk fun i hi => ?_, h.f, fun i hi => ?_⟩
  · rcases hf i hg with e | e
    · exact h.ap i hi e
    · have := h.s.foot_lt hi; omega
  · rcases h.g i hi with e | e
    · exact .inl (.inr e)
    · exact .inr e
  · rcases hf i hi with e | e
    · exact h.g i e
    · have := h.k.size; exact .inr (by omega)
/-- A block that was laid since and is none of the stores'. -/
theorem Two.other {w w1 w2 : World} {b c : Nat} {L M : List Tm} {F G F' G' H : Nat → Prop} (h : Two w w1 b c L M F G F' G') (hk : Kept H w1 w2) (hH : ∀ i, H i → w.heap.size ≤ i ∧ ¬ F' i ∧ ¬ G' i) : Two w w2 b c L M F G F' G' :=
  ⟨h.s.kept hk fun i hi hf => (hH i hf).2.1 hi, h.r.kept hk fun i hi hf => (hH i hf).2.2 hi, h.ap, h.k.trans2 hk fun i hi => .inr (hH i hi).1, h.f, h.g⟩
/-- The document's Put of a term that may be put. -/
theorem rput_ok (b : Nat) (L : List Tm) (F : Nat → Prop) (t : Tm) (vn vp : Value) (w : World) (hS : RStoB w b L F) (hn : HasI w vn t.names) (hp : HasP w vp t.pairs) (hmay : t.may L.length = true) (hlen : L.length < 100000) :
    Calls Tryz.prog 23 #[.pointer (some ⟨b, 0, none⟩), tmV t vn vp] w fun r w' => ∃ (k : Nat) (L' : List Tm) (F' : Nat → Prop), r = .returned (.int .i64 k) ∧ L'[k]? = some t ∧ ((t ∈ L ∧ L' = L) ∨ (t ∉ L ∧ L' = L ++ [t])) ∧ RStoB w' b L' F' ∧ Kept F w w' ∧ (∀ i, F' i → F i ∨ w.heap.size ≤ i) := by
  by_cases hin : t ∈ L
  · refine (rput_old b L F t vn vp w hS hn hp hmay hin).mono ?_
    rintro r w' ⟨⟨k, rfl, hk⟩, hb⟩
    exact ⟨k, L, F, rfl, hk, .inl ⟨hin, rfl⟩, hS.below hb, .of_below hb, fun i hi => .inl hi⟩
  · refine (rput_new b L F t vn vp w hS hn hp hmay hin hlen).mono ?_
    rintro r w' ⟨rfl, F', h1, h2, h3⟩
    exact ⟨L.length, L ++ [t], F', rfl, by simp, .inr ⟨hin, rfl⟩, h1, h2, h3⟩
/-- The program's Put likewise, and which of the two it was. -/
theorem put_ok2 (b : Nat) (L : List Tm) (F : Nat → Prop) (t : Tm) (vn vp : Value) (w : World) (hS : StoB w b L F) (hh : Hand w F t vn vp) (hmay : t.may L.length = true) (hlen : L.length < 100000) :
    Calls Tryz.prog 20 #[.pointer (some ⟨b, 0, none⟩), tmV t vn vp] w fun r w' => ∃ (k : Nat) (L' : List Tm) (F' : Nat → Prop), r = .returned (.tuple #[.int .i64 k, .nilIface]) ∧ L'[k]? = some t ∧ ((t ∈ L ∧ L' = L) ∨ (t ∉ L ∧ L' = L ++ [t])) ∧ StoB w' b L' F' ∧ Kept F w w' ∧ (∀ i, F' i → F i ∨ w.heap.size ≤ i) := by
  by_cases hin : t ∈ L
  · obtain ⟨k, hk, rfl⟩ := List.getElem_of_mem hin
    refine (put_old b L F _ vn vp w hS hh hmay k (List.getElem?_eq_getElem hk)).mono ?_
    rintro r w' ⟨rfl, hb⟩
    exact ⟨k, L, F, rfl, List.getElem?_eq_getElem hk, .inl ⟨hin, rfl⟩, hS.below hb, .of_below hb, fun i hi => .inl hi⟩
  · refine (put_new b L F t vn vp w hS hh hmay hin hlen).mono ?_
    rintro r w' ⟨rfl, F', h1, h2, h3⟩
    exact ⟨L.length, L ++ [t], F', rfl, by simp, .inr ⟨hin, rfl⟩, h1, h2, h3⟩
theorem both_same {L A B : List Tm} {t : Tm} (ha : (t ∈ L ∧ A = L) ∨ (t ∉ L ∧ A = L ++ [t])) (hb : (t ∈ L ∧ B = L) ∨ (t ∉ L ∧ B = L ++ [t])) : A = B := by
  rcases ha with ⟨h1, rfl⟩ | ⟨h1, rfl⟩ <;> rcases hb with ⟨h2, rfl⟩ | ⟨h2, rfl⟩ <;> first | rfl | exact absurd h1 h2 | exact absurd h2 h1
end Go.Proofs.YthnenpncajpibaaGreatDoor
/- What stands in a round of the law's put: the two stores, the box with the lent names and the copied pairs. -/
namespace Go.Proofs.YthnenpncajpibaaGreatDoor
open Go.RowKit Go.Maps
def lentV (g cap : Nat) (t : Tm) : Value := .slice (some ⟨g, 0, none⟩) t.names.length cap
/-- The blocks of the round's own. -/
def Mine (B g : Nat) (vq : Value) (i : Nat) : Prop := i = B ∨ i = g ∨ vq.ownBlock = some i
structure Rd (w W : World) (b c : Nat) (L M : List Tm) (F G F' G' : Nat → Prop) (t : Tm) (B g cap : Nat) (vq : Value) : Prop where
  two : Two w W b c L M F G F' G'
  box : W.heap[B]? = some (.cells #[.int .i64 t.kind, .int .i64 t.label, .int .i64 t.a, .int .i64 t.b, lentV g cap t, vq] 35 (0, 0))
  lent : Lent W w.heap.size g cap t.names
  prs : OwnP W w.heap.size vq t.pairs
  ap : ∀ i, Mine B g vq i → w.heap.size ≤ i ∧ ¬ F' i ∧ ¬ G' i
  d1 : g ≠ B
  d2 : vq.ownBlock ≠ some g
  d3 : vq.ownBlock ≠ some B
theorem Rd.lt {w W : World} {b c : Nat} {L M : List Tm} {F G F' G' : Nat → Prop} {t : Tm} {B g cap : Nat} {vq : Value} (h : Rd w W b c L M F G F' G' t B g cap vq) {i : Nat} (hi : Mine B g vq i) : i < W.heap.size := by
  rcases hi with rfl | rfl | hi
  · exact t_lt h.box
  · exact h.lent.lt.2
  · exact (h.prs.lt i hi).2
theorem Rd.move {w W W' : World} {b c : Nat} {L M L' M' : List Tm} {F G F' G' F2 G2 : Nat → Prop} {t : Tm} {B g cap : Nat} {vq : Value} (h : Rd w W b c L M F G F' G' t B g cap vq) (h2 : Two w W' b c L' M' F G F2 G2) (hk : ∀ i, Mine B g vq i → W'.heap[i]? = W.heap[i]?) (hf : ∀ i, F2 i → F' i ∨ W.heap.size ≤ i) (hg : ∀ i, G2 i → G' i ∨ W.heap.size ≤ i) : Rd w W' b c L' M' F G F2 G2 t B g cap vq := by
  refine ⟨h2, (hk B (.inl rfl)).trans h.box, h.lent.at (hk g (.inr (.inl rfl))), trow_at h.prs fun i hi => hk i (.inr (.inr hi)), fun i hi => ⟨(h.ap i hi).1, fun e => ?_, fun e => ?_⟩, h.d1, h.d2, h.d3⟩
  · have := h.lt hi
    rcases hf i e with e | e
    · exact (h.ap i hi).2.1 e
    · omega
  · have := h.lt hi
    rcases hg i e with e | e
    · exact (h.ap i hi).2.2 e
    · omega
theorem Rd.below {w W W' : World} {b c : Nat} {L M : List Tm} {F G F' G' : Nat → Prop} {t : Tm} {B g cap : Nat} {vq : Value} (h : Rd w W b c L M F G F' G' t B g cap vq) (hb : Below W.heap.size W W') : Rd w W' b c L M F G F' G' t B g cap vq :=
  h.move (h.two.below hb) (fun i hi => hb.block i (h.lt hi)) (fun _ h => .inl h) (fun _ h => .inl h)
theorem Rd.sput {w W W' : World} {b c : Nat} {L M L' : List Tm} {F G F' G' F2 : Nat → Prop} {t : Tm} {B g cap : Nat} {vq : Value} (h : Rd w W b c L M F G F' G' t B g cap vq) (hs : StoB W' b L' F2) (hk : Kept F' W W') (hf : ∀ i, F2 i → F' i ∨ W.heap.size ≤ i) : Rd w W' b c L' M F G F2 G' t B g cap vq :=
  h.move (h.two.sput hs hk hf) (fun i hi => hk.block i (h.lt hi) (h.ap i hi).2.1) hf (fun _ h => .inl h)
theorem Rd.rput {w W W' : World} {b c : Nat} {L M M' : List Tm} {F G F' G' G2 : Nat → Prop} {t : Tm} {B g cap : Nat} {vq : Value} (h : Rd w W b c L M F G F' G' t B g cap vq) (hs : RStoB W' c M' G2) (hk : Kept G' W W') (hf : ∀ i, G2 i → G' i ∨ W.heap.size ≤ i) : Rd w W' b c L M' F G F' G2 t B g cap vq :=
  h.move (h.two.rput hs hk hf) (fun i hi => hk.block i (h.lt hi) (h.ap i hi).2.2) (fun _ h => .inl h) hf
theorem Rd.hand {w W : World} {b c : Nat} {L M : List Tm} {F G F' G' : Nat → Prop} {t : Tm} {B g cap : Nat} {vq : Value} (h : Rd w W b c L M F G F' G' t B g cap vq) : Hand W F' t (lentV g cap t) vq :=
  ⟨h.lent.has, h.prs.has, fun _ i hi => (h.ap i (.inr (.inl (by simpa [lentV, Value.ownBlock] using hi.symm)))).2.1, fun _ i hi => (h.ap i (.inr (.inr hi))).2.1⟩
/-- The round's start: the box is laid, then the lent names, then the copied pairs. -/
theorem rd_start {w wr W0 W1 W3 : World} {b c : Nat} {L M : List Tm} {F G F' G' : Nat → Prop} {t : Tm} {vn vp vq : Value} {g cap : Nat} (h : Two w wr b c L M F G F' G') (e0 : W0 = wr.alloc (.cells #[.int .i64 t.kind, .int .i64 t.label, .int .i64 t.a, .int .i64 t.b, vn, vp] 35))
    (hl : Lent W1 W0.heap.size g cap t.names) (hb1 : Below W0.heap.size W0 W1) (W2 : World) (e2 : W2 = W1.setCell ⟨wr.heap.size, 4, none⟩ (lentV g cap t))
    (hp : OwnP W3 W2.heap.size vq t.pairs) (hb3 : Below W2.heap.size W2 W3) (W4 : World) (e4 : W4 = W3.setCell ⟨wr.heap.size, 5, none⟩ vq) : Rd w W4 b c L M F G F' G' t wr.heap.size g cap vq := by
  have s0 : W0.heap.size = wr.heap.size + 1 := by rw [e0]; simp
  have s2 : W2.heap.size = W1.heap.size := by rw [e2, set_size]
  have s4 : W4.heap.size = W3.heap.size := by rw [e4, set_size]
  have b0 : Below wr.heap.size wr W0 := by rw [e0]; exact (Below.refl _ _).alloc (Nat.le_refl _) _
  have z1 := hb1.size
  have z3 := hb3.size
  have zw := h.k.size
  obtain ⟨g1, g2⟩ := hl.lt
  have b1 : Below wr.heap.size wr W1 := b0.trans (hb1.mono (by omega))
  have b2 : Below wr.heap.size wr W2 := by rw [e2]; exact b1.setCell (Nat.le_refl _) _
  have b3 : Below wr.heap.size wr W3 := b2.trans (hb3.mono (by omega))
  have b4 : Below wr.heap.size wr W4 := by rw [e4]; exact b3.setCell (Nat.le_refl _) _
  have x0 : W0.heap[wr.heap.size]? = some (.cells #[.int .i64 t.kind, .int .i64 t.label, .int .i64 t.a, .int .i64 t.b, vn, vp] 35 (0, 0)) := by rw [e0]; exact (MapKept.heap_alloc wr _).1
  have x1 := (hb1.block wr.heap.size (by omega)).trans x0
  have x2 : W2.heap[wr.heap.size]? = some (.cells #[.int .i64 t.kind, .int .i64 t.label, .int .i64 t.a, .int .i64 t.b, lentV g cap t, vp] 35 (0, 0)) := by
    rw [e2, heap_setCell_same _ _ _ _ _ _ x1]; rfl
  have x3 := (hb3.block wr.heap.size (by omega)).trans x2
  have x4 : W4.heap[wr.heap.size]? = some (.cells #[.int .i64 t.kind, .int .i64 t.label, .int .i64 t.a, .int .i64 t.b, lentV g cap t, vq] 35 (0, 0)) := by
    rw [e4, heap_setCell_same _ _ _ _ _ _ x3]; rfl
  have hq : ∀ i, vq.ownBlock = some i → W2.heap.size ≤ i ∧ i < W3.heap.size := fun i hi => hp.lt i hi
  have hL2 : Lent W2 W0.heap.size g cap t.names := hl.at (by rw [e2]; exact set_other _ _ _ _ _ (by omega))
  have hL3 : Lent W3 W0.heap.size g cap t.names := hL2.at (hb3.block g (by omega))
  have hL4 : Lent W4 W0.heap.size g cap t.names := hL3.at (by rw [e4]; exact set_other _ _ _ _ _ (by omega))
  have hp4 : OwnP W4 W2.heap.size vq t.pairs := trow_at hp fun i hi => by rw [e4]; exact set_other _ _ _ _ _ (by have := hq i hi; omega)
  have hap : ∀ i, wr.heap.size ≤ i → w.heap.size ≤ i ∧ ¬ F' i ∧ ¬ G' i := fun i hi => ⟨by omega, fun e => by have := h.s.foot_lt e; omega, fun e => by have := h.r.foot_lt e; omega⟩
  refine ⟨h.below b4, x4, row_base hL4 (by omega), row_base hp4 (by omega), fun i hi => hap i ?_, by omega, fun e => ?_, fun e => ?_⟩
  · rcases hi with rfl | rfl | hi
    · exact Nat.le_refl _
    · omega
    · have := hq i hi; omega
  · have := hq g e; omega
  · have := hq _ e; omega
/-- The cells of the box. -/
theorem Rd.cells {w W : World} {b c : Nat} {L M : List Tm} {F G F' G' : Nat → Prop} {t : Tm} {B g cap : Nat} {vq : Value} (h : Rd w W b c L M F G F' G' t B g cap vq) : W.cell? ⟨B, 0, none⟩ = some (.int .i64 t.kind) ∧ W.cell? ⟨B, 1, none⟩ = some (.int .i64 t.label) ∧ W.cell? ⟨B, 2, none⟩ = some (.int .i64 t.a) ∧ W.cell? ⟨B, 3, none⟩ = some (.int .i64 t.b) ∧ W.cell? ⟨B, 4, none⟩ = some (lentV g cap t) ∧ W.cell? ⟨B, 5, none⟩ = some vq := by
  obtain ⟨y0, y1, y2, y3, y4, y5, _⟩ := six6 h.box
  exact ⟨y0, y1, y2, y3, y4, y5⟩
end Go.Proofs.YthnenpncajpibaaGreatDoor
