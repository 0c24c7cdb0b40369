/- Texts of this claim, joined: TsCyc1, SyPure, SyOut0, SyTab0, BookApp. -/
import Derived.Test.YtplofbabfkkimaaGreatDoorPart0
import Derived.Test.YtplofbabfkkimaaGreatDoorPart2
import Derived.Deep.RegionHeld3
import GoSem.Claim
import Derived.ArgAppend
/- tauscc: the region in which cyclesOf makes its walk. -/
namespace Go.Proofs.YtplofbabfkkimaaGreatDoor.Ts
open Go.RowKit Go.Maps
attribute [local go_sem ↓] Go.wp_at_zero Go.wp_at_succ
theorem Tryz.infoR4 : (Tryz.prog.info? 45).map (fun i => (i.zero, i.size, i.bytes)) = some (some (.slice none 0 0), 1, 24) := by kernel_rfl
theorem makeRw (n : Nat) (hn : n ≤ 1000000) (w : World) : (Instr.makeSlice 32 (.int .i64 (n : Int)) (.int .i64 (n : Int))).run Tryz.prog w = .ok (.slice (some ⟨w.heap.size, 0, none⟩) n n) (w.alloc (.cells (madeV (.slice none 0 0) n) 45)) := make_of _ _ _ 24 Tryz.underlying32 Tryz.infoR4 n hn (by decide) w
def rops : Code → Nat → Option (Array Oper)
 | .region i ops _, k => if i = k then some ops else none
 | .seq a b, k => match rops a k with
   | some o => some o
   | none => rops b k
 | .cond _ a b, k => match rops a k with
   | some o => some o
   | none => rops b k
 | .block _ c, k => rops c k
 | .loop c, k => rops c k
 | .scope c, k => rops c k
 | _, _ => none
noncomputable def ops2 : Array Oper := match Tryz.f25.body with
 | some c => (rops c 2).getD #[]
 | none => #[]
theorem op2_1 : ∃ p f, ops2[1]? = some { dst := some 10, op := .makeSlice 32 (.tmp 9) (.tmp 9), type := 32, pos := p, after := f, guard := none } := ⟨_, _, rfl⟩
theorem op2_2 : ∃ p f, ops2[2]? = some { dst := some 11, op := .buildSlice 45 1 #[(0, .const (.int .i64 (-1)))], type := 45, pos := p, after := f, guard := none } := ⟨_, _, rfl⟩
theorem op2_4 : ∃ p f, ops2[4]? = some { dst := some 13, op := .call { callee := .value (.func 89), args := #[.tmp 11, .tmp 12], argTypes := #[45, 3] }, type := 45, pos := p, after := f, guard := none } := ⟨_, _, rfl⟩
theorem op2_6 : ∃ p f, ops2[6]? = some { dst := some 15, op := .makeSlice 45 (.tmp 14) (.tmp 14), type := 45, pos := p, after := f, guard := none } := ⟨_, _, rfl⟩
theorem op2_7 : ∃ p f, ops2[7]? = some { dst := some 16, op := .buildSlice 45 1 #[(0, .const (.int .i64 (-1)))], type := 45, pos := p, after := f, guard := none } := ⟨_, _, rfl⟩
theorem op2_9 : ∃ p f, ops2[9]? = some { dst := some 18, op := .call { callee := .value (.func 89), args := #[.tmp 16, .tmp 17], argTypes := #[45, 3] }, type := 45, pos := p, after := f, guard := none } := ⟨_, _, rfl⟩
theorem op2_10 : ∃ p f, ops2[10]? = some { dst := some 19, op := .build 121 #[(0, .tmp 10), (4, .tmp 13), (5, .tmp 15), (6, .tmp 18)], type := 121, pos := p, after := f, guard := none } := ⟨_, _, rfl⟩
theorem op2_11 : ∃ p f, ops2[11]? = some { dst := some 20, op := .box 121 (.tmp 19), type := 117, pos := p, after := f, guard := none } := ⟨_, _, rfl⟩
theorem op2_12 : ∃ p f, ops2[12]? = some { dst := some 4, op := .assign (.tmp 20), type := 117, pos := p, after := f, guard := none } := ⟨_, _, rfl⟩
theorem op2_0 : ∃ p f, ops2[0]? = some { dst := some 9, op := .move (.tmp 3), type := 3, pos := p, after := f, guard := none } := ⟨_, _, rfl⟩
theorem op2_3 : ∃ p f, ops2[3]? = some { dst := some 12, op := .move (.tmp 3), type := 3, pos := p, after := f, guard := none } := ⟨_, _, rfl⟩
theorem op2_5 : ∃ p f, ops2[5]? = some { dst := some 14, op := .move (.tmp 3), type := 3, pos := p, after := f, guard := none } := ⟨_, _, rfl⟩
theorem op2_8 : ∃ p f, ops2[8]? = some { dst := some 17, op := .move (.tmp 3), type := 3, pos := p, after := f, guard := none } := ⟨_, _, rfl⟩
def fr (g n : Nat) (v10 v11 v13 v15 v16 v18 : Value) : Act := { tmps := #[.pointer (some ⟨g, 0, none⟩), undef, .slice none 0 0, .int .i64 n, undef, undef, undef, .pointer (some ⟨g, 0, none⟩), .int .i64 n, .int .i64 n, v10, v11, .int .i64 n, v13, .int .i64 n, v15, v16, .int .i64 n, v18, undef, undef, undef, undef, undef, undef, undef, undef, undef, undef, undef, undef, undef, undef, undef, undef, undef, undef, undef, undef, undef, undef, undef, undef, undef, undef, undef, undef, undef, undef, undef, undef, undef, undef, undef, undef, undef], defers := [] }
def fr2 (g n r : Nat) (v10 v11 v13 v15 v16 v18 v19 : Value) : Act := { tmps := #[.pointer (some ⟨g, 0, none⟩), undef, .slice none 0 0, .int .i64 n, .pointer (some ⟨r, 0, none⟩), undef, undef, .pointer (some ⟨g, 0, none⟩), .int .i64 n, .int .i64 n, v10, v11, .int .i64 n, v13, .int .i64 n, v15, v16, .int .i64 n, v18, v19, .pointer (some ⟨r, 0, none⟩), undef, undef, undef, undef, undef, undef, undef, undef, undef, undef, undef, undef, undef, undef, undef, undef, undef, undef, undef, undef, undef, undef, undef, undef, undef, undef, undef, undef, undef, undef, undef, undef, undef, undef, undef], defers := [] }
def Reg2 (w : World) (g n : Nat) (out : Nat → List Nat) (Q : Exit → Act → World → Prop) : Prop := (∀ (v10 v11 v13 v15 v16 v18 v19 : Value) (W : World) (r : Nat), (∃ gs gn gl gc, CyL w W r gs gn gl gc n 0 out) → Q .normal (fr2 g n r v10 v11 v13 v15 v16 v18 v19) W) ∧ ∀ (d : Option Nat) (v : Value) c (a : Act) (W : World), Q (.panic c) (a.put d v) W → Q (.panic c) a W
theorem Cy.ne {w W : World} {n g g' k k' : Nat} {L : List (Nat × Nat)} (h : Cy w W n L) (a : (g, k) ∈ L) (b : (g', k') ∈ L) (hk : k ≠ k') : g ≠ g' := fun e => by
 subst e
 have h1 := h.nd
 clear h
 induction L with
 | nil => cases a
 | cons p L ih =>
   rw [List.map_cons] at h1
   obtain ⟨h2, h3⟩ := List.nodup_cons.1 h1
   rcases List.mem_cons.1 a with ea | a1
   ·rcases List.mem_cons.1 b with eb | b1
    ·exact hk (Prod.mk.inj (ea.trans eb.symm)).2
    ·exact h2 (List.mem_map.2 ⟨_, b1, by rw [← ea]⟩)
   ·rcases List.mem_cons.1 b with eb | b1
    ·exact h2 (List.mem_map.2 ⟨_, a1, by rw [← eb]⟩)
    ·exact ih a1 b1 h3
set_option linter.unusedSimpArgs false in
set_option linter.unusedVariables false in
set_option maxRecDepth 100000 in
set_option maxHeartbeats 1000000 in
theorem cy_124679 {w W : World} {g n : Nat} {L : List (Nat × Nat)} {out : Nat → List Nat} {Q : Exit → Act → World → Prop} (hn : n ≤ 1000000) (hQ : Reg2 w g n out Q) (h : Cy w W n L) (g10 : Nat) (g11 : Nat) (g13 : Nat) (g15 : Nat) (g16 : Nat) (g18 : Nat) (m10 : (g10, 0) ∈ L) (m11 : (g11, 3) ∈ L) (m13 : (g13, 1) ∈ L) (m15 : (g15, 2) ∈ L) (m16 : (g16, 3) ∈ L) (m18 : (g18, 1) ∈ L) (hne : g13 ≠ g18) : wpAnyH Tryz.prog .any ops2 Q (fun _ => True) 3 #[true, true, true, true, true, true, true, true, true, true, false, false, false] (fr g n (.slice (some ⟨g10, 0, none⟩) n n) (.slice (some ⟨g11, 0, none⟩) 1 1) (.slice (some ⟨g13, 0, none⟩) n n) (.slice (some ⟨g15, 0, none⟩) n n) (.slice (some ⟨g16, 0, none⟩) 1 1) (.slice (some ⟨g18, 0, none⟩) n n)) W := by
 unfold fr
 obtain ⟨p10, f10, o10⟩ := op2_10
 obtain ⟨p11, f11, o11⟩ := op2_11
 obtain ⟨p12, f12, o12⟩ := op2_12
 refine wpAnyH_take (i := 10) (oi := _) (v := ?_) o10 (by kernel_rfl) (by kernel_rfl) (by kernel_rfl) (hQ.2 _ _) (Or.inl ⟨by rfl, ?_⟩) trivial ?_; rotate_left; (focus (intro w hSw; go_simp; (try with_reducible rfl))); (try simp only [ty9, Act.put])
 refine wpAnyH_ready (rs := [11]) (by kernel_rfl) (by simp) ?_
 refine AllReadyH.cons (o := _) o11 (fun K hK => ?_) AllReadyH.nil
 go_simp
 refine hK.out _ _ trivial (fun _ => ?_)
 clear hK K
 (try simp only [ty9, Act.put])
 refine wpAnyH_take (i := 12) (oi := _) (v := ?_) o12 (by kernel_rfl) (by kernel_rfl) (by kernel_rfl) (hQ.2 _ _) (Or.inl ⟨by rfl, ?_⟩) trivial ?_; rotate_left; (focus (intro w hSw; go_simp; (try with_reducible rfl))); (try simp only [ty9, Act.put])
 refine wpAnyH_done (by kernel_rfl) ?_ _
 exact hQ.1 _ _ _ _ _ _ _ _ _ ⟨_, _, _, _, h.box hn _ m10 m13 m15 m18 ⟨h.ne m10 m13 (by decide), h.ne m10 m15 (by decide), h.ne m10 m18 (by decide), h.ne m13 m15 (by decide), hne, h.ne m15 m18 (by decide)⟩⟩
set_option linter.unusedSimpArgs false in
set_option linter.unusedVariables false in
set_option maxRecDepth 100000 in
set_option maxHeartbeats 1000000 in
theorem cy_24679 {w W : World} {g n : Nat} {L : List (Nat × Nat)} {out : Nat → List Nat} {Q : Exit → Act → World → Prop} (hn : n ≤ 1000000) (hQ : Reg2 w g n out Q) (h : Cy w W n L) (g11 : Nat) (g13 : Nat) (g15 : Nat) (g16 : Nat) (g18 : Nat) (m11 : (g11, 3) ∈ L) (m13 : (g13, 1) ∈ L) (m15 : (g15, 2) ∈ L) (m16 : (g16, 3) ∈ L) (m18 : (g18, 1) ∈ L) (hne : g13 ≠ g18) : wpAnyH Tryz.prog .any ops2 Q (fun _ => True) 4 #[true, false, true, true, true, true, true, true, true, true, false, false, false] (fr g n undef (.slice (some ⟨g11, 0, none⟩) 1 1) (.slice (some ⟨g13, 0, none⟩) n n) (.slice (some ⟨g15, 0, none⟩) n n) (.slice (some ⟨g16, 0, none⟩) 1 1) (.slice (some ⟨g18, 0, none⟩) n n)) W := by
 have hm0 := fun W => makeRw n hn W
 have hm1 := fun W => makeI n hn W
 refine wpAnyH_ready (rs := [1]) (by kernel_rfl) (by simp) ?_
 unfold fr
 obtain ⟨p1, f1, o1⟩ := op2_1
 refine AllReadyH.cons (o := _) o1 (fun K hK => ?_) ?_
 ·go_simp
  refine hK.out _ _ trivial (fun _ => ?_)
  (try simp only [ty9, Act.put])
  exact cy_124679 hn hQ h.made0 _ g11 g13 g15 g16 g18 List.mem_cons_self (List.mem_cons_of_mem _ m11) (List.mem_cons_of_mem _ m13) (List.mem_cons_of_mem _ m15) (List.mem_cons_of_mem _ m16) (List.mem_cons_of_mem _ m18) hne
 exact AllReadyH.nil
set_option linter.unusedSimpArgs false in
set_option linter.unusedVariables false in
set_option maxRecDepth 100000 in
set_option maxHeartbeats 1000000 in
theorem cy_12479 {w W : World} {g n : Nat} {L : List (Nat × Nat)} {out : Nat → List Nat} {Q : Exit → Act → World → Prop} (hn : n ≤ 1000000) (hQ : Reg2 w g n out Q) (h : Cy w W n L) (g10 : Nat) (g11 : Nat) (g13 : Nat) (g16 : Nat) (g18 : Nat) (m10 : (g10, 0) ∈ L) (m11 : (g11, 3) ∈ L) (m13 : (g13, 1) ∈ L) (m16 : (g16, 3) ∈ L) (m18 : (g18, 1) ∈ L) (hne : g13 ≠ g18) : wpAnyH Tryz.prog .any ops2 Q (fun _ => True) 4 #[true, true, true, true, true, true, false, true, true, true, false, false, false] (fr g n (.slice (some ⟨g10, 0, none⟩) n n) (.slice (some ⟨g11, 0, none⟩) 1 1) (.slice (some ⟨g13, 0, none⟩) n n) undef (.slice (some ⟨g16, 0, none⟩) 1 1) (.slice (some ⟨g18, 0, none⟩) n n)) W := by
 have hm0 := fun W => makeRw n hn W
 have hm1 := fun W => makeI n hn W
 refine wpAnyH_ready (rs := [6]) (by kernel_rfl) (by simp) ?_
 unfold fr
 obtain ⟨p6, f6, o6⟩ := op2_6
 refine AllReadyH.cons (o := _) o6 (fun K hK => ?_) ?_
 ·go_simp
  refine hK.out _ _ trivial (fun _ => ?_)
  (try simp only [ty9, Act.put])
  exact cy_124679 hn hQ h.made2 g10 g11 g13 _ g16 g18 (List.mem_cons_of_mem _ m10) (List.mem_cons_of_mem _ m11) (List.mem_cons_of_mem _ m13) List.mem_cons_self (List.mem_cons_of_mem _ m16) (List.mem_cons_of_mem _ m18) hne
 exact AllReadyH.nil
set_option linter.unusedSimpArgs false in
set_option linter.unusedVariables false in
set_option maxRecDepth 100000 in
set_option maxHeartbeats 1000000 in
theorem cy_12467 {w W : World} {g n : Nat} {L : List (Nat × Nat)} {out : Nat → List Nat} {Q : Exit → Act → World → Prop} (hn : n ≤ 1000000) (hQ : Reg2 w g n out Q) (h : Cy w W n L) (g10 : Nat) (g11 : Nat) (g13 : Nat) (g15 : Nat) (g16 : Nat) (m10 : (g10, 0) ∈ L) (m11 : (g11, 3) ∈ L) (m13 : (g13, 1) ∈ L) (m15 : (g15, 2) ∈ L) (m16 : (g16, 3) ∈ L) : wpAnyH Tryz.prog .any ops2 Q (fun _ => True) 4 #[true, true, true, true, true, true, true, true, true, false, false, false, false] (fr g n (.slice (some ⟨g10, 0, none⟩) n n) (.slice (some ⟨g11, 0, none⟩) 1 1) (.slice (some ⟨g13, 0, none⟩) n n) (.slice (some ⟨g15, 0, none⟩) n n) (.slice (some ⟨g16, 0, none⟩) 1 1) undef) W := by
 have hm0 := fun W => makeRw n hn W
 have hm1 := fun W => makeI n hn W
 refine wpAnyH_ready (rs := [9]) (by kernel_rfl) (by simp) ?_
 unfold fr
 obtain ⟨p9, f9, o9⟩ := op2_9
 refine AllReadyH.cons (o := _) o9 (fun K hK => ?_) ?_
 ·go_simp
  go_at_call 89
  refine Calls.mono (repeat_any g16 n _ hn (h.at_ _ m16)) ?_
  rintro r5 w5 ⟨g18, rfl, hA⟩
  (try go_wp2_with fail)
  refine hK.out _ _ trivial (fun _ => ?_)
  (try simp only [ty9, Act.put])
  exact cy_124679 hn hQ (h.made1 hA) g10 g11 g13 g15 g16 g18 (List.mem_cons_of_mem _ m10) (List.mem_cons_of_mem _ m11) (List.mem_cons_of_mem _ m13) (List.mem_cons_of_mem _ m15) (List.mem_cons_of_mem _ m16) List.mem_cons_self (fun e => by have h1 := h.lt _ m13; have h2 := hA.gu; simp only at h1; omega)
 exact AllReadyH.nil
set_option linter.unusedSimpArgs false in
set_option linter.unusedVariables false in
set_option maxRecDepth 100000 in
set_option maxHeartbeats 1000000 in
theorem cy_2479 {w W : World} {g n : Nat} {L : List (Nat × Nat)} {out : Nat → List Nat} {Q : Exit → Act → World → Prop} (hn : n ≤ 1000000) (hQ : Reg2 w g n out Q) (h : Cy w W n L) (g11 : Nat) (g13 : Nat) (g16 : Nat) (g18 : Nat) (m11 : (g11, 3) ∈ L) (m13 : (g13, 1) ∈ L) (m16 : (g16, 3) ∈ L) (m18 : (g18, 1) ∈ L) (hne : g13 ≠ g18) : wpAnyH Tryz.prog .any ops2 Q (fun _ => True) 5 #[true, false, true, true, true, true, false, true, true, true, false, false, false] (fr g n undef (.slice (some ⟨g11, 0, none⟩) 1 1) (.slice (some ⟨g13, 0, none⟩) n n) undef (.slice (some ⟨g16, 0, none⟩) 1 1) (.slice (some ⟨g18, 0, none⟩) n n)) W := by
 have hm0 := fun W => makeRw n hn W
 have hm1 := fun W => makeI n hn W
 refine wpAnyH_ready (rs := [1, 6]) (by kernel_rfl) (by simp) ?_
 unfold fr
 obtain ⟨p1, f1, o1⟩ := op2_1
 refine AllReadyH.cons (o := _) o1 (fun K hK => ?_) ?_
 ·go_simp
  refine hK.out _ _ trivial (fun _ => ?_)
  (try simp only [ty9, Act.put])
  exact cy_12479 hn hQ h.made0 _ g11 g13 g16 g18 List.mem_cons_self (List.mem_cons_of_mem _ m11) (List.mem_cons_of_mem _ m13) (List.mem_cons_of_mem _ m16) (List.mem_cons_of_mem _ m18) hne
 obtain ⟨p6, f6, o6⟩ := op2_6
 refine AllReadyH.cons (o := _) o6 (fun K hK => ?_) ?_
 ·go_simp
  refine hK.out _ _ trivial (fun _ => ?_)
  (try simp only [ty9, Act.put])
  exact cy_24679 hn hQ h.made2 g11 g13 _ g16 g18 (List.mem_cons_of_mem _ m11) (List.mem_cons_of_mem _ m13) List.mem_cons_self (List.mem_cons_of_mem _ m16) (List.mem_cons_of_mem _ m18) hne
 exact AllReadyH.nil
set_option linter.unusedSimpArgs false in
set_option linter.unusedVariables false in
set_option maxRecDepth 100000 in
set_option maxHeartbeats 1000000 in
theorem cy_2467 {w W : World} {g n : Nat} {L : List (Nat × Nat)} {out : Nat → List Nat} {Q : Exit → Act → World → Prop} (hn : n ≤ 1000000) (hQ : Reg2 w g n out Q) (h : Cy w W n L) (g11 : Nat) (g13 : Nat) (g15 : Nat) (g16 : Nat) (m11 : (g11, 3) ∈ L) (m13 : (g13, 1) ∈ L) (m15 : (g15, 2) ∈ L) (m16 : (g16, 3) ∈ L) : wpAnyH Tryz.prog .any ops2 Q (fun _ => True) 5 #[true, false, true, true, true, true, true, true, true, false, false, false, false] (fr g n undef (.slice (some ⟨g11, 0, none⟩) 1 1) (.slice (some ⟨g13, 0, none⟩) n n) (.slice (some ⟨g15, 0, none⟩) n n) (.slice (some ⟨g16, 0, none⟩) 1 1) undef) W := by
 have hm0 := fun W => makeRw n hn W
 have hm1 := fun W => makeI n hn W
 refine wpAnyH_ready (rs := [1, 9]) (by kernel_rfl) (by simp) ?_
 unfold fr
 obtain ⟨p1, f1, o1⟩ := op2_1
 refine AllReadyH.cons (o := _) o1 (fun K hK => ?_) ?_
 ·go_simp
  refine hK.out _ _ trivial (fun _ => ?_)
  (try simp only [ty9, Act.put])
  exact cy_12467 hn hQ h.made0 _ g11 g13 g15 g16 List.mem_cons_self (List.mem_cons_of_mem _ m11) (List.mem_cons_of_mem _ m13) (List.mem_cons_of_mem _ m15) (List.mem_cons_of_mem _ m16)
 obtain ⟨p9, f9, o9⟩ := op2_9
 refine AllReadyH.cons (o := _) o9 (fun K hK => ?_) ?_
 ·go_simp
  go_at_call 89
  refine Calls.mono (repeat_any g16 n _ hn (h.at_ _ m16)) ?_
  rintro r5 w5 ⟨g18, rfl, hA⟩
  (try go_wp2_with fail)
  refine hK.out _ _ trivial (fun _ => ?_)
  (try simp only [ty9, Act.put])
  exact cy_24679 hn hQ (h.made1 hA) g11 g13 g15 g16 g18 (List.mem_cons_of_mem _ m11) (List.mem_cons_of_mem _ m13) (List.mem_cons_of_mem _ m15) (List.mem_cons_of_mem _ m16) List.mem_cons_self (fun e => by have h1 := h.lt _ m13; have h2 := hA.gu; simp only at h1; omega)
 exact AllReadyH.nil
set_option linter.unusedSimpArgs false in
set_option linter.unusedVariables false in
set_option maxRecDepth 100000 in
set_option maxHeartbeats 1000000 in
theorem cy_1267 {w W : World} {g n : Nat} {L : List (Nat × Nat)} {out : Nat → List Nat} {Q : Exit → Act → World → Prop} (hn : n ≤ 1000000) (hQ : Reg2 w g n out Q) (h : Cy w W n L) (g10 : Nat) (g11 : Nat) (g15 : Nat) (g16 : Nat) (m10 : (g10, 0) ∈ L) (m11 : (g11, 3) ∈ L) (m15 : (g15, 2) ∈ L) (m16 : (g16, 3) ∈ L) : wpAnyH Tryz.prog .any ops2 Q (fun _ => True) 5 #[true, true, true, true, false, true, true, true, true, false, false, false, false] (fr g n (.slice (some ⟨g10, 0, none⟩) n n) (.slice (some ⟨g11, 0, none⟩) 1 1) undef (.slice (some ⟨g15, 0, none⟩) n n) (.slice (some ⟨g16, 0, none⟩) 1 1) undef) W := by
 have hm0 := fun W => makeRw n hn W
 have hm1 := fun W => makeI n hn W
 refine wpAnyH_ready (rs := [4]) (by kernel_rfl) (by simp) ?_
 unfold fr
 obtain ⟨p4, f4, o4⟩ := op2_4
 refine AllReadyH.cons (o := _) o4 (fun K hK => ?_) ?_
 ·go_simp
  go_at_call 89
  refine Calls.mono (repeat_any g11 n _ hn (h.at_ _ m11)) ?_
  rintro r5 w5 ⟨g13, rfl, hA⟩
  (try go_wp2_with fail)
  refine hK.out _ _ trivial (fun _ => ?_)
  (try simp only [ty9, Act.put])
  exact cy_12467 hn hQ (h.made1 hA) g10 g11 g13 g15 g16 (List.mem_cons_of_mem _ m10) (List.mem_cons_of_mem _ m11) List.mem_cons_self (List.mem_cons_of_mem _ m15) (List.mem_cons_of_mem _ m16)
 exact AllReadyH.nil
set_option linter.unusedSimpArgs false in
set_option linter.unusedVariables false in
set_option maxRecDepth 100000 in
set_option maxHeartbeats 1000000 in
theorem cy_1247 {w W : World} {g n : Nat} {L : List (Nat × Nat)} {out : Nat → List Nat} {Q : Exit → Act → World → Prop} (hn : n ≤ 1000000) (hQ : Reg2 w g n out Q) (h : Cy w W n L) (g10 : Nat) (g11 : Nat) (g13 : Nat) (g16 : Nat) (m10 : (g10, 0) ∈ L) (m11 : (g11, 3) ∈ L) (m13 : (g13, 1) ∈ L) (m16 : (g16, 3) ∈ L) : wpAnyH Tryz.prog .any ops2 Q (fun _ => True) 5 #[true, true, true, true, true, true, false, true, true, false, false, false, false] (fr g n (.slice (some ⟨g10, 0, none⟩) n n) (.slice (some ⟨g11, 0, none⟩) 1 1) (.slice (some ⟨g13, 0, none⟩) n n) undef (.slice (some ⟨g16, 0, none⟩) 1 1) undef) W := by
 have hm0 := fun W => makeRw n hn W
 have hm1 := fun W => makeI n hn W
 refine wpAnyH_ready (rs := [6, 9]) (by kernel_rfl) (by simp) ?_
 unfold fr
 obtain ⟨p6, f6, o6⟩ := op2_6
 refine AllReadyH.cons (o := _) o6 (fun K hK => ?_) ?_
 ·go_simp
  refine hK.out _ _ trivial (fun _ => ?_)
  (try simp only [ty9, Act.put])
  exact cy_12467 hn hQ h.made2 g10 g11 g13 _ g16 (List.mem_cons_of_mem _ m10) (List.mem_cons_of_mem _ m11) (List.mem_cons_of_mem _ m13) List.mem_cons_self (List.mem_cons_of_mem _ m16)
 obtain ⟨p9, f9, o9⟩ := op2_9
 refine AllReadyH.cons (o := _) o9 (fun K hK => ?_) ?_
 ·go_simp
  go_at_call 89
  refine Calls.mono (repeat_any g16 n _ hn (h.at_ _ m16)) ?_
  rintro r5 w5 ⟨g18, rfl, hA⟩
  (try go_wp2_with fail)
  refine hK.out _ _ trivial (fun _ => ?_)
  (try simp only [ty9, Act.put])
  exact cy_12479 hn hQ (h.made1 hA) g10 g11 g13 g16 g18 (List.mem_cons_of_mem _ m10) (List.mem_cons_of_mem _ m11) (List.mem_cons_of_mem _ m13) (List.mem_cons_of_mem _ m16) List.mem_cons_self (fun e => by have h1 := h.lt _ m13; have h2 := hA.gu; simp only at h1; omega)
 exact AllReadyH.nil
set_option linter.unusedSimpArgs false in
set_option linter.unusedVariables false in
set_option maxRecDepth 100000 in
set_option maxHeartbeats 1000000 in
theorem cy_1246 {w W : World} {g n : Nat} {L : List (Nat × Nat)} {out : Nat → List Nat} {Q : Exit → Act → World → Prop} (hn : n ≤ 1000000) (hQ : Reg2 w g n out Q) (h : Cy w W n L) (g10 : Nat) (g11 : Nat) (g13 : Nat) (g15 : Nat) (m10 : (g10, 0) ∈ L) (m11 : (g11, 3) ∈ L) (m13 : (g13, 1) ∈ L) (m15 : (g15, 2) ∈ L) : wpAnyH Tryz.prog .any ops2 Q (fun _ => True) 5 #[true, true, true, true, true, true, true, false, true, false, false, false, false] (fr g n (.slice (some ⟨g10, 0, none⟩) n n) (.slice (some ⟨g11, 0, none⟩) 1 1) (.slice (some ⟨g13, 0, none⟩) n n) (.slice (some ⟨g15, 0, none⟩) n n) undef undef) W := by
 have hm0 := fun W => makeRw n hn W
 have hm1 := fun W => makeI n hn W
 refine wpAnyH_ready (rs := [7]) (by kernel_rfl) (by simp) ?_
 unfold fr
 obtain ⟨p7, f7, o7⟩ := op2_7
 refine AllReadyH.cons (o := _) o7 (fun K hK => ?_) ?_
 ·go_simp
  refine hK.out _ _ trivial (fun _ => ?_)
  (try simp only [ty9, Act.put])
  exact cy_12467 hn hQ h.made3 g10 g11 g13 g15 _ (List.mem_cons_of_mem _ m10) (List.mem_cons_of_mem _ m11) (List.mem_cons_of_mem _ m13) (List.mem_cons_of_mem _ m15) List.mem_cons_self
 exact AllReadyH.nil
set_option linter.unusedSimpArgs false in
set_option linter.unusedVariables false in
set_option maxRecDepth 100000 in
set_option maxHeartbeats 1000000 in
theorem cy_267 {w W : World} {g n : Nat} {L : List (Nat × Nat)} {out : Nat → List Nat} {Q : Exit → Act → World → Prop} (hn : n ≤ 1000000) (hQ : Reg2 w g n out Q) (h : Cy w W n L) (g11 : Nat) (g15 : Nat) (g16 : Nat) (m11 : (g11, 3) ∈ L) (m15 : (g15, 2) ∈ L) (m16 : (g16, 3) ∈ L) : wpAnyH Tryz.prog .any ops2 Q (fun _ => True) 6 #[true, false, true, true, false, true, true, true, true, false, false, false, false] (fr g n undef (.slice (some ⟨g11, 0, none⟩) 1 1) undef (.slice (some ⟨g15, 0, none⟩) n n) (.slice (some ⟨g16, 0, none⟩) 1 1) undef) W := by
 have hm0 := fun W => makeRw n hn W
 have hm1 := fun W => makeI n hn W
 refine wpAnyH_ready (rs := [1, 4]) (by kernel_rfl) (by simp) ?_
 unfold fr
 obtain ⟨p1, f1, o1⟩ := op2_1
 refine AllReadyH.cons (o := _) o1 (fun K hK => ?_) ?_
 ·go_simp
  refine hK.out _ _ trivial (fun _ => ?_)
  (try simp only [ty9, Act.put])
  exact cy_1267 hn hQ h.made0 _ g11 g15 g16 List.mem_cons_self (List.mem_cons_of_mem _ m11) (List.mem_cons_of_mem _ m15) (List.mem_cons_of_mem _ m16)
 obtain ⟨p4, f4, o4⟩ := op2_4
 refine AllReadyH.cons (o := _) o4 (fun K hK => ?_) ?_
 ·go_simp
  go_at_call 89
  refine Calls.mono (repeat_any g11 n _ hn (h.at_ _ m11)) ?_
  rintro r5 w5 ⟨g13, rfl, hA⟩
  (try go_wp2_with fail)
  refine hK.out _ _ trivial (fun _ => ?_)
  (try simp only [ty9, Act.put])
  exact cy_2467 hn hQ (h.made1 hA) g11 g13 g15 g16 (List.mem_cons_of_mem _ m11) List.mem_cons_self (List.mem_cons_of_mem _ m15) (List.mem_cons_of_mem _ m16)
 exact AllReadyH.nil
set_option linter.unusedSimpArgs false in
set_option linter.unusedVariables false in
set_option maxRecDepth 100000 in
set_option maxHeartbeats 1000000 in
theorem cy_247 {w W : World} {g n : Nat} {L : List (Nat × Nat)} {out : Nat → List Nat} {Q : Exit → Act → World → Prop} (hn : n ≤ 1000000) (hQ : Reg2 w g n out Q) (h : Cy w W n L) (g11 : Nat) (g13 : Nat) (g16 : Nat) (m11 : (g11, 3) ∈ L) (m13 : (g13, 1) ∈ L) (m16 : (g16, 3) ∈ L) : wpAnyH Tryz.prog .any ops2 Q (fun _ => True) 6 #[true, false, true, true, true, true, false, true, true, false, false, false, false] (fr g n undef (.slice (some ⟨g11, 0, none⟩) 1 1) (.slice (some ⟨g13, 0, none⟩) n n) undef (.slice (some ⟨g16, 0, none⟩) 1 1) undef) W := by
 have hm0 := fun W => makeRw n hn W
 have hm1 := fun W => makeI n hn W
 refine wpAnyH_ready (rs := [1, 6, 9]) (by kernel_rfl) (by simp) ?_
 unfold fr
 obtain ⟨p1, f1, o1⟩ := op2_1
 refine AllReadyH.cons (o := _) o1 (fun K hK => ?_) ?_
 ·go_simp
  refine hK.out _ _ trivial (fun _ => ?_)
  (try simp only [ty9, Act.put])
  exact cy_1247 hn hQ h.made0 _ g11 g13 g16 List.mem_cons_self (List.mem_cons_of_mem _ m11) (List.mem_cons_of_mem _ m13) (List.mem_cons_of_mem _ m16)
 obtain ⟨p6, f6, o6⟩ := op2_6
 refine AllReadyH.cons (o := _) o6 (fun K hK => ?_) ?_
 ·go_simp
  refine hK.out _ _ trivial (fun _ => ?_)
  (try simp only [ty9, Act.put])
  exact cy_2467 hn hQ h.made2 g11 g13 _ g16 (List.mem_cons_of_mem _ m11) (List.mem_cons_of_mem _ m13) List.mem_cons_self (List.mem_cons_of_mem _ m16)
 obtain ⟨p9, f9, o9⟩ := op2_9
 refine AllReadyH.cons (o := _) o9 (fun K hK => ?_) ?_
 ·go_simp
  go_at_call 89
  refine Calls.mono (repeat_any g16 n _ hn (h.at_ _ m16)) ?_
  rintro r5 w5 ⟨g18, rfl, hA⟩
  (try go_wp2_with fail)
  refine hK.out _ _ trivial (fun _ => ?_)
  (try simp only [ty9, Act.put])
  exact cy_2479 hn hQ (h.made1 hA) g11 g13 g16 g18 (List.mem_cons_of_mem _ m11) (List.mem_cons_of_mem _ m13) (List.mem_cons_of_mem _ m16) List.mem_cons_self (fun e => by have h1 := h.lt _ m13; have h2 := hA.gu; simp only at h1; omega)
 exact AllReadyH.nil
set_option linter.unusedSimpArgs false in
set_option linter.unusedVariables false in
set_option maxRecDepth 100000 in
set_option maxHeartbeats 1000000 in
theorem cy_246 {w W : World} {g n : Nat} {L : List (Nat × Nat)} {out : Nat → List Nat} {Q : Exit → Act → World → Prop} (hn : n ≤ 1000000) (hQ : Reg2 w g n out Q) (h : Cy w W n L) (g11 : Nat) (g13 : Nat) (g15 : Nat) (m11 : (g11, 3) ∈ L) (m13 : (g13, 1) ∈ L) (m15 : (g15, 2) ∈ L) : wpAnyH Tryz.prog .any ops2 Q (fun _ => True) 6 #[true, false, true, true, true, true, true, false, true, false, false, false, false] (fr g n undef (.slice (some ⟨g11, 0, none⟩) 1 1) (.slice (some ⟨g13, 0, none⟩) n n) (.slice (some ⟨g15, 0, none⟩) n n) undef undef) W := by
 have hm0 := fun W => makeRw n hn W
 have hm1 := fun W => makeI n hn W
 refine wpAnyH_ready (rs := [1, 7]) (by kernel_rfl) (by simp) ?_
 unfold fr
 obtain ⟨p1, f1, o1⟩ := op2_1
 refine AllReadyH.cons (o := _) o1 (fun K hK => ?_) ?_
 ·go_simp
  refine hK.out _ _ trivial (fun _ => ?_)
  (try simp only [ty9, Act.put])
  exact cy_1246 hn hQ h.made0 _ g11 g13 g15 List.mem_cons_self (List.mem_cons_of_mem _ m11) (List.mem_cons_of_mem _ m13) (List.mem_cons_of_mem _ m15)
 obtain ⟨p7, f7, o7⟩ := op2_7
 refine AllReadyH.cons (o := _) o7 (fun K hK => ?_) ?_
 ·go_simp
  refine hK.out _ _ trivial (fun _ => ?_)
  (try simp only [ty9, Act.put])
  exact cy_2467 hn hQ h.made3 g11 g13 g15 _ (List.mem_cons_of_mem _ m11) (List.mem_cons_of_mem _ m13) (List.mem_cons_of_mem _ m15) List.mem_cons_self
 exact AllReadyH.nil
set_option linter.unusedSimpArgs false in
set_option linter.unusedVariables false in
set_option maxRecDepth 100000 in
set_option maxHeartbeats 1000000 in
theorem cy_167 {w W : World} {g n : Nat} {L : List (Nat × Nat)} {out : Nat → List Nat} {Q : Exit → Act → World → Prop} (hn : n ≤ 1000000) (hQ : Reg2 w g n out Q) (h : Cy w W n L) (g10 : Nat) (g15 : Nat) (g16 : Nat) (m10 : (g10, 0) ∈ L) (m15 : (g15, 2) ∈ L) (m16 : (g16, 3) ∈ L) : wpAnyH Tryz.prog .any ops2 Q (fun _ => True) 6 #[true, true, false, true, false, true, true, true, true, false, false, false, false] (fr g n (.slice (some ⟨g10, 0, none⟩) n n) undef undef (.slice (some ⟨g15, 0, none⟩) n n) (.slice (some ⟨g16, 0, none⟩) 1 1) undef) W := by
 have hm0 := fun W => makeRw n hn W
 have hm1 := fun W => makeI n hn W
 refine wpAnyH_ready (rs := [2]) (by kernel_rfl) (by simp) ?_
 unfold fr
 obtain ⟨p2, f2, o2⟩ := op2_2
 refine AllReadyH.cons (o := _) o2 (fun K hK => ?_) ?_
 ·go_simp
  refine hK.out _ _ trivial (fun _ => ?_)
  (try simp only [ty9, Act.put])
  exact cy_1267 hn hQ h.made3 g10 _ g15 g16 (List.mem_cons_of_mem _ m10) List.mem_cons_self (List.mem_cons_of_mem _ m15) (List.mem_cons_of_mem _ m16)
 exact AllReadyH.nil
set_option linter.unusedSimpArgs false in
set_option linter.unusedVariables false in
set_option maxRecDepth 100000 in
set_option maxHeartbeats 1000000 in
theorem cy_127 {w W : World} {g n : Nat} {L : List (Nat × Nat)} {out : Nat → List Nat} {Q : Exit → Act → World → Prop} (hn : n ≤ 1000000) (hQ : Reg2 w g n out Q) (h : Cy w W n L) (g10 : Nat) (g11 : Nat) (g16 : Nat) (m10 : (g10, 0) ∈ L) (m11 : (g11, 3) ∈ L) (m16 : (g16, 3) ∈ L) : wpAnyH Tryz.prog .any ops2 Q (fun _ => True) 6 #[true, true, true, true, false, true, false, true, true, false, false, false, false] (fr g n (.slice (some ⟨g10, 0, none⟩) n n) (.slice (some ⟨g11, 0, none⟩) 1 1) undef undef (.slice (some ⟨g16, 0, none⟩) 1 1) undef) W := by
 have hm0 := fun W => makeRw n hn W
 have hm1 := fun W => makeI n hn W
 refine wpAnyH_ready (rs := [4, 6]) (by kernel_rfl) (by simp) ?_
 unfold fr
 obtain ⟨p4, f4, o4⟩ := op2_4
 refine AllReadyH.cons (o := _) o4 (fun K hK => ?_) ?_
 ·go_simp
  go_at_call 89
  refine Calls.mono (repeat_any g11 n _ hn (h.at_ _ m11)) ?_
  rintro r5 w5 ⟨g13, rfl, hA⟩
  (try go_wp2_with fail)
  refine hK.out _ _ trivial (fun _ => ?_)
  (try simp only [ty9, Act.put])
  exact cy_1247 hn hQ (h.made1 hA) g10 g11 g13 g16 (List.mem_cons_of_mem _ m10) (List.mem_cons_of_mem _ m11) List.mem_cons_self (List.mem_cons_of_mem _ m16)
 obtain ⟨p6, f6, o6⟩ := op2_6
 refine AllReadyH.cons (o := _) o6 (fun K hK => ?_) ?_
 ·go_simp
  refine hK.out _ _ trivial (fun _ => ?_)
  (try simp only [ty9, Act.put])
  exact cy_1267 hn hQ h.made2 g10 g11 _ g16 (List.mem_cons_of_mem _ m10) (List.mem_cons_of_mem _ m11) List.mem_cons_self (List.mem_cons_of_mem _ m16)
 exact AllReadyH.nil
set_option linter.unusedSimpArgs false in
set_option linter.unusedVariables false in
set_option maxRecDepth 100000 in
set_option maxHeartbeats 1000000 in
theorem cy_126 {w W : World} {g n : Nat} {L : List (Nat × Nat)} {out : Nat → List Nat} {Q : Exit → Act → World → Prop} (hn : n ≤ 1000000) (hQ : Reg2 w g n out Q) (h : Cy w W n L) (g10 : Nat) (g11 : Nat) (g15 : Nat) (m10 : (g10, 0) ∈ L) (m11 : (g11, 3) ∈ L) (m15 : (g15, 2) ∈ L) : wpAnyH Tryz.prog .any ops2 Q (fun _ => True) 6 #[true, true, true, true, false, true, true, false, true, false, false, false, false] (fr g n (.slice (some ⟨g10, 0, none⟩) n n) (.slice (some ⟨g11, 0, none⟩) 1 1) undef (.slice (some ⟨g15, 0, none⟩) n n) undef undef) W := by
 have hm0 := fun W => makeRw n hn W
 have hm1 := fun W => makeI n hn W
 refine wpAnyH_ready (rs := [4, 7]) (by kernel_rfl) (by simp) ?_
 unfold fr
 obtain ⟨p4, f4, o4⟩ := op2_4
 refine AllReadyH.cons (o := _) o4 (fun K hK => ?_) ?_
 ·go_simp
  go_at_call 89
  refine Calls.mono (repeat_any g11 n _ hn (h.at_ _ m11)) ?_
  rintro r5 w5 ⟨g13, rfl, hA⟩
  (try go_wp2_with fail)
  refine hK.out _ _ trivial (fun _ => ?_)
  (try simp only [ty9, Act.put])
  exact cy_1246 hn hQ (h.made1 hA) g10 g11 g13 g15 (List.mem_cons_of_mem _ m10) (List.mem_cons_of_mem _ m11) List.mem_cons_self (List.mem_cons_of_mem _ m15)
 obtain ⟨p7, f7, o7⟩ := op2_7
 refine AllReadyH.cons (o := _) o7 (fun K hK => ?_) ?_
 ·go_simp
  refine hK.out _ _ trivial (fun _ => ?_)
  (try simp only [ty9, Act.put])
  exact cy_1267 hn hQ h.made3 g10 g11 g15 _ (List.mem_cons_of_mem _ m10) (List.mem_cons_of_mem _ m11) (List.mem_cons_of_mem _ m15) List.mem_cons_self
 exact AllReadyH.nil
set_option linter.unusedSimpArgs false in
set_option linter.unusedVariables false in
set_option maxRecDepth 100000 in
set_option maxHeartbeats 1000000 in
theorem cy_124 {w W : World} {g n : Nat} {L : List (Nat × Nat)} {out : Nat → List Nat} {Q : Exit → Act → World → Prop} (hn : n ≤ 1000000) (hQ : Reg2 w g n out Q) (h : Cy w W n L) (g10 : Nat) (g11 : Nat) (g13 : Nat) (m10 : (g10, 0) ∈ L) (m11 : (g11, 3) ∈ L) (m13 : (g13, 1) ∈ L) : wpAnyH Tryz.prog .any ops2 Q (fun _ => True) 6 #[true, true, true, true, true, true, false, false, true, false, false, false, false] (fr g n (.slice (some ⟨g10, 0, none⟩) n n) (.slice (some ⟨g11, 0, none⟩) 1 1) (.slice (some ⟨g13, 0, none⟩) n n) undef undef undef) W := by
 have hm0 := fun W => makeRw n hn W
 have hm1 := fun W => makeI n hn W
 refine wpAnyH_ready (rs := [6, 7]) (by kernel_rfl) (by simp) ?_
 unfold fr
 obtain ⟨p6, f6, o6⟩ := op2_6
 refine AllReadyH.cons (o := _) o6 (fun K hK => ?_) ?_
 ·go_simp
  refine hK.out _ _ trivial (fun _ => ?_)
  (try simp only [ty9, Act.put])
  exact cy_1246 hn hQ h.made2 g10 g11 g13 _ (List.mem_cons_of_mem _ m10) (List.mem_cons_of_mem _ m11) (List.mem_cons_of_mem _ m13) List.mem_cons_self
 obtain ⟨p7, f7, o7⟩ := op2_7
 refine AllReadyH.cons (o := _) o7 (fun K hK => ?_) ?_
 ·go_simp
  refine hK.out _ _ trivial (fun _ => ?_)
  (try simp only [ty9, Act.put])
  exact cy_1247 hn hQ h.made3 g10 g11 g13 _ (List.mem_cons_of_mem _ m10) (List.mem_cons_of_mem _ m11) (List.mem_cons_of_mem _ m13) List.mem_cons_self
 exact AllReadyH.nil
set_option linter.unusedSimpArgs false in
set_option linter.unusedVariables false in
set_option maxRecDepth 100000 in
set_option maxHeartbeats 1000000 in
theorem cy_67 {w W : World} {g n : Nat} {L : List (Nat × Nat)} {out : Nat → List Nat} {Q : Exit → Act → World → Prop} (hn : n ≤ 1000000) (hQ : Reg2 w g n out Q) (h : Cy w W n L) (g15 : Nat) (g16 : Nat) (m15 : (g15, 2) ∈ L) (m16 : (g16, 3) ∈ L) : wpAnyH Tryz.prog .any ops2 Q (fun _ => True) 7 #[true, false, false, true, false, true, true, true, true, false, false, false, false] (fr g n undef undef undef (.slice (some ⟨g15, 0, none⟩) n n) (.slice (some ⟨g16, 0, none⟩) 1 1) undef) W := by
 have hm0 := fun W => makeRw n hn W
 have hm1 := fun W => makeI n hn W
 refine wpAnyH_ready (rs := [1, 2]) (by kernel_rfl) (by simp) ?_
 unfold fr
 obtain ⟨p1, f1, o1⟩ := op2_1
 refine AllReadyH.cons (o := _) o1 (fun K hK => ?_) ?_
 ·go_simp
  refine hK.out _ _ trivial (fun _ => ?_)
  (try simp only [ty9, Act.put])
  exact cy_167 hn hQ h.made0 _ g15 g16 List.mem_cons_self (List.mem_cons_of_mem _ m15) (List.mem_cons_of_mem _ m16)
 obtain ⟨p2, f2, o2⟩ := op2_2
 refine AllReadyH.cons (o := _) o2 (fun K hK => ?_) ?_
 ·go_simp
  refine hK.out _ _ trivial (fun _ => ?_)
  (try simp only [ty9, Act.put])
  exact cy_267 hn hQ h.made3 _ g15 g16 List.mem_cons_self (List.mem_cons_of_mem _ m15) (List.mem_cons_of_mem _ m16)
 exact AllReadyH.nil
set_option linter.unusedSimpArgs false in
set_option linter.unusedVariables false in
set_option maxRecDepth 100000 in
set_option maxHeartbeats 1000000 in
theorem cy_27 {w W : World} {g n : Nat} {L : List (Nat × Nat)} {out : Nat → List Nat} {Q : Exit → Act → World → Prop} (hn : n ≤ 1000000) (hQ : Reg2 w g n out Q) (h : Cy w W n L) (g11 : Nat) (g16 : Nat) (m11 : (g11, 3) ∈ L) (m16 : (g16, 3) ∈ L) : wpAnyH Tryz.prog .any ops2 Q (fun _ => True) 7 #[true, false, true, true, false, true, false, true, true, false, false, false, false] (fr g n undef (.slice (some ⟨g11, 0, none⟩) 1 1) undef undef (.slice (some ⟨g16, 0, none⟩) 1 1) undef) W := by
 have hm0 := fun W => makeRw n hn W
 have hm1 := fun W => makeI n hn W
 refine wpAnyH_ready (rs := [1, 4, 6]) (by kernel_rfl) (by simp) ?_
 unfold fr
 obtain ⟨p1, f1, o1⟩ := op2_1
 refine AllReadyH.cons (o := _) o1 (fun K hK => ?_) ?_
 ·go_simp
  refine hK.out _ _ trivial (fun _ => ?_)
  (try simp only [ty9, Act.put])
  exact cy_127 hn hQ h.made0 _ g11 g16 List.mem_cons_self (List.mem_cons_of_mem _ m11) (List.mem_cons_of_mem _ m16)
 obtain ⟨p4, f4, o4⟩ := op2_4
 refine AllReadyH.cons (o := _) o4 (fun K hK => ?_) ?_
 ·go_simp
  go_at_call 89
  refine Calls.mono (repeat_any g11 n _ hn (h.at_ _ m11)) ?_
  rintro r5 w5 ⟨g13, rfl, hA⟩
  (try go_wp2_with fail)
  refine hK.out _ _ trivial (fun _ => ?_)
  (try simp only [ty9, Act.put])
  exact cy_247 hn hQ (h.made1 hA) g11 g13 g16 (List.mem_cons_of_mem _ m11) List.mem_cons_self (List.mem_cons_of_mem _ m16)
 obtain ⟨p6, f6, o6⟩ := op2_6
 refine AllReadyH.cons (o := _) o6 (fun K hK => ?_) ?_
 ·go_simp
  refine hK.out _ _ trivial (fun _ => ?_)
  (try simp only [ty9, Act.put])
  exact cy_267 hn hQ h.made2 g11 _ g16 (List.mem_cons_of_mem _ m11) List.mem_cons_self (List.mem_cons_of_mem _ m16)
 exact AllReadyH.nil
set_option linter.unusedSimpArgs false in
set_option linter.unusedVariables false in
set_option maxRecDepth 100000 in
set_option maxHeartbeats 1000000 in
theorem cy_26 {w W : World} {g n : Nat} {L : List (Nat × Nat)} {out : Nat → List Nat} {Q : Exit → Act → World → Prop} (hn : n ≤ 1000000) (hQ : Reg2 w g n out Q) (h : Cy w W n L) (g11 : Nat) (g15 : Nat) (m11 : (g11, 3) ∈ L) (m15 : (g15, 2) ∈ L) : wpAnyH Tryz.prog .any ops2 Q (fun _ => True) 7 #[true, false, true, true, false, true, true, false, true, false, false, false, false] (fr g n undef (.slice (some ⟨g11, 0, none⟩) 1 1) undef (.slice (some ⟨g15, 0, none⟩) n n) undef undef) W := by
 have hm0 := fun W => makeRw n hn W
 have hm1 := fun W => makeI n hn W
 refine wpAnyH_ready (rs := [1, 4, 7]) (by kernel_rfl) (by simp) ?_
 unfold fr
 obtain ⟨p1, f1, o1⟩ := op2_1
 refine AllReadyH.cons (o := _) o1 (fun K hK => ?_) ?_
 ·go_simp
  refine hK.out _ _ trivial (fun _ => ?_)
  (try simp only [ty9, Act.put])
  exact cy_126 hn hQ h.made0 _ g11 g15 List.mem_cons_self (List.mem_cons_of_mem _ m11) (List.mem_cons_of_mem _ m15)
 obtain ⟨p4, f4, o4⟩ := op2_4
 refine AllReadyH.cons (o := _) o4 (fun K hK => ?_) ?_
 ·go_simp
  go_at_call 89
  refine Calls.mono (repeat_any g11 n _ hn (h.at_ _ m11)) ?_
  rintro r5 w5 ⟨g13, rfl, hA⟩
  (try go_wp2_with fail)
  refine hK.out _ _ trivial (fun _ => ?_)
  (try simp only [ty9, Act.put])
  exact cy_246 hn hQ (h.made1 hA) g11 g13 g15 (List.mem_cons_of_mem _ m11) List.mem_cons_self (List.mem_cons_of_mem _ m15)
 obtain ⟨p7, f7, o7⟩ := op2_7
 refine AllReadyH.cons (o := _) o7 (fun K hK => ?_) ?_
 ·go_simp
  refine hK.out _ _ trivial (fun _ => ?_)
  (try simp only [ty9, Act.put])
  exact cy_267 hn hQ h.made3 g11 g15 _ (List.mem_cons_of_mem _ m11) (List.mem_cons_of_mem _ m15) List.mem_cons_self
 exact AllReadyH.nil
set_option linter.unusedSimpArgs false in
set_option linter.unusedVariables false in
set_option maxRecDepth 100000 in
set_option maxHeartbeats 1000000 in
theorem cy_24 {w W : World} {g n : Nat} {L : List (Nat × Nat)} {out : Nat → List Nat} {Q : Exit → Act → World → Prop} (hn : n ≤ 1000000) (hQ : Reg2 w g n out Q) (h : Cy w W n L) (g11 : Nat) (g13 : Nat) (m11 : (g11, 3) ∈ L) (m13 : (g13, 1) ∈ L) : wpAnyH Tryz.prog .any ops2 Q (fun _ => True) 7 #[true, false, true, true, true, true, false, false, true, false, false, false, false] (fr g n undef (.slice (some ⟨g11, 0, none⟩) 1 1) (.slice (some ⟨g13, 0, none⟩) n n) undef undef undef) W := by
 have hm0 := fun W => makeRw n hn W
 have hm1 := fun W => makeI n hn W
 refine wpAnyH_ready (rs := [1, 6, 7]) (by kernel_rfl) (by simp) ?_
 unfold fr
 obtain ⟨p1, f1, o1⟩ := op2_1
 refine AllReadyH.cons (o := _) o1 (fun K hK => ?_) ?_
 ·go_simp
  refine hK.out _ _ trivial (fun _ => ?_)
  (try simp only [ty9, Act.put])
  exact cy_124 hn hQ h.made0 _ g11 g13 List.mem_cons_self (List.mem_cons_of_mem _ m11) (List.mem_cons_of_mem _ m13)
 obtain ⟨p6, f6, o6⟩ := op2_6
 refine AllReadyH.cons (o := _) o6 (fun K hK => ?_) ?_
 ·go_simp
  refine hK.out _ _ trivial (fun _ => ?_)
  (try simp only [ty9, Act.put])
  exact cy_246 hn hQ h.made2 g11 g13 _ (List.mem_cons_of_mem _ m11) (List.mem_cons_of_mem _ m13) List.mem_cons_self
 obtain ⟨p7, f7, o7⟩ := op2_7
 refine AllReadyH.cons (o := _) o7 (fun K hK => ?_) ?_
 ·go_simp
  refine hK.out _ _ trivial (fun _ => ?_)
  (try simp only [ty9, Act.put])
  exact cy_247 hn hQ h.made3 g11 g13 _ (List.mem_cons_of_mem _ m11) (List.mem_cons_of_mem _ m13) List.mem_cons_self
 exact AllReadyH.nil
set_option linter.unusedSimpArgs false in
set_option linter.unusedVariables false in
set_option maxRecDepth 100000 in
set_option maxHeartbeats 1000000 in
theorem cy_17 {w W : World} {g n : Nat} {L : List (Nat × Nat)} {out : Nat → List Nat} {Q : Exit → Act → World → Prop} (hn : n ≤ 1000000) (hQ : Reg2 w g n out Q) (h : Cy w W n L) (g10 : Nat) (g16 : Nat) (m10 : (g10, 0) ∈ L) (m16 : (g16, 3) ∈ L) : wpAnyH Tryz.prog .any ops2 Q (fun _ => True) 7 #[true, true, false, true, false, true, false, true, true, false, false, false, false] (fr g n (.slice (some ⟨g10, 0, none⟩) n n) undef undef undef (.slice (some ⟨g16, 0, none⟩) 1 1) undef) W := by
 have hm0 := fun W => makeRw n hn W
 have hm1 := fun W => makeI n hn W
 refine wpAnyH_ready (rs := [2, 6]) (by kernel_rfl) (by simp) ?_
 unfold fr
 obtain ⟨p2, f2, o2⟩ := op2_2
 refine AllReadyH.cons (o := _) o2 (fun K hK => ?_) ?_
 ·go_simp
  refine hK.out _ _ trivial (fun _ => ?_)
  (try simp only [ty9, Act.put])
  exact cy_127 hn hQ h.made3 g10 _ g16 (List.mem_cons_of_mem _ m10) List.mem_cons_self (List.mem_cons_of_mem _ m16)
 obtain ⟨p6, f6, o6⟩ := op2_6
 refine AllReadyH.cons (o := _) o6 (fun K hK => ?_) ?_
 ·go_simp
  refine hK.out _ _ trivial (fun _ => ?_)
  (try simp only [ty9, Act.put])
  exact cy_167 hn hQ h.made2 g10 _ g16 (List.mem_cons_of_mem _ m10) List.mem_cons_self (List.mem_cons_of_mem _ m16)
 exact AllReadyH.nil
set_option linter.unusedSimpArgs false in
set_option linter.unusedVariables false in
set_option maxRecDepth 100000 in
set_option maxHeartbeats 1000000 in
theorem cy_16 {w W : World} {g n : Nat} {L : List (Nat × Nat)} {out : Nat → List Nat} {Q : Exit → Act → World → Prop} (hn : n ≤ 1000000) (hQ : Reg2 w g n out Q) (h : Cy w W n L) (g10 : Nat) (g15 : Nat) (m10 : (g10, 0) ∈ L) (m15 : (g15, 2) ∈ L) : wpAnyH Tryz.prog .any ops2 Q (fun _ => True) 7 #[true, true, false, true, false, true, true, false, true, false, false, false, false] (fr g n (.slice (some ⟨g10, 0, none⟩) n n) undef undef (.slice (some ⟨g15, 0, none⟩) n n) undef undef) W := by
 have hm0 := fun W => makeRw n hn W
 have hm1 := fun W => makeI n hn W
 refine wpAnyH_ready (rs := [2, 7]) (by kernel_rfl) (by simp) ?_
 unfold fr
 obtain ⟨p2, f2, o2⟩ := op2_2
 refine AllReadyH.cons (o := _) o2 (fun K hK => ?_) ?_
 ·go_simp
  refine hK.out _ _ trivial (fun _ => ?_)
  (try simp only [ty9, Act.put])
  exact cy_126 hn hQ h.made3 g10 _ g15 (List.mem_cons_of_mem _ m10) List.mem_cons_self (List.mem_cons_of_mem _ m15)
 obtain ⟨p7, f7, o7⟩ := op2_7
 refine AllReadyH.cons (o := _) o7 (fun K hK => ?_) ?_
 ·go_simp
  refine hK.out _ _ trivial (fun _ => ?_)
  (try simp only [ty9, Act.put])
  exact cy_167 hn hQ h.made3 g10 g15 _ (List.mem_cons_of_mem _ m10) (List.mem_cons_of_mem _ m15) List.mem_cons_self
 exact AllReadyH.nil
set_option linter.unusedSimpArgs false in
set_option linter.unusedVariables false in
set_option maxRecDepth 100000 in
set_option maxHeartbeats 1000000 in
theorem cy_12 {w W : World} {g n : Nat} {L : List (Nat × Nat)} {out : Nat → List Nat} {Q : Exit → Act → World → Prop} (hn : n ≤ 1000000) (hQ : Reg2 w g n out Q) (h : Cy w W n L) (g10 : Nat) (g11 : Nat) (m10 : (g10, 0) ∈ L) (m11 : (g11, 3) ∈ L) : wpAnyH Tryz.prog .any ops2 Q (fun _ => True) 7 #[true, true, true, true, false, true, false, false, true, false, false, false, false] (fr g n (.slice (some ⟨g10, 0, none⟩) n n) (.slice (some ⟨g11, 0, none⟩) 1 1) undef undef undef undef) W := by
 have hm0 := fun W => makeRw n hn W
 have hm1 := fun W => makeI n hn W
 refine wpAnyH_ready (rs := [4, 6, 7]) (by kernel_rfl) (by simp) ?_
 unfold fr
 obtain ⟨p4, f4, o4⟩ := op2_4
 refine AllReadyH.cons (o := _) o4 (fun K hK => ?_) ?_
 ·go_simp
  go_at_call 89
  refine Calls.mono (repeat_any g11 n _ hn (h.at_ _ m11)) ?_
  rintro r5 w5 ⟨g13, rfl, hA⟩
  (try go_wp2_with fail)
  refine hK.out _ _ trivial (fun _ => ?_)
  (try simp only [ty9, Act.put])
  exact cy_124 hn hQ (h.made1 hA) g10 g11 g13 (List.mem_cons_of_mem _ m10) (List.mem_cons_of_mem _ m11) List.mem_cons_self
 obtain ⟨p6, f6, o6⟩ := op2_6
 refine AllReadyH.cons (o := _) o6 (fun K hK => ?_) ?_
 ·go_simp
  refine hK.out _ _ trivial (fun _ => ?_)
  (try simp only [ty9, Act.put])
  exact cy_126 hn hQ h.made2 g10 g11 _ (List.mem_cons_of_mem _ m10) (List.mem_cons_of_mem _ m11) List.mem_cons_self
 obtain ⟨p7, f7, o7⟩ := op2_7
 refine AllReadyH.cons (o := _) o7 (fun K hK => ?_) ?_
 ·go_simp
  refine hK.out _ _ trivial (fun _ => ?_)
  (try simp only [ty9, Act.put])
  exact cy_127 hn hQ h.made3 g10 g11 _ (List.mem_cons_of_mem _ m10) (List.mem_cons_of_mem _ m11) List.mem_cons_self
 exact AllReadyH.nil
set_option linter.unusedSimpArgs false in
set_option linter.unusedVariables false in
set_option maxRecDepth 100000 in
set_option maxHeartbeats 1000000 in
theorem cy_7 {w W : World} {g n : Nat} {L : List (Nat × Nat)} {out : Nat → List Nat} {Q : Exit → Act → World → Prop} (hn : n ≤ 1000000) (hQ : Reg2 w g n out Q) (h : Cy w W n L) (g16 : Nat) (m16 : (g16, 3) ∈ L) : wpAnyH Tryz.prog .any ops2 Q (fun _ => True) 8 #[true, false, false, true, false, true, false, true, true, false, false, false, false] (fr g n undef undef undef undef (.slice (some ⟨g16, 0, none⟩) 1 1) undef) W := by
 have hm0 := fun W => makeRw n hn W
 have hm1 := fun W => makeI n hn W
 refine wpAnyH_ready (rs := [1, 2, 6]) (by kernel_rfl) (by simp) ?_
 unfold fr
 obtain ⟨p1, f1, o1⟩ := op2_1
 refine AllReadyH.cons (o := _) o1 (fun K hK => ?_) ?_
 ·go_simp
  refine hK.out _ _ trivial (fun _ => ?_)
  (try simp only [ty9, Act.put])
  exact cy_17 hn hQ h.made0 _ g16 List.mem_cons_self (List.mem_cons_of_mem _ m16)
 obtain ⟨p2, f2, o2⟩ := op2_2
 refine AllReadyH.cons (o := _) o2 (fun K hK => ?_) ?_
 ·go_simp
  refine hK.out _ _ trivial (fun _ => ?_)
  (try simp only [ty9, Act.put])
  exact cy_27 hn hQ h.made3 _ g16 List.mem_cons_self (List.mem_cons_of_mem _ m16)
 obtain ⟨p6, f6, o6⟩ := op2_6
 refine AllReadyH.cons (o := _) o6 (fun K hK => ?_) ?_
 ·go_simp
  refine hK.out _ _ trivial (fun _ => ?_)
  (try simp only [ty9, Act.put])
  exact cy_67 hn hQ h.made2 _ g16 List.mem_cons_self (List.mem_cons_of_mem _ m16)
 exact AllReadyH.nil
set_option linter.unusedSimpArgs false in
set_option linter.unusedVariables false in
set_option maxRecDepth 100000 in
set_option maxHeartbeats 1000000 in
theorem cy_6 {w W : World} {g n : Nat} {L : List (Nat × Nat)} {out : Nat → List Nat} {Q : Exit → Act → World → Prop} (hn : n ≤ 1000000) (hQ : Reg2 w g n out Q) (h : Cy w W n L) (g15 : Nat) (m15 : (g15, 2) ∈ L) : wpAnyH Tryz.prog .any ops2 Q (fun _ => True) 8 #[true, false, false, true, false, true, true, false, true, false, false, false, false] (fr g n undef undef undef (.slice (some ⟨g15, 0, none⟩) n n) undef undef) W := by
 have hm0 := fun W => makeRw n hn W
 have hm1 := fun W => makeI n hn W
 refine wpAnyH_ready (rs := [1, 2, 7]) (by kernel_rfl) (by simp) ?_
 unfold fr
 obtain ⟨p1, f1, o1⟩ := op2_1
 refine AllReadyH.cons (o := _) o1 (fun K hK => ?_) ?_
 ·go_simp
  refine hK.out _ _ trivial (fun _ => ?_)
  (try simp only [ty9, Act.put])
  exact cy_16 hn hQ h.made0 _ g15 List.mem_cons_self (List.mem_cons_of_mem _ m15)
 obtain ⟨p2, f2, o2⟩ := op2_2
 refine AllReadyH.cons (o := _) o2 (fun K hK => ?_) ?_
 ·go_simp
  refine hK.out _ _ trivial (fun _ => ?_)
  (try simp only [ty9, Act.put])
  exact cy_26 hn hQ h.made3 _ g15 List.mem_cons_self (List.mem_cons_of_mem _ m15)
 obtain ⟨p7, f7, o7⟩ := op2_7
 refine AllReadyH.cons (o := _) o7 (fun K hK => ?_) ?_
 ·go_simp
  refine hK.out _ _ trivial (fun _ => ?_)
  (try simp only [ty9, Act.put])
  exact cy_67 hn hQ h.made3 g15 _ (List.mem_cons_of_mem _ m15) List.mem_cons_self
 exact AllReadyH.nil
set_option linter.unusedSimpArgs false in
set_option linter.unusedVariables false in
set_option maxRecDepth 100000 in
set_option maxHeartbeats 1000000 in
theorem cy_2 {w W : World} {g n : Nat} {L : List (Nat × Nat)} {out : Nat → List Nat} {Q : Exit → Act → World → Prop} (hn : n ≤ 1000000) (hQ : Reg2 w g n out Q) (h : Cy w W n L) (g11 : Nat) (m11 : (g11, 3) ∈ L) : wpAnyH Tryz.prog .any ops2 Q (fun _ => True) 8 #[true, false, true, true, false, true, false, false, true, false, false, false, false] (fr g n undef (.slice (some ⟨g11, 0, none⟩) 1 1) undef undef undef undef) W := by
 have hm0 := fun W => makeRw n hn W
 have hm1 := fun W => makeI n hn W
 refine wpAnyH_ready (rs := [1, 4, 6, 7]) (by kernel_rfl) (by simp) ?_
 unfold fr
 obtain ⟨p1, f1, o1⟩ := op2_1
 refine AllReadyH.cons (o := _) o1 (fun K hK => ?_) ?_
 ·go_simp
  refine hK.out _ _ trivial (fun _ => ?_)
  (try simp only [ty9, Act.put])
  exact cy_12 hn hQ h.made0 _ g11 List.mem_cons_self (List.mem_cons_of_mem _ m11)
 obtain ⟨p4, f4, o4⟩ := op2_4
 refine AllReadyH.cons (o := _) o4 (fun K hK => ?_) ?_
 ·go_simp
  go_at_call 89
  refine Calls.mono (repeat_any g11 n _ hn (h.at_ _ m11)) ?_
  rintro r5 w5 ⟨g13, rfl, hA⟩
  (try go_wp2_with fail)
  refine hK.out _ _ trivial (fun _ => ?_)
  (try simp only [ty9, Act.put])
  exact cy_24 hn hQ (h.made1 hA) g11 g13 (List.mem_cons_of_mem _ m11) List.mem_cons_self
 obtain ⟨p6, f6, o6⟩ := op2_6
 refine AllReadyH.cons (o := _) o6 (fun K hK => ?_) ?_
 ·go_simp
  refine hK.out _ _ trivial (fun _ => ?_)
  (try simp only [ty9, Act.put])
  exact cy_26 hn hQ h.made2 g11 _ (List.mem_cons_of_mem _ m11) List.mem_cons_self
 obtain ⟨p7, f7, o7⟩ := op2_7
 refine AllReadyH.cons (o := _) o7 (fun K hK => ?_) ?_
 ·go_simp
  refine hK.out _ _ trivial (fun _ => ?_)
  (try simp only [ty9, Act.put])
  exact cy_27 hn hQ h.made3 g11 _ (List.mem_cons_of_mem _ m11) List.mem_cons_self
 exact AllReadyH.nil
set_option linter.unusedSimpArgs false in
set_option linter.unusedVariables false in
set_option maxRecDepth 100000 in
set_option maxHeartbeats 1000000 in
theorem cy_1 {w W : World} {g n : Nat} {L : List (Nat × Nat)} {out : Nat → List Nat} {Q : Exit → Act → World → Prop} (hn : n ≤ 1000000) (hQ : Reg2 w g n out Q) (h : Cy w W n L) (g10 : Nat) (m10 : (g10, 0) ∈ L) : wpAnyH Tryz.prog .any ops2 Q (fun _ => True) 8 #[true, true, false, true, false, true, false, false, true, false, false, false, false] (fr g n (.slice (some ⟨g10, 0, none⟩) n n) undef undef undef undef undef) W := by
 have hm0 := fun W => makeRw n hn W
 have hm1 := fun W => makeI n hn W
 refine wpAnyH_ready (rs := [2, 6, 7]) (by kernel_rfl) (by simp) ?_
 unfold fr
 obtain ⟨p2, f2, o2⟩ := op2_2
 refine AllReadyH.cons (o := _) o2 (fun K hK => ?_) ?_
 ·go_simp
  refine hK.out _ _ trivial (fun _ => ?_)
  (try simp only [ty9, Act.put])
  exact cy_12 hn hQ h.made3 g10 _ (List.mem_cons_of_mem _ m10) List.mem_cons_self
 obtain ⟨p6, f6, o6⟩ := op2_6
 refine AllReadyH.cons (o := _) o6 (fun K hK => ?_) ?_
 ·go_simp
  refine hK.out _ _ trivial (fun _ => ?_)
  (try simp only [ty9, Act.put])
  exact cy_16 hn hQ h.made2 g10 _ (List.mem_cons_of_mem _ m10) List.mem_cons_self
 obtain ⟨p7, f7, o7⟩ := op2_7
 refine AllReadyH.cons (o := _) o7 (fun K hK => ?_) ?_
 ·go_simp
  refine hK.out _ _ trivial (fun _ => ?_)
  (try simp only [ty9, Act.put])
  exact cy_17 hn hQ h.made3 g10 _ (List.mem_cons_of_mem _ m10) List.mem_cons_self
 exact AllReadyH.nil
set_option linter.unusedSimpArgs false in
set_option linter.unusedVariables false in
set_option maxRecDepth 100000 in
set_option maxHeartbeats 1000000 in
theorem cy_o {w W : World} {g n : Nat} {L : List (Nat × Nat)} {out : Nat → List Nat} {Q : Exit → Act → World → Prop} (hn : n ≤ 1000000) (hQ : Reg2 w g n out Q) (h : Cy w W n L)   : wpAnyH Tryz.prog .any ops2 Q (fun _ => True) 9 #[true, false, false, true, false, true, false, false, true, false, false, false, false] (fr g n undef undef undef undef undef undef) W := by
 have hm0 := fun W => makeRw n hn W
 have hm1 := fun W => makeI n hn W
 refine wpAnyH_ready (rs := [1, 2, 6, 7]) (by kernel_rfl) (by simp) ?_
 unfold fr
 obtain ⟨p1, f1, o1⟩ := op2_1
 refine AllReadyH.cons (o := _) o1 (fun K hK => ?_) ?_
 ·go_simp
  refine hK.out _ _ trivial (fun _ => ?_)
  (try simp only [ty9, Act.put])
  exact cy_1 hn hQ h.made0 _ List.mem_cons_self
 obtain ⟨p2, f2, o2⟩ := op2_2
 refine AllReadyH.cons (o := _) o2 (fun K hK => ?_) ?_
 ·go_simp
  refine hK.out _ _ trivial (fun _ => ?_)
  (try simp only [ty9, Act.put])
  exact cy_2 hn hQ h.made3 _ List.mem_cons_self
 obtain ⟨p6, f6, o6⟩ := op2_6
 refine AllReadyH.cons (o := _) o6 (fun K hK => ?_) ?_
 ·go_simp
  refine hK.out _ _ trivial (fun _ => ?_)
  (try simp only [ty9, Act.put])
  exact cy_6 hn hQ h.made2 _ List.mem_cons_self
 obtain ⟨p7, f7, o7⟩ := op2_7
 refine AllReadyH.cons (o := _) o7 (fun K hK => ?_) ?_
 ·go_simp
  refine hK.out _ _ trivial (fun _ => ?_)
  (try simp only [ty9, Act.put])
  exact cy_7 hn hQ h.made3 _ List.mem_cons_self
 exact AllReadyH.nil
set_option linter.unusedSimpArgs false in
set_option maxRecDepth 100000 in
set_option maxHeartbeats 1000000 in
theorem reg2_any {w : World} {g n : Nat} {out : Nat → List Nat} {Q : Exit → Act → World → Prop} {ops : Array Oper} (ho : ops = ops2) (hn : n ≤ 1000000) (hQ : Reg2 w g n out Q) (v9 v12 v14 v17 : Value) (hv : v9 = undef ∧ v12 = undef ∧ v14 = undef ∧ v17 = undef) : (Code.region 2 ops true).wp Tryz.prog Q { tmps := #[.pointer (some ⟨g, 0, none⟩), undef, .slice none 0 0, .int .i64 n, undef, undef, undef, .pointer (some ⟨g, 0, none⟩), .int .i64 n, v9, undef, undef, v12, undef, v14, undef, undef, v17, undef, undef, undef, undef, undef, undef, undef, undef, undef, undef, undef, undef, undef, undef, undef, undef, undef, undef, undef, undef, undef, undef, undef, undef, undef, undef, undef, undef, undef, undef, undef, undef, undef, undef, undef, undef, undef, undef], defers := [] } w := by
 obtain ⟨rfl, rfl, rfl, rfl⟩ := hv
 subst ho
 obtain ⟨p0, f0, o0⟩ := op2_0
 obtain ⟨p3, f3, o3⟩ := op2_3
 obtain ⟨p5, f5, o5⟩ := op2_5
 obtain ⟨p8, f8, o8⟩ := op2_8
 refine wp_region_held_drew (S := (fun _ => True)) (by kernel_rfl) trivial (fun hHeld => ?_)
 refine wpAnyH_take (i := 0) (oi := _) (v := ?_) o0 (by kernel_rfl) (by kernel_rfl) (by kernel_rfl) (hQ.2 _ _) (Or.inl ⟨by rfl, ?_⟩) trivial ?_; rotate_left; (focus (intro w hSw; go_simp; (try with_reducible rfl))); (try simp only [ty9, Act.put])
 refine wpAnyH_take (i := 3) (oi := _) (v := ?_) o3 (by kernel_rfl) (by kernel_rfl) (by kernel_rfl) (hQ.2 _ _) (Or.inl ⟨by rfl, ?_⟩) trivial ?_; rotate_left; (focus (intro w hSw; go_simp; (try with_reducible rfl))); (try simp only [ty9, Act.put])
 refine wpAnyH_take (i := 5) (oi := _) (v := ?_) o5 (by kernel_rfl) (by kernel_rfl) (by kernel_rfl) (hQ.2 _ _) (Or.inl ⟨by rfl, ?_⟩) trivial ?_; rotate_left; (focus (intro w hSw; go_simp; (try with_reducible rfl))); (try simp only [ty9, Act.put])
 refine wpAnyH_take (i := 8) (oi := _) (v := ?_) o8 (by kernel_rfl) (by kernel_rfl) (by kernel_rfl) (hQ.2 _ _) (Or.inl ⟨by rfl, ?_⟩) trivial ?_; rotate_left; (focus (intro w hSw; go_simp; (try with_reducible rfl))); (try simp only [ty9, Act.put])
 exact cy_o hn hQ (Cy.start w n)
end Go.Proofs.YtplofbabfkkimaaGreatDoor.Ts
/- Plain facts on edges, their order and one form of their lists; on classes and their one form. Nothing of the program is in it. -/
namespace Go.Proofs.YtplofbabfkkimaaGreatDoor.Sy
abbrev Ed : Type := Int × Int × Int
def lt (a b : Ed) : Bool := if a.1 != b.1 then decide (a.1 < b.1) else if a.2.1 != b.2.1 then decide (a.2.1 < b.2.1) else decide (a.2.2 < b.2.2)
theorem lt_iff (a b : Ed) : lt a b = true ↔ a.1 < b.1 ∨ a.1 = b.1 ∧ (a.2.1 < b.2.1 ∨ a.2.1 = b.2.1 ∧ a.2.2 < b.2.2) := by
 unfold lt
 by_cases h1 : a.1 = b.1
 ·by_cases h2 : a.2.1 = b.2.1 <;> simp [h1, h2]
 ·simp [h1]
theorem lt_irrefl (a : Ed) : lt a a = false := by
 cases h : lt a a with
 | false => rfl
 | true => rw [lt_iff] at h; omega
theorem lt_trans {a b c : Ed} (h1 : lt a b = true) (h2 : lt b c = true) : lt a c = true := by
 rw [lt_iff] at *; omega
theorem lt_asymm {a b : Ed} (h : lt a b = true) : lt b a = false := by
 cases h2 : lt b a with
 | false => rfl
 | true => rw [lt_iff] at h h2; omega
theorem eq_of_not {a b : Ed} (h1 : lt a b = false) (h2 : lt b a = false) : a = b := by
 have h3 : ¬ lt a b = true := by rw [h1]; simp
 have h4 : ¬ lt b a = true := by rw [h2]; simp
 rw [lt_iff] at h3 h4
 obtain ⟨x, y, z⟩ := a
 obtain ⟨u, v, w⟩ := b
 simp only at h3 h4
 have e1 : x = u := by omega
 have e2 : y = v := by omega
 have e3 : z = w := by omega
 rw [e1, e2, e3]
def Str : List Ed → Prop
 | [] => True
 | [_] => True
 | a :: b :: r => lt a b = true ∧ Str (b :: r)
theorem Str.tail {a : Ed} {r : List Ed} (h : Str (a :: r)) : Str r := by
 cases r with
 | nil => trivial
 | cons b s => exact h.2
theorem Str.head {a : Ed} {r : List Ed} (h : Str (a :: r)) : ∀ x ∈ r, lt a x = true := by
 induction r generalizing a with
 | nil => intro x hx; simp at hx
 | cons b s ih =>
   intro x hx
   rcases List.mem_cons.1 hx with rfl | hx
   ·exact h.1
   ·exact lt_trans h.1 (ih h.2 x hx)
theorem Str.cons {a : Ed} {r : List Ed} (h : Str r) (h2 : ∀ x ∈ r, lt a x = true) : Str (a :: r) := by
 cases r with
 | nil => trivial
 | cons b s => exact ⟨h2 b List.mem_cons_self, h⟩
theorem Str.snoc {l : List Ed} {x : Ed} (h : Str l) (h2 : ∀ y ∈ l, lt y x = true) : Str (l ++ [x]) := by
 induction l with
 | nil => trivial
 | cons a r ih =>
   refine Str.cons (ih h.tail fun y hy => h2 y (List.mem_cons_of_mem _ hy)) fun y hy => ?_
   rcases List.mem_append.1 hy with hy | hy
   ·exact h.head y hy
   ·rw [List.mem_singleton.1 hy]; exact h2 a List.mem_cons_self
theorem Str.unique {l m : List Ed} (hl : Str l) (hm : Str m) (h : ∀ x, x ∈ l ↔ x ∈ m) : l = m := by
 induction l generalizing m with
 | nil =>
   cases m with
   | nil => rfl
   | cons b s => exact absurd ((h b).2 List.mem_cons_self) (by simp)
 | cons a r ih =>
   cases m with
   | nil => exact absurd ((h a).1 List.mem_cons_self) (by simp)
   | cons b s =>
     have e : a = b := by
      rcases List.mem_cons.1 ((h a).1 List.mem_cons_self) with e | ha
      ·exact e
      ·rcases List.mem_cons.1 ((h b).2 List.mem_cons_self) with e | hb
       ·exact e.symm
       ·have h1 := hm.head a ha
        have h2 := hl.head b hb
        rw [lt_asymm h1] at h2
        cases h2
     subst e
     congr 1
     refine ih hl.tail hm.tail fun x => ⟨fun hx => ?_, fun hx => ?_⟩
     ·rcases List.mem_cons.1 ((h x).1 (List.mem_cons_of_mem _ hx)) with e | hx2
      ·subst e; have h1 := hl.head x hx; rw [lt_irrefl] at h1; cases h1
      ·exact hx2
     ·rcases List.mem_cons.1 ((h x).2 (List.mem_cons_of_mem _ hx)) with e | hx2
      ·subst e; have h1 := hm.head x hx; rw [lt_irrefl] at h1; cases h1
      ·exact hx2
def ins (x : Ed) : List Ed → List Ed
 | [] => [x]
 | a :: r => if lt x a then x :: a :: r else if lt a x then a :: ins x r else a :: r
theorem ins_mem (x y : Ed) (l : List Ed) : y ∈ ins x l ↔ y = x ∨ y ∈ l := by
 induction l with
 | nil => simp [ins]
 | cons a r ih =>
   unfold ins
   cases h1 : lt x a with
   | true => simp
   | false =>
     cases h2 : lt a x with
     | true =>
       simp only [Bool.false_eq_true, if_false, if_true, List.mem_cons, ih]
       constructor
       ·rintro (h | h | h) <;> simp [h]
       ·rintro (h | h | h) <;> simp [h]
     | false =>
       have e := eq_of_not h1 h2
       subst e
       simp
theorem ins_str (x : Ed) (l : List Ed) (h : Str l) : Str (ins x l) := by
 induction l with
 | nil => trivial
 | cons a r ih =>
   unfold ins
   cases h1 : lt x a with
   | true => exact ⟨h1, h⟩
   | false =>
     cases h2 : lt a x with
     | true =>
       simp only [Bool.false_eq_true, if_false, if_true]
       refine Str.cons (ih h.tail) fun y hy => ?_
       rcases (ins_mem x y r).1 hy with rfl | hy
       ·exact h2
       ·exact h.head y hy
     | false => exact h
def nf : List Ed → List Ed
 | [] => []
 | a :: r => ins a (nf r)
theorem nf_mem (l : List Ed) (x : Ed) : x ∈ nf l ↔ x ∈ l := by
 induction l with
 | nil => simp [nf]
 | cons a r ih => simp [nf, ins_mem, ih]
theorem nf_str (l : List Ed) : Str (nf l) := by
 induction l with
 | nil => trivial
 | cons a r ih => exact ins_str a _ ih
theorem nf_of {l m : List Ed} (h : Str m) (hm : ∀ x, x ∈ m ↔ x ∈ l) : m = nf l := h.unique (nf_str l) fun x => (hm x).trans (nf_mem l x).symm
theorem nf_idem (l : List Ed) : nf (nf l) = nf l := (nf_of (nf_str l) fun _ => Iff.rfl).symm
theorem ins_len (x : Ed) (l : List Ed) : (ins x l).length ≤ l.length + 1 := by
 induction l with
 | nil => simp [ins]
 | cons a r ih =>
   unfold ins
   cases h1 : lt x a <;> cases h2 : lt a x <;> simp <;> omega
theorem nf_len (l : List Ed) : (nf l).length ≤ l.length := by
 induction l with
 | nil => simp [nf]
 | cons a r ih => have := ins_len a (nf r); simp only [nf, List.length_cons]; omega
theorem str_len {m l : List Ed} (h : Str m) (hs : ∀ x ∈ m, x ∈ l) : m.length ≤ l.length := by
 have e : m = nf m := nf_of h fun _ => Iff.rfl
 induction m generalizing l with
 | nil => simp
 | cons a r ih =>
   have ha := hs a List.mem_cons_self
   have h1 : r.length ≤ (l.erase a).length := by
    refine ih h.tail (fun x hx => ?_) (nf_of h.tail fun _ => Iff.rfl)
    have h2 := h.head x hx
    have hne : x ≠ a := fun e => by rw [e, lt_irrefl] at h2; cases h2
    exact (List.mem_erase_of_ne hne).2 (hs x (List.mem_cons_of_mem _ hx))
   rw [List.length_erase_of_mem ha] at h1
   have := List.length_pos_of_mem ha
   simp only [List.length_cons]
   omega
def put (out : List Ed) (e : Ed) : List Ed := if out.getLast? = some e then out else out ++ [e]
theorem put_str {out : List Ed} {e : Ed} (h : Str out) (hle : ∀ x ∈ out, lt e x = false) : Str (put out e) := by
 unfold put
 split
 ·exact h
 ·rename_i hne
  refine h.snoc fun y hy => ?_
  have hys : ∀ (l : List Ed) (z : Ed), Str l → l.getLast? = some z → ∀ y ∈ l, y = z ∨ lt y z = true := fun l => by
   induction l with
   | nil => intro z _ hz; simp at hz
   | cons a r ih =>
     intro z hs hz y hy
     cases r with
     | nil => simp at hz hy; subst hz; exact .inl hy
     | cons b s =>
       rw [List.getLast?_cons_cons] at hz
       rcases List.mem_cons.1 hy with rfl | hy
       ·have hzm := List.mem_of_getLast? hz
        exact .inr (hs.head z hzm)
       ·exact ih z hs.tail hz y hy
  cases hl : out.getLast? with
  | none => rw [List.getLast?_eq_none_iff] at hl; subst hl; simp at hy
  | some z =>
    have hzm := List.mem_of_getLast? hl
    have hz1 : lt z e = true := by
     cases h1 : lt z e with
     | true => rfl
     | false => exact absurd (by rw [hl, eq_of_not h1 (hle z hzm)]) hne
    rcases hys out z h hl y hy with rfl | h2
    ·exact hz1
    ·exact lt_trans h2 hz1
theorem put_mem (out : List Ed) (e x : Ed) : x ∈ put out e ↔ x ∈ out ∨ x = e := by
 unfold put
 split
 ·rename_i h
  have := List.mem_of_getLast? h
  constructor
  ·exact .inl
  ·rintro (h | rfl)
   ·exact h
   ·exact this
 ·simp
structure Mg (a b : List Ed) (i k : Nat) (out : List Ed) : Prop where
 s : Str out
 m : ∀ x, x ∈ out ↔ x ∈ a.take i ∨ x ∈ b.take k
 ha : ∀ x ∈ out, ∀ y ∈ a.drop i, lt y x = false
 hb : ∀ x ∈ out, ∀ y ∈ b.drop k, lt y x = false
theorem Mg.start (a b : List Ed) : Mg a b 0 0 [] := ⟨trivial, fun x => by simp, fun x hx => by simp at hx, fun x hx => by simp at hx⟩
theorem Mg.swap {a b : List Ed} {i k : Nat} {out : List Ed} (h : Mg a b i k out) : Mg b a k i out := ⟨h.s, fun x => (h.m x).trans or_comm, h.hb, h.ha⟩
theorem Mg.left {a b : List Ed} {i k : Nat} {out : List Ed} (h : Mg a b i k out) (hsa : Str a) (hsb : Str b) {e : Ed} (he : a[i]? = some e) (hk : ∀ f, b[k]? = some f → lt f e = false) : Mg a b (i + 1) k (put out e) := by
 obtain ⟨hl, rfl⟩ := List.getElem?_eq_some_iff.1 he
 have hd : a.drop i = a[i] :: a.drop (i + 1) := List.drop_eq_getElem_cons hl
 have hstr : ∀ (l : List Ed) (n : Nat), Str l → Str (l.drop n) := fun l n hs => by
  induction n generalizing l with
  | zero => exact hs
  | succ n ih =>
    cases l with
    | nil => exact hs
    | cons c r => exact ih r hs.tail
 have h1 : Str (a[i] :: a.drop (i + 1)) := by rw [← hd]; exact hstr a i hsa
 have hbk : ∀ y ∈ b.drop k, lt y a[i] = false := fun y hy => by
  cases hb : b.drop k with
  | nil => rw [hb] at hy; simp at hy
  | cons f r =>
    have hkl : k < b.length := by
     rcases Nat.lt_or_ge k b.length with h2 | h2
     ·exact h2
     ·rw [List.drop_eq_nil_of_le h2] at hb; cases hb
    have hf : f = b[k] := by rw [List.drop_eq_getElem_cons hkl] at hb; exact (List.cons.inj hb).1.symm
    have h2 := hk f (by rw [hf]; exact List.getElem?_eq_getElem hkl)
    have h3 : Str (f :: r) := by rw [← hb]; exact hstr b k hsb
    rw [hb] at hy
    rcases List.mem_cons.1 hy with rfl | hy
    ·exact h2
    ·cases h4 : lt y a[i] with
     | false => rfl
     | true => have h5 := lt_trans (h3.head y hy) h4; rw [h2] at h5; cases h5
 have hout : ∀ x ∈ out, lt a[i] x = false := fun x hx => h.ha x hx _ (by rw [hd]; exact List.mem_cons_self)
 refine ⟨put_str h.s hout, fun x => ?_, fun x hx y hy => ?_, fun x hx y hy => ?_⟩
 ·rw [put_mem, h.m, List.take_succ_eq_append_getElem hl]
  simp only [List.mem_append, List.mem_singleton]
  constructor
  ·rintro ((h | h) | h) <;> simp [h]
  ·rintro ((h | h) | h) <;> simp [h]
 ·rcases (put_mem _ _ _).1 hx with hx | rfl
  ·exact h.ha x hx y (by rw [hd]; exact List.mem_cons_of_mem _ hy)
  ·exact lt_asymm (h1.head y hy)
 ·rcases (put_mem _ _ _).1 hx with hx | rfl
  ·exact h.hb x hx y hy
  ·exact hbk y hy
def right (n k s : Int) (es : List Ed) : Bool :=
 decide (0 ≤ n ∧ n ≤ 1000 ∧ 1 ≤ k ∧ k ≤ 201 ∧ es.length ≤ 10000) && decide ((n = 0 → s = 0) ∧ (0 < n → 0 ≤ s ∧ s < n)) && es.all fun e => decide (0 ≤ e.1 ∧ e.1 < n ∧ 0 ≤ e.2.2 ∧ e.2.2 < n ∧ 0 ≤ e.2.1 ∧ e.2.1 < k)
def turn (e : Ed) : Ed := (e.2.2, e.2.1, e.1)
def place (c : Int) : List Int → Nat
 | [] => 0
 | a :: r => if a = c then 0 else place c r + 1
theorem place_le (c : Int) (l : List Int) : place c l ≤ l.length := by
 induction l with
 | nil => simp [place]
 | cons a r ih => unfold place; split <;> simp <;> omega
def canonG : List Int → List Int → List Nat
 | _, [] => []
 | seen, c :: r => place c seen :: canonG (if place c seen < seen.length then seen else seen ++ [c]) r
def canon (l : List Int) : List Nat := canonG [] l
def seenG : List Int → List Int → List Int
 | seen, [] => seen
 | seen, c :: r => seenG (if place c seen < seen.length then seen else seen ++ [c]) r
theorem canonG_len (l : List Int) : ∀ seen, (canonG seen l).length = l.length := by
 induction l with
 | nil => intro _; rfl
 | cons c r ih => intro seen; simp [canonG, ih]
theorem canonG_app (a b : List Int) : ∀ seen, canonG seen (a ++ b) = canonG seen a ++ canonG (seenG seen a) b := by
 induction a with
 | nil => intro _; rfl
 | cons c r ih => intro seen; simp only [List.cons_append, canonG, seenG]; rw [ih]
theorem seenG_app (a b : List Int) : ∀ seen, seenG seen (a ++ b) = seenG (seenG seen a) b := by
 induction a with
 | nil => intro _; rfl
 | cons c r ih => intro seen; simp only [List.cons_append, seenG]; rw [ih]
theorem seenG_len (l : List Int) : ∀ seen, (seenG seen l).length ≤ seen.length + l.length := by
 induction l with
 | nil => intro _; simp [seenG]
 | cons c r ih =>
   intro seen
   simp only [seenG]
   have h1 := ih (if place c seen < seen.length then seen else seen ++ [c])
   have h2 : (if place c seen < seen.length then seen else seen ++ [c]).length ≤ seen.length + 1 := by split <;> simp
   simp only [List.length_cons]
   omega
def top : List Nat → Nat
 | [] => 0
 | k :: r => max (k + 1) (top r)
def together (l : List Int) : Nat := top (canon l)
def formG : Nat → List Int → Bool
 | _, [] => true
 | n, c :: r => decide (0 ≤ c ∧ c ≤ n) && formG (if c = (n : Int) then n + 1 else n) r
end Go.Proofs.YtplofbabfkkimaaGreatDoor.Sy
/- The steps of a state: plain facts. -/
namespace Go.Proofs.YtplofbabfkkimaaGreatDoor
def Sy.steps (es : List Sy.Ed) (i : Int) : List (Int × Int) := (es.filter fun e => e.1 == i).map fun e => (e.2.1, e.2.2)
theorem Sy.steps_snoc (es : List Sy.Ed) (e : Sy.Ed) (i : Int) : Sy.steps (es ++ [e]) i = if e.1 = i then Sy.steps es i ++ [(e.2.1, e.2.2)] else Sy.steps es i := by
 unfold Sy.steps
 rw [List.filter_append, List.map_append]
 by_cases h : e.1 = i <;> simp [h]
theorem Sy.steps_len (es : List Sy.Ed) (i : Int) : (Sy.steps es i).length ≤ es.length := by
 unfold Sy.steps
 rw [List.length_map]
 exact List.length_filter_le _ _
end Go.Proofs.YtplofbabfkkimaaGreatDoor
/- Plain facts on rows of edges in order: how many come ahead of a row, and where a row stands. -/
namespace Go.Proofs.YtplofbabfkkimaaGreatDoor.Sy
def cnt (l : List Ed) (r : Int) : Nat := (l.filter fun e => decide (e.1 < r)).length
def Rows (l : List Ed) : Prop := l.Pairwise fun a b => a.1 ≤ b.1
theorem cnt_le (l : List Ed) (r : Int) : cnt l r ≤ l.length := List.length_filter_le _ _
theorem cnt_all {l : List Ed} {r : Int} (h : ∀ e ∈ l, e.1 < r) : cnt l r = l.length := by
 unfold cnt
 rw [List.filter_eq_self.2 fun e he => by simpa using h e he]
theorem cnt_none {l : List Ed} {r : Int} (h : ∀ e ∈ l, ¬ e.1 < r) : cnt l r = 0 := by
 unfold cnt
 rw [List.filter_eq_nil_iff.2 fun e he => by simpa using h e he]
 rfl
theorem cnt_cons (e : Ed) (l : List Ed) (r : Int) : cnt (e :: l) r = (if e.1 < r then 1 else 0) + cnt l r := by
 unfold cnt
 rw [List.filter_cons]
 by_cases h : e.1 < r
 ·simp [h]; omega
 ·simp [h]
theorem cnt_snoc (l : List Ed) (e : Ed) (r : Int) : cnt (l ++ [e]) r = cnt l r + if e.1 < r then 1 else 0 := by
 unfold cnt
 rw [List.filter_append, List.length_append]
 by_cases h : e.1 < r <;> simp [h]
theorem cnt_mono (l : List Ed) (r : Int) : cnt l r ≤ cnt l (r + 1) := by
 induction l with
 | nil => simp [cnt]
 | cons e t ih =>
   rw [cnt_cons, cnt_cons]
   by_cases h : e.1 < r
   ·have h2 : e.1 < r + 1 := by omega
    simp [h, h2]; exact ih
   ·by_cases h2 : e.1 < r + 1 <;> simp [h, h2] <;> omega
theorem row_piece {l : List Ed} (h : Rows l) (i : Int) : l.filter (fun e => e.1 == i) = (l.drop (cnt l i)).take (cnt l (i + 1) - cnt l i) := by
 induction l with
 | nil => simp
 | cons e r ih =>
   obtain ⟨h1, h2⟩ := List.pairwise_cons.1 h
   have ih := ih h2
   rw [cnt_cons, cnt_cons]
   by_cases c1 : e.1 < i
   ·have c2 : e.1 < i + 1 := by omega
    have c3 : (e.1 == i) = false := by simp; omega
    rw [List.filter_cons, c3, if_pos c1, if_pos c2, Nat.add_comm 1 (cnt r i), List.drop_succ_cons]
    have e1 : 1 + cnt r (i + 1) - (cnt r i + 1) = cnt r (i + 1) - cnt r i := by omega
    rw [e1]
    simpa using ih
   ·have hz : cnt r i = 0 := cnt_none fun x hx => by have := h1 x hx; omega
    by_cases c2 : e.1 = i
    ·have c3 : (e.1 == i) = true := by simp [c2]
     have c4 : e.1 < i + 1 := by omega
     rw [List.filter_cons, c3, if_neg c1, if_pos c4, hz]
     rw [hz] at ih
     simp only [List.drop_zero, Nat.sub_zero, if_true] at ih ⊢
     rw [ih, Nat.add_comm 1]
     simp
    ·have c3 : (e.1 == i) = false := by simpa using c2
     have c4 : ¬ e.1 < i + 1 := by omega
     have hz2 : cnt r (i + 1) = 0 := cnt_none fun x hx => by have := h1 x hx; omega
     rw [List.filter_cons, c3, if_neg c1, if_neg c4, hz, hz2]
     rw [hz, hz2] at ih
     simpa using ih
def lastOf (l : List Ed) (r : Int) : Nat := (l.foldl (fun (p : Nat × Nat) e => (p.1 + 1, if e.1 = r then p.1 + 1 else p.2)) (0, 0)).2
theorem last_fst (r : Int) (l : List Ed) : ∀ p : Nat × Nat, (l.foldl (fun (p : Nat × Nat) (e : Ed) => (p.1 + 1, if e.1 = r then p.1 + 1 else p.2)) p).1 = p.1 + l.length := by
 induction l with
 | nil => intro p; rfl
 | cons e t ih => intro p; rw [List.foldl_cons, ih]; simp; omega
theorem last_snoc (l : List Ed) (e : Ed) (r : Int) : lastOf (l ++ [e]) r = if e.1 = r then l.length + 1 else lastOf l r := by
 unfold lastOf
 rw [List.foldl_append]
 simp only [List.foldl_cons, List.foldl_nil, last_fst, Nat.zero_add]
theorem last_none {l : List Ed} {r : Int} (h : ∀ e ∈ l, e.1 ≠ r) : ∀ i, i ≤ l.length → lastOf (l.take i) r = 0 := by
 intro i
 induction i with
 | zero => intro _; rfl
 | succ i ih =>
   intro hi
   obtain ⟨x, hx⟩ : ∃ x, l[i]? = some x := ⟨l[i], List.getElem?_eq_getElem _⟩
   rw [take_succ_of hx, last_snoc, if_neg (h x (List.mem_of_getElem? hx))]
   exact ih (by omega)
theorem rows_take {l : List Ed} (h : Rows l) {i : Nat} {x : Ed} (hx : l[i]? = some x) : ∀ e ∈ l.take i, e.1 ≤ x.1 := fun e he => by
 obtain ⟨j, hj, rfl⟩ := List.mem_take_iff_getElem.1 he
 obtain ⟨hi, rfl⟩ := List.getElem?_eq_some_iff.1 hx
 exact List.pairwise_iff_getElem.1 h j i (by omega) hi (by omega)
theorem cnt_last {l : List Ed} (h : Rows l) (r : Int) : ∀ i, i ≤ l.length → cnt (l.take i) (r + 1) = max (lastOf (l.take i) r) (cnt (l.take i) r) := by
 intro i
 induction i with
 | zero => intro _; simp [cnt, lastOf]
 | succ i ih =>
   intro hi
   obtain ⟨x, hx⟩ : ∃ x, l[i]? = some x := ⟨l[i], List.getElem?_eq_getElem _⟩
   have hle := rows_take h hx
   have hlen : (l.take i).length = i := by rw [List.length_take]; omega
   rw [take_succ_of hx, cnt_snoc, cnt_snoc, last_snoc, hlen]
   by_cases c1 : x.1 = r
   ·have e1 : cnt (l.take i) (r + 1) = i := by rw [cnt_all fun e he => by have := hle e he; omega]; exact hlen
    have e2 := cnt_le (l.take i) r
    rw [hlen] at e2
    rw [e1, if_pos (by omega), if_pos c1, if_neg (by omega)]
    omega
   ·by_cases c2 : x.1 < r
    ·have e1 : cnt (l.take i) (r + 1) = i := by rw [cnt_all fun e he => by have := hle e he; omega]; exact hlen
     have e2 : cnt (l.take i) r = i := by rw [cnt_all fun e he => by have := hle e he; omega]; exact hlen
     have e3 := last_none (l := l.take i) (r := r) (fun e he => by have := hle e he; omega) i (by rw [hlen]; exact Nat.le_refl _)
     rw [List.take_take, Nat.min_self] at e3
     rw [e1, e2, e3, if_pos (by omega), if_neg c1, if_pos c2]
     omega
    ·rw [if_neg (by omega), if_neg c1, if_neg c2]
     exact ih (by omega)
def mixL (n : Nat) (l : List Ed) (st : Nat) : List Int := (List.range (n + 1)).map fun (r : Nat) => if r ≤ st then ((cnt l (r : Int) : Nat) : Int) else ((lastOf l ((r : Int) - 1) : Nat) : Int)
def bndL (n : Nat) (l : List Ed) : List Int := (List.range (n + 1)).map fun (r : Nat) => if r = 0 then 0 else ((lastOf l ((r : Int) - 1) : Nat) : Int)
def bounds (n : Nat) (l : List Ed) : List Int := (List.range (n + 1)).map fun (r : Nat) => ((cnt l (r : Int) : Nat) : Int)
theorem bnd_zero (n : Nat) : bndL n [] = List.replicate (n + 1) 0 := by
 unfold bndL
 rw [List.eq_replicate_iff]
 refine ⟨by simp, fun b hb => ?_⟩
 obtain ⟨r, _, rfl⟩ := List.mem_map.1 hb
 split <;> simp [lastOf]
theorem bnd_step {l : List Ed} {n i : Nat} {x : Ed} (hx : l[i]? = some x) {q : Nat} (hq : x.1 = (q : Int)) : (bndL n (l.take i)).set (q + 1) ((i : Int) + 1) = bndL n (l.take (i + 1)) := by
 have hlen : (l.take i).length = i := by rw [List.length_take]; have := (List.getElem?_eq_some_iff.1 hx).1; omega
 apply List.ext_getElem?
 intro r
 rw [List.getElem?_set]
 unfold bndL
 simp only [List.length_map, List.length_range, List.getElem?_map]
 by_cases hr : r < n + 1
 ·rw [List.getElem?_range hr, take_succ_of hx]
  simp only [Option.map_some, last_snoc, hlen, hq]
  by_cases e : q + 1 = r
  ·subst e
   rw [if_pos rfl, if_pos hr, if_neg (by omega), if_pos (by omega)]
   rfl
  ·rw [if_neg e]
   by_cases e0 : r = 0
   ·rw [if_pos e0, if_pos e0]
   ·rw [if_neg e0, if_neg e0, if_neg (by omega)]
 ·rw [List.getElem?_eq_none (by simp; omega)]
  by_cases e : q + 1 = r
  ·rw [if_pos e, if_neg (by omega)]; rfl
  ·rw [if_neg e]; rfl
theorem mix_zero {n : Nat} {l : List Ed} (h : ∀ e ∈ l, 0 ≤ e.1) : mixL n l 0 = bndL n l := by
 unfold mixL bndL
 apply List.map_congr_left
 intro r _
 by_cases e : r = 0
 ·subst e
  simp only [Nat.le_refl, if_true]
  rw [cnt_none fun x hx => by have := h x hx; omega]
  rfl
 ·rw [if_neg (by omega), if_neg e]
theorem mix_full (n : Nat) (l : List Ed) : mixL n l n = bounds n l := by
 unfold mixL bounds
 apply List.map_congr_left
 intro r hr
 have := List.mem_range.1 hr
 rw [if_pos (by omega)]
theorem mix_at {n st r : Nat} {l : List Ed} (hr : r ≤ n) : (mixL n l st)[r]? = some (if r ≤ st then ((cnt l (r : Int) : Nat) : Int) else ((lastOf l ((r : Int) - 1) : Nat) : Int)) := by
 unfold mixL
 rw [List.getElem?_map, List.getElem?_range (by omega)]
 rfl
theorem bounds_at {n r : Nat} {l : List Ed} (hr : r ≤ n) : (bounds n l)[r]? = some ((cnt l (r : Int) : Nat) : Int) := by
 unfold bounds
 rw [List.getElem?_map, List.getElem?_range (by omega)]
 rfl
theorem mix_step {n st : Nat} {l : List Ed} (h : Rows l) : (mixL n l st).set (st + 1) (((max (lastOf l (st : Int)) (cnt l (st : Int)) : Nat)) : Int) = mixL n l (st + 1) := by
 have hc := cnt_last h (st : Int) l.length (Nat.le_refl _)
 rw [List.take_length] at hc
 apply List.ext_getElem?
 intro r
 rw [List.getElem?_set]
 unfold mixL
 simp only [List.length_map, List.length_range, List.getElem?_map]
 by_cases hr : r < n + 1
 ·rw [List.getElem?_range hr]
  simp only [Option.map_some]
  by_cases e : st + 1 = r
  ·subst e
   rw [if_pos rfl, if_pos hr, if_pos (Nat.le_refl _), ← hc]
   rfl
  ·rw [if_neg e]
   by_cases e2 : r ≤ st
   ·rw [if_pos e2, if_pos (by omega)]
   ·rw [if_neg e2, if_neg (by omega)]
 ·rw [List.getElem?_eq_none (by simp; omega)]
  by_cases e : st + 1 = r
  ·rw [if_pos e, if_neg (by omega)]; rfl
  ·rw [if_neg e]; rfl
end Go.Proofs.YtplofbabfkkimaaGreatDoor.Sy
/- 'append(v, x...)' that tells whether the old row stands: in place, or in new memory with all blocks as they were. (A law of my own, over the library's own laws on append.) -/
namespace Go.Proofs.YtplofbabfkkimaaGreatDoor
open Go.RowKit
theorem run_append_keep {P : Program} (w : World) (base : Nat) (t ty e : TypeId) (i : TypeInfo) (z : Value) (size bytes : Nat) (ht : P.underlying t = some (.slice e)) (hi : P.info? e = some i) (hz : i.zero = some z)
 (hsize : i.size = size) (hby : i.bytes = bytes) (hzs : z.cells.size = size) (hsz : 0 < size) (v : Value) (n : Nat) (xs : List Value) (hown : w.ownsRow base e size v n xs)
 (a : Addr) (m c : Nat) (news : List Value) (hl : news.length = m * size) (hnews : ∀ j u, news[j]? = some u → w.cell? (a.add j) = some u) (h1 : ∀ u ∈ news, u.oneCell' = true)
 (h63 : n + m ≤ maxLen) (hbytes : (n + m) * bytes ≤ 140737488355328) (hbase : base ≤ w.heap.size) :
 ∃ v' w', (Builtin.append_ #[t, t] ty #[v, .slice (some a) m c]).run P w = .ok v' w' ∧ w'.ownsRow base e size v' (n + m) (xs ++ news) ∧
  ((v'.ownBlock = v.ownBlock ∧ w.grownBy w' v.ownBlock) ∨ ((∀ k, v'.ownBlock = some k → w.heap.size ≤ k) ∧ w.grownBy w' none)) := by
 obtain ⟨v1, w1, hr1, h2, h3, _, h5⟩ := run_append_own_at (P := P) w base t ty e i z size bytes ht hi hz hsize hby hzs hsz v n xs hown a m c news hl hnews h1 h63 hbytes hbase
 rcases _root_.id hown.2 with ⟨rfl, _⟩ | ⟨g, cap, cur, rfl, hg, hb, hc, hm, hs, htk⟩
 ·refine ⟨v1, w1, hr1, h2, .inr ⟨fun k hk => ?_, h3⟩⟩
  rcases h5 with e | e
  ·rw [e] at hk; cases hk
  ·rw [e] at hk; have := Option.some.inj hk; omega
 ·by_cases hroom : n + m ≤ cap
  ·subst hsize
   have hr2 := run_append_room (P := P) w t ty e i ht hi g n cap cur hb a m c news hl hnews h1 hroom (by rw [hs, hl, ← Nat.add_mul]; exact Nat.mul_le_mul_right _ hroom)
   rw [hr1] at hr2
   injection hr2 with e1 e2
   exact ⟨v1, w1, hr1, h2, .inl ⟨by rw [e1]; rfl, h3⟩⟩
  ·have hcells : ∀ j u, xs[j]? = some u → w.cell? ((⟨g, 0, none⟩ : Addr).add j) = some u := fun j u hj => by
    have hlt := (List.getElem?_eq_some_iff.1 hj).1
    rw [addz, World.ownsRow.cellAt hown j (by rw [← hown.1]; exact hlt), hj]
   obtain ⟨v2, w2, hr2, h6, h7⟩ := run_append_arg_grows (P := P) w t ty e i z size bytes ht hi hz hsize hby hzs hsz ⟨g, 0, none⟩ n cap xs hown.1 hcells a m c news hl hnews (by omega) h63 hbytes
   exact ⟨v2, w2, hr2, row_base h6 hbase, .inr ⟨fun k hk => (World.ownsRow.lt h6 k hk).1, h7⟩⟩
theorem wpList_append_keep {P : Program} (w : World) {ops : Array Oper} {rest : List Oper} {o : Oper} {a : Act} {Q : Exit → Act → World → Prop} (hgd : o.guard = none) (s x : Operand) (t : TypeId)
 (ho : o.op = .call { callee := .builtin .append, args := #[s, x], argTypes := #[t, t] })
 (base : Nat) (e : TypeId) (i : TypeInfo) (z : Value) (size bytes : Nat) (ht : P.underlying t = some (.slice e)) (hi : P.info? e = some i) (hz : i.zero = some z)
 (hsize : i.size = size) (hby : i.bytes = bytes) (hzs : z.cells.size = size) (hsz : 0 < size) (v : Value) (n : Nat) (xs : List Value) (hs : a.eval s = v) (hown : w.ownsRow base e size v n xs)
 (ad : Addr) (m c : Nat) (news : List Value) (hx : a.eval x = .slice (some ad) m c) (hl : news.length = m * size) (hnews : ∀ j u, news[j]? = some u → w.cell? (ad.add j) = some u) (h1 : ∀ u ∈ news, u.oneCell' = true)
 (h63 : n + m ≤ maxLen) (hbytes : (n + m) * bytes ≤ 140737488355328) (hbase : base ≤ w.heap.size)
 (h : ∀ v' w', w'.ownsRow base e size v' (n + m) (xs ++ news) → ((v'.ownBlock = v.ownBlock ∧ w.grownBy w' v.ownBlock) ∨ ((∀ k, v'.ownBlock = some k → w.heap.size ≤ k) ∧ w.grownBy w' none)) → wpList P ops Q rest (a.put o.dst v') w') :
 wpList P ops Q (o :: rest) a w := by
 refine wpList_plain hgd fun K hK => ?_
 obtain ⟨v', w', hr, h2, h3⟩ := run_append_keep (P := P) w base t o.type e i z size bytes ht hi hz hsize hby hzs hsz v n xs hown ad m c news hl hnews h1 h63 hbytes hbase
 unfold Oper.wp execOp
 simp only [ho, resolve, invoke, builtin, Sem.run_bind, Sem.run_pure, Result.andThen_ok, List.map_toArray, List.map_cons, List.map_nil, hs, hx, hr]
 exact hK _ _ (h v' w' h2 h3)
end Go.Proofs.YtplofbabfkkimaaGreatDoor
