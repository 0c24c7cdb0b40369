/- tauscc: the region in which cyclesOf makes its walk. -/
import Derived.Test.YtplofbabfkkimaaDoorPart3
import Derived.Test.YtplofbabfkkimaaDoorSyRep
import Derived.Deep.RegionHeld3
namespace Go.Proofs.YtplofbabfkkimaaDoor.Ts
open Go.RowKit Go.Maps
attribute [local go_sem ↓] Go.wp_at_zero Go.wp_at_succ
theorem Tryd.infoR4 : (Tryd.prog.info? 26).map (fun i => (i.zero, i.size, i.bytes)) = some (some (.slice none 0 0), 1, 24) := by kernel_rfl
theorem makeRw (n : Nat) (hn : n ≤ 1000000) (w : World) : (Instr.makeSlice 50 (.int .i64 (n : Int)) (.int .i64 (n : Int))).run Tryd.prog w = .ok (.slice (some ⟨w.heap.size, 0, none⟩) n n) (w.alloc (.cells (madeV (.slice none 0 0) n) 26)) := make_of _ _ _ 24 Tryd.underlying50 Tryd.infoR4 n hn (by decide) w
/-- The operations of a region. -/
def rops : Code → Nat → Option (Array Oper)
  | .region i ops _, k => if i = k then some ops else none
  | .seq a b, k => match rops a k with
    | some o => some o
    | none => rops b k
  | .cond _ a b, k => match rops a k with
    | some o => some o
    | none => rops b k
  | .block _ c, k => rops c k
  | .loop c, k => rops c k
  | .scope c, k => rops c k
  | _, _ => none
noncomputable def ops2 : Array Oper := match Tryd.f22.body with
  | some c => (rops c 2).getD #[]
  | none => #[]
theorem op2_1 : ∃ p f, ops2[1]? = some { dst := some 10, op := .makeSlice 50 (.tmp 9) (.tmp 9), type := 50, pos := p, after := f, guard := none } := ⟨_, _, rfl⟩
theorem op2_2 : ∃ p f, ops2[2]? = some { dst := some 11, op := .buildSlice 26 1 #[(0, .const (.int .i64 (-1)))], type := 26, pos := p, after := f, guard := none } := ⟨_, _, rfl⟩
theorem op2_4 : ∃ p f, ops2[4]? = some { dst := some 13, op := .call { callee := .value (.func 35), args := #[.tmp 11, .tmp 12], argTypes := #[26, 3] }, type := 26, pos := p, after := f, guard := none } := ⟨_, _, rfl⟩
theorem op2_6 : ∃ p f, ops2[6]? = some { dst := some 15, op := .makeSlice 26 (.tmp 14) (.tmp 14), type := 26, pos := p, after := f, guard := none } := ⟨_, _, rfl⟩
theorem op2_7 : ∃ p f, ops2[7]? = some { dst := some 16, op := .buildSlice 26 1 #[(0, .const (.int .i64 (-1)))], type := 26, pos := p, after := f, guard := none } := ⟨_, _, rfl⟩
theorem op2_9 : ∃ p f, ops2[9]? = some { dst := some 18, op := .call { callee := .value (.func 35), args := #[.tmp 16, .tmp 17], argTypes := #[26, 3] }, type := 26, pos := p, after := f, guard := none } := ⟨_, _, rfl⟩
theorem op2_10 : ∃ p f, ops2[10]? = some { dst := some 19, op := .build 91 #[(0, .tmp 10), (4, .tmp 13), (5, .tmp 15), (6, .tmp 18)], type := 91, pos := p, after := f, guard := none } := ⟨_, _, rfl⟩
theorem op2_11 : ∃ p f, ops2[11]? = some { dst := some 20, op := .box 91 (.tmp 19), type := 87, pos := p, after := f, guard := none } := ⟨_, _, rfl⟩
theorem op2_12 : ∃ p f, ops2[12]? = some { dst := some 4, op := .assign (.tmp 20), type := 87, pos := p, after := f, guard := none } := ⟨_, _, rfl⟩
theorem op2_0 : ∃ p f, ops2[0]? = some { dst := some 9, op := .move (.tmp 3), type := 3, pos := p, after := f, guard := none } := ⟨_, _, rfl⟩
theorem op2_3 : ∃ p f, ops2[3]? = some { dst := some 12, op := .move (.tmp 3), type := 3, pos := p, after := f, guard := none } := ⟨_, _, rfl⟩
theorem op2_5 : ∃ p f, ops2[5]? = some { dst := some 14, op := .move (.tmp 3), type := 3, pos := p, after := f, guard := none } := ⟨_, _, rfl⟩
theorem op2_8 : ∃ p f, ops2[8]? = some { dst := some 17, op := .move (.tmp 3), type := 3, pos := p, after := f, guard := none } := ⟨_, _, rfl⟩
/-- The frame: the walk's parts, as far as they are made. -/
def fr (g n : Nat) (v10 v11 v13 v15 v16 v18 : Value) : Act := { tmps := #[.pointer (some ⟨g, 0, none⟩), undef, .slice none 0 0, .int .i64 n, undef, undef, undef, .pointer (some ⟨g, 0, none⟩), .int .i64 n, .int .i64 n, v10, v11, .int .i64 n, v13, .int .i64 n, v15, v16, .int .i64 n, v18, undef, undef, undef, undef, undef, undef, undef, undef, undef, undef, undef, undef, undef, undef, undef, undef, undef, undef, undef, undef, undef, undef, undef, undef, undef, undef, undef, undef, undef, undef, undef, undef, undef, undef, undef, undef, undef], defers := [] }
def fr2 (g n r : Nat) (v10 v11 v13 v15 v16 v18 v19 : Value) : Act := { tmps := #[.pointer (some ⟨g, 0, none⟩), undef, .slice none 0 0, .int .i64 n, .pointer (some ⟨r, 0, none⟩), undef, undef, .pointer (some ⟨g, 0, none⟩), .int .i64 n, .int .i64 n, v10, v11, .int .i64 n, v13, .int .i64 n, v15, v16, .int .i64 n, v18, v19, .pointer (some ⟨r, 0, none⟩), undef, undef, undef, undef, undef, undef, undef, undef, undef, undef, undef, undef, undef, undef, undef, undef, undef, undef, undef, undef, undef, undef, undef, undef, undef, undef, undef, undef, undef, undef, undef, undef, undef, undef, undef], defers := [] }
/-- What stands behind the region. -/
def Reg2 (w : World) (g n : Nat) (out : Nat → List Nat) (Q : Exit → Act → World → Prop) : Prop := (∀ (v10 v11 v13 v15 v16 v18 v19 : Value) (W : World) (r : Nat), (∃ gs gn gl gc, CyL w W r gs gn gl gc n 0 out) → Q .normal (fr2 g n r v10 v11 v13 v15 v16 v18 v19) W) ∧ ∀ (d : Option Nat) (v : Value) c (a : Act) (W : World), Q (.panic c) (a.put d v) W → Q (.panic c) a W
theorem Cy.ne {w W : World} {n g g' k k' : Nat} {L : List (Nat × Nat)} (h : Cy w W n L) (a : (g, k) ∈ L) (b : (g', k') ∈ L) (hk : k ≠ k') : g ≠ g' := fun e => by
  subst e
  have h1 := h.nd
  clear h
  induction L with
  | nil => cases a
  | cons p L ih =>
    rw [List.map_cons] at h1
    obtain ⟨h2, h3⟩ := List.nodup_cons.1 h1
    rcases List.mem_cons.1 a with ea | a1
    · rcases List.mem_cons.1 b with eb | b1
      · exact hk (Prod.mk.inj (ea.trans eb.symm)).2
      · exact h2 (List.mem_map.2 ⟨_, b1, by rw [← ea]⟩)
    · rcases List.mem_cons.1 b with eb | b1
      · exact h2 (List.mem_map.2 ⟨_, a1, by rw [← eb]⟩)
      · exact ih a1 b1 h3
set_option linter.unusedSimpArgs false in
set_option linter.unusedVariables false in
set_option maxRecDepth 100000 in
set_option maxHeartbeats 1000000 in
theorem cy_124679 {w W : World} {g n : Nat} {L : List (Nat × Nat)} {out : Nat → List Nat} {Q : Exit → Act → World → Prop} (hn : n ≤ 1000000) (hQ : Reg2 w g n out Q) (h : Cy w W n L) (g10 : Nat) (g11 : Nat) (g13 : Nat) (g15 : Nat) (g16 : Nat) (g18 : Nat) (m10 : (g10, 0) ∈ L) (m11 : (g11, 3) ∈ L) (m13 : (g13, 1) ∈ L) (m15 : (g15, 2) ∈ L) (m16 : (g16, 3) ∈ L) (m18 : (g18, 1) ∈ L) (hne : g13 ≠ g18) : wpAnyH Tryd.prog .any ops2 Q (fun _ => True) 3 #[true, true, true, true, true, true, true, true, true, true, false, false, false] (fr g n (.slice (some ⟨g10, 0, none⟩) n n) (.slice (some ⟨g11, 0, none⟩) 1 1) (.slice (some ⟨g13, 0, none⟩) n n) (.slice (some ⟨g15, 0, none⟩) n n) (.slice (some ⟨g16, 0, none⟩) 1 1) (.slice (some ⟨g18, 0, none⟩) n n)) W := by
  unfold fr
  obtain ⟨p10, f10, o10⟩ := op2_10
  obtain ⟨p11, f11, o11⟩ := op2_11
  obtain ⟨p12, f12, o12⟩ := op2_12
  refine wpAnyH_take (i := 10) (oi := _) (v := ?_) o10 (by kernel_rfl) (by kernel_rfl) (by kernel_rfl) (hQ.2 _ _) (Or.inl ⟨by rfl, ?_⟩) trivial ?_
  rotate_left
  · (intro w hSw; go_simp; (try with_reducible rfl))
  (try simp only [List.getElem_toArray, List.getElem_cons_succ, List.getElem_cons_zero, Act.put, List.setIfInBounds_toArray, List.set_cons_zero, List.set_cons_succ])
  refine wpAnyH_ready (rs := [11]) (by kernel_rfl) (by simp) ?_
  refine AllReadyH.cons (o := _) o11 (fun K hK => ?_) AllReadyH.nil
  go_simp
  refine hK.out _ _ trivial (fun _ => ?_)
  clear hK K
  (try simp only [List.getElem_toArray, List.getElem_cons_succ, List.getElem_cons_zero, Act.put, List.setIfInBounds_toArray, List.set_cons_zero, List.set_cons_succ])
  refine wpAnyH_take (i := 12) (oi := _) (v := ?_) o12 (by kernel_rfl) (by kernel_rfl) (by kernel_rfl) (hQ.2 _ _) (Or.inl ⟨by rfl, ?_⟩) trivial ?_
  rotate_left
  · (intro w hSw; go_simp; (try with_reducible rfl))
  (try simp only [List.getElem_toArray, List.getElem_cons_succ, List.getElem_cons_zero, Act.put, List.setIfInBounds_toArray, List.set_cons_zero, List.set_cons_succ])
  refine wpAnyH_done (by kernel_rfl) ?_ _
  exact hQ.1 _ _ _ _ _ _ _ _ _ ⟨_, _, _, _, h.box hn _ m10 m13 m15 m18 ⟨h.ne m10 m13 (by decide), h.ne m10 m15 (by decide), h.ne m10 m18 (by decide), h.ne m13 m15 (by decide), hne, h.ne m15 m18 (by decide)⟩⟩
set_option linter.unusedSimpArgs false in
set_option linter.unusedVariables false in
set_option maxRecDepth 100000 in
set_option maxHeartbeats 1000000 in
theorem cy_24679 {w W : World} {g n : Nat} {L : List (Nat × Nat)} {out : Nat → List Nat} {Q : Exit → Act → World → Prop} (hn : n ≤ 1000000) (hQ : Reg2 w g n out Q) (h : Cy w W n L) (g11 : Nat) (g13 : Nat) (g15 : Nat) (g16 : Nat) (g18 : Nat) (m11 : (g11, 3) ∈ L) (m13 : (g13, 1) ∈ L) (m15 : (g15, 2) ∈ L) (m16 : (g16, 3) ∈ L) (m18 : (g18, 1) ∈ L) (hne : g13 ≠ g18) : wpAnyH Tryd.prog .any ops2 Q (fun _ => True) 4 #[true, false, true, true, true, true, true, true, true, true, false, false, false] (fr g n undef (.slice (some ⟨g11, 0, none⟩) 1 1) (.slice (some ⟨g13, 0, none⟩) n n) (.slice (some ⟨g15, 0, none⟩) n n) (.slice (some ⟨g16, 0, none⟩) 1 1) (.slice (some ⟨g18, 0, none⟩) n n)) W := by
  have hm0 := fun W => makeRw n hn W
  have hm1 := fun W => makeI n hn W
  refine wpAnyH_ready (rs := [1]) (by kernel_rfl) (by simp) ?_
  unfold fr
  obtain ⟨p1, f1, o1⟩ := op2_1
  refine AllReadyH.cons (o := _) o1 (fun K hK => ?_) ?_
  · go_simp
    refine hK.out _ _ trivial (fun _ => ?_)
    (try simp only [List.getElem_toArray, List.getElem_cons_succ, List.getElem_cons_zero, Act.put, List.setIfInBounds_toArray, List.set_cons_zero, List.set_cons_succ])
    exact cy_124679 hn hQ h.made0 _ g11 g13 g15 g16 g18 List.mem_cons_self (List.mem_cons_of_mem _ m11) (List.mem_cons_of_mem _ m13) (List.mem_cons_of_mem _ m15) (List.mem_cons_of_mem _ m16) (List.mem_cons_of_mem _ m18) hne
  exact AllReadyH.nil
set_option linter.unusedSimpArgs false in
set_option linter.unusedVariables false in
set_option maxRecDepth 100000 in
set_option maxHeartbeats 1000000 in
theorem cy_12479 {w W : World} {g n : Nat} {L : List (Nat × Nat)} {out : Nat → List Nat} {Q : Exit → Act → World → Prop} (hn : n ≤ 1000000) (hQ : Reg2 w g n out Q) (h : Cy w W n L) (g10 : Nat) (g11 : Nat) (g13 : Nat) (g16 : Nat) (g18 : Nat) (m10 : (g10, 0) ∈ L) (m11 : (g11, 3) ∈ L) (m13 : (g13, 1) ∈ L) (m16 : (g16, 3) ∈ L) (m18 : (g18, 1) ∈ L) (hne : g13 ≠ g18) : wpAnyH Tryd.prog .any ops2 Q (fun _ => True) 4 #[true, true, true, true, true, true, false, true, true, true, false, false, false] (fr g n (.slice (some ⟨g10, 0, none⟩) n n) (.slice (some ⟨g11, 0, none⟩) 1 1) (.slice (some ⟨g13, 0, none⟩) n n) undef (.slice (some ⟨g16, 0, none⟩) 1 1) (.slice (some ⟨g18, 0, none⟩) n n)) W := by
  have hm0 := fun W => makeRw n hn W
  have hm1 := fun W => makeI n hn W
  refine wpAnyH_ready (rs := [6]) (by kernel_rfl) (by simp) ?_
  unfold fr
  obtain ⟨p6, f6, o6⟩ := op2_6
  refine AllReadyH.cons (o := _) o6 (fun K hK => ?_) ?_
  · go_simp
    refine hK.out _ _ trivial (fun _ => ?_)
    (try simp only [List.getElem_toArray, List.getElem_cons_succ, List.getElem_cons_zero, Act.put, List.setIfInBounds_toArray, List.set_cons_zero, List.set_cons_succ])
    exact cy_124679 hn hQ h.made2 g10 g11 g13 _ g16 g18 (List.mem_cons_of_mem _ m10) (List.mem_cons_of_mem _ m11) (List.mem_cons_of_mem _ m13) List.mem_cons_self (List.mem_cons_of_mem _ m16) (List.mem_cons_of_mem _ m18) hne
  exact AllReadyH.nil
set_option linter.unusedSimpArgs false in
set_option linter.unusedVariables false in
set_option maxRecDepth 100000 in
set_option maxHeartbeats 1000000 in
theorem cy_12467 {w W : World} {g n : Nat} {L : List (Nat × Nat)} {out : Nat → List Nat} {Q : Exit → Act → World → Prop} (hn : n ≤ 1000000) (hQ : Reg2 w g n out Q) (h : Cy w W n L) (g10 : Nat) (g11 : Nat) (g13 : Nat) (g15 : Nat) (g16 : Nat) (m10 : (g10, 0) ∈ L) (m11 : (g11, 3) ∈ L) (m13 : (g13, 1) ∈ L) (m15 : (g15, 2) ∈ L) (m16 : (g16, 3) ∈ L) : wpAnyH Tryd.prog .any ops2 Q (fun _ => True) 4 #[true, true, true, true, true, true, true, true, true, false, false, false, false] (fr g n (.slice (some ⟨g10, 0, none⟩) n n) (.slice (some ⟨g11, 0, none⟩) 1 1) (.slice (some ⟨g13, 0, none⟩) n n) (.slice (some ⟨g15, 0, none⟩) n n) (.slice (some ⟨g16, 0, none⟩) 1 1) undef) W := by
  have hm0 := fun W => makeRw n hn W
  have hm1 := fun W => makeI n hn W
  refine wpAnyH_ready (rs := [9]) (by kernel_rfl) (by simp) ?_
  unfold fr
  obtain ⟨p9, f9, o9⟩ := op2_9
  refine AllReadyH.cons (o := _) o9 (fun K hK => ?_) ?_
  · go_simp
    go_at_call 35
    refine Calls.mono (repeat_any g16 n _ hn (h.at_ _ m16)) ?_
    rintro r5 w5 ⟨g18, rfl, hA⟩
    (try go_wp2_with fail)
    refine hK.out _ _ trivial (fun _ => ?_)
    (try simp only [List.getElem_toArray, List.getElem_cons_succ, List.getElem_cons_zero, Act.put, List.setIfInBounds_toArray, List.set_cons_zero, List.set_cons_succ])
    exact cy_124679 hn hQ (h.made1 hA) g10 g11 g13 g15 g16 g18 (List.mem_cons_of_mem _ m10) (List.mem_cons_of_mem _ m11) (List.mem_cons_of_mem _ m13) (List.mem_cons_of_mem _ m15) (List.mem_cons_of_mem _ m16) List.mem_cons_self (fun e => by have h1 := h.lt _ m13; have h2 := hA.gu; simp only at h1; omega)
  exact AllReadyH.nil
set_option linter.unusedSimpArgs false in
set_option linter.unusedVariables false in
set_option maxRecDepth 100000 in
set_option maxHeartbeats 1000000 in
theorem cy_2479 {w W : World} {g n : Nat} {L : List (Nat × Nat)} {out : Nat → List Nat} {Q : Exit → Act → World → Prop} (hn : n ≤ 1000000) (hQ : Reg2 w g n out Q) (h : Cy w W n L) (g11 : Nat) (g13 : Nat) (g16 : Nat) (g18 : Nat) (m11 : (g11, 3) ∈ L) (m13 : (g13, 1) ∈ L) (m16 : (g16, 3) ∈ L) (m18 : (g18, 1) ∈ L) (hne : g13 ≠ g18) : wpAnyH Tryd.prog .any ops2 Q (fun _ => True) 5 #[true, false, true, true, true, true, false, true, true, true, false, false, false] (fr g n undef (.slice (some ⟨g11, 0, none⟩) 1 1) (.slice (some ⟨g13, 0, none⟩) n n) undef (.slice (some ⟨g16, 0, none⟩) 1 1) (.slice (some ⟨g18, 0, none⟩) n n)) W := by
  have hm0 := fun W => makeRw n hn W
  have hm1 := fun W => makeI n hn W
  refine wpAnyH_ready (rs := [1, 6]) (by kernel_rfl) (by simp) ?_
  unfold fr
  obtain ⟨p1, f1, o1⟩ := op2_1
  refine AllReadyH.cons (o := _) o1 (fun K hK => ?_) ?_
  · go_simp
    refine hK.out _ _ trivial (fun _ => ?_)
    (try simp only [List.getElem_toArray, List.getElem_cons_succ, List.getElem_cons_zero, Act.put, List.setIfInBounds_toArray, List.set_cons_zero, List.set_cons_succ])
    exact cy_12479 hn hQ h.made0 _ g11 g13 g16 g18 List.mem_cons_self (List.mem_cons_of_mem _ m11) (List.mem_cons_of_mem _ m13) (List.mem_cons_of_mem _ m16) (List.mem_cons_of_mem _ m18) hne
  obtain ⟨p6, f6, o6⟩ := op2_6
  refine AllReadyH.cons (o := _) o6 (fun K hK => ?_) ?_
  · go_simp
    refine hK.out _ _ trivial (fun _ => ?_)
    (try simp only [List.getElem_toArray, List.getElem_cons_succ, List.getElem_cons_zero, Act.put, List.setIfInBounds_toArray, List.set_cons_zero, List.set_cons_succ])
    exact cy_24679 hn hQ h.made2 g11 g13 _ g16 g18 (List.mem_cons_of_mem _ m11) (List.mem_cons_of_mem _ m13) List.mem_cons_self (List.mem_cons_of_mem _ m16) (List.mem_cons_of_mem _ m18) hne
  exact AllReadyH.nil
set_option linter.unusedSimpArgs false in
set_option linter.unusedVariables false in
set_option maxRecDepth 100000 in
set_option maxHeartbeats 1000000 in
theorem cy_2467 {w W : World} {g n : Nat} {L : List (Nat × Nat)} {out : Nat → List Nat} {Q : Exit → Act → World → Prop} (hn : n ≤ 1000000) (hQ : Reg2 w g n out Q) (h : Cy w W n L) (g11 : Nat) (g13 : Nat) (g15 : Nat) (g16 : Nat) (m11 : (g11, 3) ∈ L) (m13 : (g13, 1) ∈ L) (m15 : (g15, 2) ∈ L) (m16 : (g16, 3) ∈ L) : wpAnyH Tryd.prog .any ops2 Q (fun _ => True) 5 #[true, false, true, true, true, true, true, true, true, false, false, false, false] (fr g n undef (.slice (some ⟨g11, 0, none⟩) 1 1) (.slice (some ⟨g13, 0, none⟩) n n) (.slice (some ⟨g15, 0, none⟩) n n) (.slice (some ⟨g16, 0, none⟩) 1 1) undef) W := by
  have hm0 := fun W => makeRw n hn W
  have hm1 := fun W => makeI n hn W
  refine wpAnyH_ready (rs := [1, 9]) (by kernel_rfl) (by simp) ?_
  unfold fr
  obtain ⟨p1, f1, o1⟩ := op2_1
  refine AllReadyH.cons (o := _) o1 (fun K hK => ?_) ?_
  · go_simp
    refine hK.out _ _ trivial (fun _ => ?_)
    (try simp only [List.getElem_toArray, List.getElem_cons_succ, List.getElem_cons_zero, Act.put, List.setIfInBounds_toArray, List.set_cons_zero, List.set_cons_succ])
    exact cy_12467 hn hQ h.made0 _ g11 g13 g15 g16 List.mem_cons_self (List.mem_cons_of_mem _ m11) (List.mem_cons_of_mem _ m13) (List.mem_cons_of_mem _ m15) (List.mem_cons_of_mem _ m16)
  obtain ⟨p9, f9, o9⟩ := op2_9
  refine AllReadyH.cons (o := _) o9 (fun K hK => ?_) ?_
  · go_simp
    go_at_call 35
    refine Calls.mono (repeat_any g16 n _ hn (h.at_ _ m16)) ?_
    rintro r5 w5 ⟨g18, rfl, hA⟩
    (try go_wp2_with fail)
    refine hK.out _ _ trivial (fun _ => ?_)
    (try simp only [List.getElem_toArray, List.getElem_cons_succ, List.getElem_cons_zero, Act.put, List.setIfInBounds_toArray, List.set_cons_zero, List.set_cons_succ])
    exact cy_24679 hn hQ (h.made1 hA) g11 g13 g15 g16 g18 (List.mem_cons_of_mem _ m11) (List.mem_cons_of_mem _ m13) (List.mem_cons_of_mem _ m15) (List.mem_cons_of_mem _ m16) List.mem_cons_self (fun e => by have h1 := h.lt _ m13; have h2 := hA.gu; simp only at h1; omega)
  exact AllReadyH.nil
set_option linter.unusedSimpArgs false in
set_option linter.unusedVariables false in
set_option maxRecDepth 100000 in
set_option maxHeartbeats 1000000 in
theorem cy_1267 {w W : World} {g n : Nat} {L : List (Nat × Nat)} {out : Nat → List Nat} {Q : Exit → Act → World → Prop} (hn : n ≤ 1000000) (hQ : Reg2 w g n out Q) (h : Cy w W n L) (g10 : Nat) (g11 : Nat) (g15 : Nat) (g16 : Nat) (m10 : (g10, 0) ∈ L) (m11 : (g11, 3) ∈ L) (m15 : (g15, 2) ∈ L) (m16 : (g16, 3) ∈ L) : wpAnyH Tryd.prog .any ops2 Q (fun _ => True) 5 #[true, true, true, true, false, true, true, true, true, false, false, false, false] (fr g n (.slice (some ⟨g10, 0, none⟩) n n) (.slice (some ⟨g11, 0, none⟩) 1 1) undef (.slice (some ⟨g15, 0, none⟩) n n) (.slice (some ⟨g16, 0, none⟩) 1 1) undef) W := by
  have hm0 := fun W => makeRw n hn W
  have hm1 := fun W => makeI n hn W
  refine wpAnyH_ready (rs := [4]) (by kernel_rfl) (by simp) ?_
  unfold fr
  obtain ⟨p4, f4, o4⟩ := op2_4
  refine AllReadyH.cons (o := _) o4 (fun K hK => ?_) ?_
  · go_simp
    go_at_call 35
    refine Calls.mono (repeat_any g11 n _ hn (h.at_ _ m11)) ?_
    rintro r5 w5 ⟨g13, rfl, hA⟩
    (try go_wp2_with fail)
    refine hK.out _ _ trivial (fun _ => ?_)
    (try simp only [List.getElem_toArray, List.getElem_cons_succ, List.getElem_cons_zero, Act.put, List.setIfInBounds_toArray, List.set_cons_zero, List.set_cons_succ])
    exact cy_12467 hn hQ (h.made1 hA) g10 g11 g13 g15 g16 (List.mem_cons_of_mem _ m10) (List.mem_cons_of_mem _ m11) List.mem_cons_self (List.mem_cons_of_mem _ m15) (List.mem_cons_of_mem _ m16)
  exact AllReadyH.nil
set_option linter.unusedSimpArgs false in
set_option linter.unusedVariables false in
set_option maxRecDepth 100000 in
set_option maxHeartbeats 1000000 in
theorem cy_1247 {w W : World} {g n : Nat} {L : List (Nat × Nat)} {out : Nat → List Nat} {Q : Exit → Act → World → Prop} (hn : n ≤ 1000000) (hQ : Reg2 w g n out Q) (h : Cy w W n L) (g10 : Nat) (g11 : Nat) (g13 : Nat) (g16 : Nat) (m10 : (g10, 0) ∈ L) (m11 : (g11, 3) ∈ L) (m13 : (g13, 1) ∈ L) (m16 : (g16, 3) ∈ L) : wpAnyH Tryd.prog .any ops2 Q (fun _ => True) 5 #[true, true, true, true, true, true, false, true, true, false, false, false, false] (fr g n (.slice (some ⟨g10, 0, none⟩) n n) (.slice (some ⟨g11, 0, none⟩) 1 1) (.slice (some ⟨g13, 0, none⟩) n n) undef (.slice (some ⟨g16, 0, none⟩) 1 1) undef) W := by
  have hm0 := fun W => makeRw n hn W
  have hm1 := fun W => makeI n hn W
  refine wpAnyH_ready (rs := [6, 9]) (by kernel_rfl) (by simp) ?_
  unfold fr
  obtain ⟨p6, f6, o6⟩ := op2_6
  refine AllReadyH.cons (o := _) o6 (fun K hK => ?_) ?_
  · go_simp
    refine hK.out _ _ trivial (fun _ => ?_)
    (try simp only [List.getElem_toArray, List.getElem_cons_succ, List.getElem_cons_zero, Act.put, List.setIfInBounds_toArray, List.set_cons_zero, List.set_cons_succ])
    exact cy_12467 hn hQ h.made2 g10 g11 g13 _ g16 (List.mem_cons_of_mem _ m10) (List.mem_cons_of_mem _ m11) (List.mem_cons_of_mem _ m13) List.mem_cons_self (List.mem_cons_of_mem _ m16)
  obtain ⟨p9, f9, o9⟩ := op2_9
  refine AllReadyH.cons (o := _) o9 (fun K hK => ?_) ?_
  · go_simp
    go_at_call 35
    refine Calls.mono (repeat_any g16 n _ hn (h.at_ _ m16)) ?_
    rintro r5 w5 ⟨g18, rfl, hA⟩
    (try go_wp2_with fail)
    refine hK.out _ _ trivial (fun _ => ?_)
    (try simp only [List.getElem_toArray, List.getElem_cons_succ, List.getElem_cons_zero, Act.put, List.setIfInBounds_toArray, List.set_cons_zero, List.set_cons_succ])
    exact cy_12479 hn hQ (h.made1 hA) g10 g11 g13 g16 g18 (List.mem_cons_of_mem _ m10) (List.mem_cons_of_mem _ m11) (List.mem_cons_of_mem _ m13) (List.mem_cons_of_mem _ m16) List.mem_cons_self (fun e => by have h1 := h.lt _ m13; have h2 := hA.gu; simp only at h1; omega)
  exact AllReadyH.nil
set_option linter.unusedSimpArgs false in
set_option linter.unusedVariables false in
set_option maxRecDepth 100000 in
set_option maxHeartbeats 1000000 in
theorem cy_1246 {w W : World} {g n : Nat} {L : List (Nat × Nat)} {out : Nat → List Nat} {Q : Exit → Act → World → Prop} (hn : n ≤ 1000000) (hQ : Reg2 w g n out Q) (h : Cy w W n L) (g10 : Nat) (g11 : Nat) (g13 : Nat) (g15 : Nat) (m10 : (g10, 0) ∈ L) (m11 : (g11, 3) ∈ L) (m13 : (g13, 1) ∈ L) (m15 : (g15, 2) ∈ L) : wpAnyH Tryd.prog .any ops2 Q (fun _ => True) 5 #[true, true, true, true, true, true, true, false, true, false, false, false, false] (fr g n (.slice (some ⟨g10, 0, none⟩) n n) (.slice (some ⟨g11, 0, none⟩) 1 1) (.slice (some ⟨g13, 0, none⟩) n n) (.slice (some ⟨g15, 0, none⟩) n n) undef undef) W := by
  have hm0 := fun W => makeRw n hn W
  have hm1 := fun W => makeI n hn W
  refine wpAnyH_ready (rs := [7]) (by kernel_rfl) (by simp) ?_
  unfold fr
  obtain ⟨p7, f7, o7⟩ := op2_7
  refine AllReadyH.cons (o := _) o7 (fun K hK => ?_) ?_
  · go_simp
    refine hK.out _ _ trivial (fun _ => ?_)
    (try simp only [List.getElem_toArray, List.getElem_cons_succ, List.getElem_cons_zero, Act.put, List.setIfInBounds_toArray, List.set_cons_zero, List.set_cons_succ])
    exact cy_12467 hn hQ h.made3 g10 g11 g13 g15 _ (List.mem_cons_of_mem _ m10) (List.mem_cons_of_mem _ m11) (List.mem_cons_of_mem _ m13) (List.mem_cons_of_mem _ m15) List.mem_cons_self
  exact AllReadyH.nil
set_option linter.unusedSimpArgs false in
set_option linter.unusedVariables false in
set_option maxRecDepth 100000 in
set_option maxHeartbeats 1000000 in
theorem cy_267 {w W : World} {g n : Nat} {L : List (Nat × Nat)} {out : Nat → List Nat} {Q : Exit → Act → World → Prop} (hn : n ≤ 1000000) (hQ : Reg2 w g n out Q) (h : Cy w W n L) (g11 : Nat) (g15 : Nat) (g16 : Nat) (m11 : (g11, 3) ∈ L) (m15 : (g15, 2) ∈ L) (m16 : (g16, 3) ∈ L) : wpAnyH Tryd.prog .any ops2 Q (fun _ => True) 6 #[true, false, true, true, false, true, true, true, true, false, false, false, false] (fr g n undef (.slice (some ⟨g11, 0, none⟩) 1 1) undef (.slice (some ⟨g15, 0, none⟩) n n) (.slice (some ⟨g16, 0, none⟩) 1 1) undef) W := by
  have hm0 := fun W => makeRw n hn W
  have hm1 := fun W => makeI n hn W
  refine wpAnyH_ready (rs := [1, 4]) (by kernel_rfl) (by simp) ?_
  unfold fr
  obtain ⟨p1, f1, o1⟩ := op2_1
  refine AllReadyH.cons (o := _) o1 (fun K hK => ?_) ?_
  · go_simp
    refine hK.out _ _ trivial (fun _ => ?_)
    (try simp only [List.getElem_toArray, List.getElem_cons_succ, List.getElem_cons_zero, Act.put, List.setIfInBounds_toArray, List.set_cons_zero, List.set_cons_succ])
    exact cy_1267 hn hQ h.made0 _ g11 g15 g16 List.mem_cons_self (List.mem_cons_of_mem _ m11) (List.mem_cons_of_mem _ m15) (List.mem_cons_of_mem _ m16)
  obtain ⟨p4, f4, o4⟩ := op2_4
  refine AllReadyH.cons (o := _) o4 (fun K hK => ?_) ?_
  · go_simp
    go_at_call 35
    refine Calls.mono (repeat_any g11 n _ hn (h.at_ _ m11)) ?_
    rintro r5 w5 ⟨g13, rfl, hA⟩
    (try go_wp2_with fail)
    refine hK.out _ _ trivial (fun _ => ?_)
    (try simp only [List.getElem_toArray, List.getElem_cons_succ, List.getElem_cons_zero, Act.put, List.setIfInBounds_toArray, List.set_cons_zero, List.set_cons_succ])
    exact cy_2467 hn hQ (h.made1 hA) g11 g13 g15 g16 (List.mem_cons_of_mem _ m11) List.mem_cons_self (List.mem_cons_of_mem _ m15) (List.mem_cons_of_mem _ m16)
  exact AllReadyH.nil
set_option linter.unusedSimpArgs false in
set_option linter.unusedVariables false in
set_option maxRecDepth 100000 in
set_option maxHeartbeats 1000000 in
theorem cy_247 {w W : World} {g n : Nat} {L : List (Nat × Nat)} {out : Nat → List Nat} {Q : Exit → Act → World → Prop} (hn : n ≤ 1000000) (hQ : Reg2 w g n out Q) (h : Cy w W n L) (g11 : Nat) (g13 : Nat) (g16 : Nat) (m11 : (g11, 3) ∈ L) (m13 : (g13, 1) ∈ L) (m16 : (g16, 3) ∈ L) : wpAnyH Tryd.prog .any ops2 Q (fun _ => True) 6 #[true, false, true, true, true, true, false, true, true, false, false, false, false] (fr g n undef (.slice (some ⟨g11, 0, none⟩) 1 1) (.slice (some ⟨g13, 0, none⟩) n n) undef (.slice (some ⟨g16, 0, none⟩) 1 1) undef) W := by
  have hm0 := fun W => makeRw n hn W
  have hm1 := fun W => makeI n hn W
  refine wpAnyH_ready (rs := [1, 6, 9]) (by kernel_rfl) (by simp) ?_
  unfold fr
  obtain ⟨p1, f1, o1⟩ := op2_1
  refine AllReadyH.cons (o := _) o1 (fun K hK => ?_) ?_
  · go_simp
    refine hK.out _ _ trivial (fun _ => ?_)
    (try simp only [List.getElem_toArray, List.getElem_cons_succ, List.getElem_cons_zero, Act.put, List.setIfInBounds_toArray, List.set_cons_zero, List.set_cons_succ])
    exact cy_1247 hn hQ h.made0 _ g11 g13 g16 List.mem_cons_self (List.mem_cons_of_mem _ m11) (List.mem_cons_of_mem _ m13) (List.mem_cons_of_mem _ m16)
  obtain ⟨p6, f6, o6⟩ := op2_6
  refine AllReadyH.cons (o := _) o6 (fun K hK => ?_) ?_
  · go_simp
    refine hK.out _ _ trivial (fun _ => ?_)
    (try simp only [List.getElem_toArray, List.getElem_cons_succ, List.getElem_cons_zero, Act.put, List.setIfInBounds_toArray, List.set_cons_zero, List.set_cons_succ])
    exact cy_2467 hn hQ h.made2 g11 g13 _ g16 (List.mem_cons_of_mem _ m11) (List.mem_cons_of_mem _ m13) List.mem_cons_self (List.mem_cons_of_mem _ m16)
  obtain ⟨p9, f9, o9⟩ := op2_9
  refine AllReadyH.cons (o := _) o9 (fun K hK => ?_) ?_
  · go_simp
    go_at_call 35
    refine Calls.mono (repeat_any g16 n _ hn (h.at_ _ m16)) ?_
    rintro r5 w5 ⟨g18, rfl, hA⟩
    (try go_wp2_with fail)
    refine hK.out _ _ trivial (fun _ => ?_)
    (try simp only [List.getElem_toArray, List.getElem_cons_succ, List.getElem_cons_zero, Act.put, List.setIfInBounds_toArray, List.set_cons_zero, List.set_cons_succ])
    exact cy_2479 hn hQ (h.made1 hA) g11 g13 g16 g18 (List.mem_cons_of_mem _ m11) (List.mem_cons_of_mem _ m13) (List.mem_cons_of_mem _ m16) List.mem_cons_self (fun e => by have h1 := h.lt _ m13; have h2 := hA.gu; simp only at h1; omega)
  exact AllReadyH.nil
set_option linter.unusedSimpArgs false in
set_option linter.unusedVariables false in
set_option maxRecDepth 100000 in
set_option maxHeartbeats 1000000 in
theorem cy_246 {w W : World} {g n : Nat} {L : List (Nat × Nat)} {out : Nat → List Nat} {Q : Exit → Act → World → Prop} (hn : n ≤ 1000000) (hQ : Reg2 w g n out Q) (h : Cy w W n L) (g11 : Nat) (g13 : Nat) (g15 : Nat) (m11 : (g11, 3) ∈ L) (m13 : (g13, 1) ∈ L) (m15 : (g15, 2) ∈ L) : wpAnyH Tryd.prog .any ops2 Q (fun _ => True) 6 #[true, false, true, true, true, true, true, false, true, false, false, false, false] (fr g n undef (.slice (some ⟨g11, 0, none⟩) 1 1) (.slice (some ⟨g13, 0, none⟩) n n) (.slice (some ⟨g15, 0, none⟩) n n) undef undef) W := by
  have hm0 := fun W => makeRw n hn W
  have hm1 := fun W => makeI n hn W
  refine wpAnyH_ready (rs := [1, 7]) (by kernel_rfl) (by simp) ?_
  unfold fr
  obtain ⟨p1, f1, o1⟩ := op2_1
  refine AllReadyH.cons (o := _) o1 (fun K hK => ?_) ?_
  · go_simp
    refine hK.out _ _ trivial (fun _ => ?_)
    (try simp only [List.getElem_toArray, List.getElem_cons_succ, List.getElem_cons_zero, Act.put, List.setIfInBounds_toArray, List.set_cons_zero, List.set_cons_succ])
    exact cy_1246 hn hQ h.made0 _ g11 g13 g15 List.mem_cons_self (List.mem_cons_of_mem _ m11) (List.mem_cons_of_mem _ m13) (List.mem_cons_of_mem _ m15)
  obtain ⟨p7, f7, o7⟩ := op2_7
  refine AllReadyH.cons (o := _) o7 (fun K hK => ?_) ?_
  · go_simp
    refine hK.out _ _ trivial (fun _ => ?_)
    (try simp only [List.getElem_toArray, List.getElem_cons_succ, List.getElem_cons_zero, Act.put, List.setIfInBounds_toArray, List.set_cons_zero, List.set_cons_succ])
    exact cy_2467 hn hQ h.made3 g11 g13 g15 _ (List.mem_cons_of_mem _ m11) (List.mem_cons_of_mem _ m13) (List.mem_cons_of_mem _ m15) List.mem_cons_self
  exact AllReadyH.nil
set_option linter.unusedSimpArgs false in
set_option linter.unusedVariables false in
set_option maxRecDepth 100000 in
set_option maxHeartbeats 1000000 in
theorem cy_167 {w W : World} {g n : Nat} {L : List (Nat × Nat)} {out : Nat → List Nat} {Q : Exit → Act → World → Prop} (hn : n ≤ 1000000) (hQ : Reg2 w g n out Q) (h : Cy w W n L) (g10 : Nat) (g15 : Nat) (g16 : Nat) (m10 : (g10, 0) ∈ L) (m15 : (g15, 2) ∈ L) (m16 : (g16, 3) ∈ L) : wpAnyH Tryd.prog .any ops2 Q (fun _ => True) 6 #[true, true, false, true, false, true, true, true, true, false, false, false, false] (fr g n (.slice (some ⟨g10, 0, none⟩) n n) undef undef (.slice (some ⟨g15, 0, none⟩) n n) (.slice (some ⟨g16, 0, none⟩) 1 1) undef) W := by
  have hm0 := fun W => makeRw n hn W
  have hm1 := fun W => makeI n hn W
  refine wpAnyH_ready (rs := [2]) (by kernel_rfl) (by simp) ?_
  unfold fr
  obtain ⟨p2, f2, o2⟩ := op2_2
  refine AllReadyH.cons (o := _) o2 (fun K hK => ?_) ?_
  · go_simp
    refine hK.out _ _ trivial (fun _ => ?_)
    (try simp only [List.getElem_toArray, List.getElem_cons_succ, List.getElem_cons_zero, Act.put, List.setIfInBounds_toArray, List.set_cons_zero, List.set_cons_succ])
    exact cy_1267 hn hQ h.made3 g10 _ g15 g16 (List.mem_cons_of_mem _ m10) List.mem_cons_self (List.mem_cons_of_mem _ m15) (List.mem_cons_of_mem _ m16)
  exact AllReadyH.nil
set_option linter.unusedSimpArgs false in
set_option linter.unusedVariables false in
set_option maxRecDepth 100000 in
set_option maxHeartbeats 1000000 in
theorem cy_127 {w W : World} {g n : Nat} {L : List (Nat × Nat)} {out : Nat → List Nat} {Q : Exit → Act → World → Prop} (hn : n ≤ 1000000) (hQ : Reg2 w g n out Q) (h : Cy w W n L) (g10 : Nat) (g11 : Nat) (g16 : Nat) (m10 : (g10, 0) ∈ L) (m11 : (g11, 3) ∈ L) (m16 : (g16, 3) ∈ L) : wpAnyH Tryd.prog .any ops2 Q (fun _ => True) 6 #[true, true, true, true, false, true, false, true, true, false, false, false, false] (fr g n (.slice (some ⟨g10, 0, none⟩) n n) (.slice (some ⟨g11, 0, none⟩) 1 1) undef undef (.slice (some ⟨g16, 0, none⟩) 1 1) undef) W := by
  have hm0 := fun W => makeRw n hn W
  have hm1 := fun W => makeI n hn W
  refine wpAnyH_ready (rs := [4, 6]) (by kernel_rfl) (by simp) ?_
  unfold fr
  obtain ⟨p4, f4, o4⟩ := op2_4
  refine AllReadyH.cons (o := _) o4 (fun K hK => ?_) ?_
  · go_simp
    go_at_call 35
    refine Calls.mono (repeat_any g11 n _ hn (h.at_ _ m11)) ?_
    rintro r5 w5 ⟨g13, rfl, hA⟩
    (try go_wp2_with fail)
    refine hK.out _ _ trivial (fun _ => ?_)
    (try simp only [List.getElem_toArray, List.getElem_cons_succ, List.getElem_cons_zero, Act.put, List.setIfInBounds_toArray, List.set_cons_zero, List.set_cons_succ])
    exact cy_1247 hn hQ (h.made1 hA) g10 g11 g13 g16 (List.mem_cons_of_mem _ m10) (List.mem_cons_of_mem _ m11) List.mem_cons_self (List.mem_cons_of_mem _ m16)
  obtain ⟨p6, f6, o6⟩ := op2_6
  refine AllReadyH.cons (o := _) o6 (fun K hK => ?_) ?_
  · go_simp
    refine hK.out _ _ trivial (fun _ => ?_)
    (try simp only [List.getElem_toArray, List.getElem_cons_succ, List.getElem_cons_zero, Act.put, List.setIfInBounds_toArray, List.set_cons_zero, List.set_cons_succ])
    exact cy_1267 hn hQ h.made2 g10 g11 _ g16 (List.mem_cons_of_mem _ m10) (List.mem_cons_of_mem _ m11) List.mem_cons_self (List.mem_cons_of_mem _ m16)
  exact AllReadyH.nil
set_option linter.unusedSimpArgs false in
set_option linter.unusedVariables false in
set_option maxRecDepth 100000 in
set_option maxHeartbeats 1000000 in
theorem cy_126 {w W : World} {g n : Nat} {L : List (Nat × Nat)} {out : Nat → List Nat} {Q : Exit → Act → World → Prop} (hn : n ≤ 1000000) (hQ : Reg2 w g n out Q) (h : Cy w W n L) (g10 : Nat) (g11 : Nat) (g15 : Nat) (m10 : (g10, 0) ∈ L) (m11 : (g11, 3) ∈ L) (m15 : (g15, 2) ∈ L) : wpAnyH Tryd.prog .any ops2 Q (fun _ => True) 6 #[true, true, true, true, false, true, true, false, true, false, false, false, false] (fr g n (.slice (some ⟨g10, 0, none⟩) n n) (.slice (some ⟨g11, 0, none⟩) 1 1) undef (.slice (some ⟨g15, 0, none⟩) n n) undef undef) W := by
  have hm0 := fun W => makeRw n hn W
  have hm1 := fun W => makeI n hn W
  refine wpAnyH_ready (rs := [4, 7]) (by kernel_rfl) (by simp) ?_
  unfold fr
  obtain ⟨p4, f4, o4⟩ := op2_4
  refine AllReadyH.cons (o := _) o4 (fun K hK => ?_) ?_
  · go_simp
    go_at_call 35
    refine Calls.mono (repeat_any g11 n _ hn (h.at_ _ m11)) ?_
    rintro r5 w5 ⟨g13, rfl, hA⟩
    (try go_wp2_with fail)
    refine hK.out _ _ trivial (fun _ => ?_)
    (try simp only [List.getElem_toArray, List.getElem_cons_succ, List.getElem_cons_zero, Act.put, List.setIfInBounds_toArray, List.set_cons_zero, List.set_cons_succ])
    exact cy_1246 hn hQ (h.made1 hA) g10 g11 g13 g15 (List.mem_cons_of_mem _ m10) (List.mem_cons_of_mem _ m11) List.mem_cons_self (List.mem_cons_of_mem _ m15)
  obtain ⟨p7, f7, o7⟩ := op2_7
  refine AllReadyH.cons (o := _) o7 (fun K hK => ?_) ?_
  · go_simp
    refine hK.out _ _ trivial (fun _ => ?_)
    (try simp only [List.getElem_toArray, List.getElem_cons_succ, List.getElem_cons_zero, Act.put, List.setIfInBounds_toArray, List.set_cons_zero, List.set_cons_succ])
    exact cy_1267 hn hQ h.made3 g10 g11 g15 _ (List.mem_cons_of_mem _ m10) (List.mem_cons_of_mem _ m11) (List.mem_cons_of_mem _ m15) List.mem_cons_self
  exact AllReadyH.nil
set_option linter.unusedSimpArgs false in
set_option linter.unusedVariables false in
set_option maxRecDepth 100000 in
set_option maxHeartbeats 1000000 in
theorem cy_124 {w W : World} {g n : Nat} {L : List (Nat × Nat)} {out : Nat → List Nat} {Q : Exit → Act → World → Prop} (hn : n ≤ 1000000) (hQ : Reg2 w g n out Q) (h : Cy w W n L) (g10 : Nat) (g11 : Nat) (g13 : Nat) (m10 : (g10, 0) ∈ L) (m11 : (g11, 3) ∈ L) (m13 : (g13, 1) ∈ L) : wpAnyH Tryd.prog .any ops2 Q (fun _ => True) 6 #[true, true, true, true, true, true, false, false, true, false, false, false, false] (fr g n (.slice (some ⟨g10, 0, none⟩) n n) (.slice (some ⟨g11, 0, none⟩) 1 1) (.slice (some ⟨g13, 0, none⟩) n n) undef undef undef) W := by
  have hm0 := fun W => makeRw n hn W
  have hm1 := fun W => makeI n hn W
  refine wpAnyH_ready (rs := [6, 7]) (by kernel_rfl) (by simp) ?_
  unfold fr
  obtain ⟨p6, f6, o6⟩ := op2_6
  refine AllReadyH.cons (o := _) o6 (fun K hK => ?_) ?_
  · go_simp
    refine hK.out _ _ trivial (fun _ => ?_)
    (try simp only [List.getElem_toArray, List.getElem_cons_succ, List.getElem_cons_zero, Act.put, List.setIfInBounds_toArray, List.set_cons_zero, List.set_cons_succ])
    exact cy_1246 hn hQ h.made2 g10 g11 g13 _ (List.mem_cons_of_mem _ m10) (List.mem_cons_of_mem _ m11) (List.mem_cons_of_mem _ m13) List.mem_cons_self
  obtain ⟨p7, f7, o7⟩ := op2_7
  refine AllReadyH.cons (o := _) o7 (fun K hK => ?_) ?_
  · go_simp
    refine hK.out _ _ trivial (fun _ => ?_)
    (try simp only [List.getElem_toArray, List.getElem_cons_succ, List.getElem_cons_zero, Act.put, List.setIfInBounds_toArray, List.set_cons_zero, List.set_cons_succ])
    exact cy_1247 hn hQ h.made3 g10 g11 g13 _ (List.mem_cons_of_mem _ m10) (List.mem_cons_of_mem _ m11) (List.mem_cons_of_mem _ m13) List.mem_cons_self
  exact AllReadyH.nil
set_option linter.unusedSimpArgs false in
set_option linter.unusedVariables false in
set_option maxRecDepth 100000 in
set_option maxHeartbeats 1000000 in
theorem cy_67 {w W : World} {g n : Nat} {L : List (Nat × Nat)} {out : Nat → List Nat} {Q : Exit → Act → World → Prop} (hn : n ≤ 1000000) (hQ : Reg2 w g n out Q) (h : Cy w W n L) (g15 : Nat) (g16 : Nat) (m15 : (g15, 2) ∈ L) (m16 : (g16, 3) ∈ L) : wpAnyH Tryd.prog .any ops2 Q (fun _ => True) 7 #[true, false, false, true, false, true, true, true, true, false, false, false, false] (fr g n undef undef undef (.slice (some ⟨g15, 0, none⟩) n n) (.slice (some ⟨g16, 0, none⟩) 1 1) undef) W := by
  have hm0 := fun W => makeRw n hn W
  have hm1 := fun W => makeI n hn W
  refine wpAnyH_ready (rs := [1, 2]) (by kernel_rfl) (by simp) ?_
  unfold fr
  obtain ⟨p1, f1, o1⟩ := op2_1
  refine AllReadyH.cons (o := _) o1 (fun K hK => ?_) ?_
  · go_simp
    refine hK.out _ _ trivial (fun _ => ?_)
    (try simp only [List.getElem_toArray, List.getElem_cons_succ, List.getElem_cons_zero, Act.put, List.setIfInBounds_toArray, List.set_cons_zero, List.set_cons_succ])
    exact cy_167 hn hQ h.made0 _ g15 g16 List.mem_cons_self (List.mem_cons_of_mem _ m15) (List.mem_cons_of_mem _ m16)
  obtain ⟨p2, f2, o2⟩ := op2_2
  refine AllReadyH.cons (o := _) o2 (fun K hK => ?_) ?_
  · go_simp
    refine hK.out _ _ trivial (fun _ => ?_)
    (try simp only [List.getElem_toArray, List.getElem_cons_succ, List.getElem_cons_zero, Act.put, List.setIfInBounds_toArray, List.set_cons_zero, List.set_cons_succ])
    exact cy_267 hn hQ h.made3 _ g15 g16 List.mem_cons_self (List.mem_cons_of_mem _ m15) (List.mem_cons_of_mem _ m16)
  exact AllReadyH.nil
set_option linter.unusedSimpArgs false in
set_option linter.unusedVariables false in
set_option maxRecDepth 100000 in
set_option maxHeartbeats 1000000 in
theorem cy_27 {w W : World} {g n : Nat} {L : List (Nat × Nat)} {out : Nat → List Nat} {Q : Exit → Act → World → Prop} (hn : n ≤ 1000000) (hQ : Reg2 w g n out Q) (h : Cy w W n L) (g11 : Nat) (g16 : Nat) (m11 : (g11, 3) ∈ L) (m16 : (g16, 3) ∈ L) : wpAnyH Tryd.prog .any ops2 Q (fun _ => True) 7 #[true, false, true, true, false, true, false, true, true, false, false, false, false] (fr g n undef (.slice (some ⟨g11, 0, none⟩) 1 1) undef undef (.slice (some ⟨g16, 0, none⟩) 1 1) undef) W := by
  have hm0 := fun W => makeRw n hn W
  have hm1 := fun W => makeI n hn W
  refine wpAnyH_ready (rs := [1, 4, 6]) (by kernel_rfl) (by simp) ?_
  unfold fr
  obtain ⟨p1, f1, o1⟩ := op2_1
  refine AllReadyH.cons (o := _) o1 (fun K hK => ?_) ?_
  · go_simp
    refine hK.out _ _ trivial (fun _ => ?_)
    (try simp only [List.getElem_toArray, List.getElem_cons_succ, List.getElem_cons_zero, Act.put, List.setIfInBounds_toArray, List.set_cons_zero, List.set_cons_succ])
    exact cy_127 hn hQ h.made0 _ g11 g16 List.mem_cons_self (List.mem_cons_of_mem _ m11) (List.mem_cons_of_mem _ m16)
  obtain ⟨p4, f4, o4⟩ := op2_4
  refine AllReadyH.cons (o := _) o4 (fun K hK => ?_) ?_
  · go_simp
    go_at_call 35
    refine Calls.mono (repeat_any g11 n _ hn (h.at_ _ m11)) ?_
    rintro r5 w5 ⟨g13, rfl, hA⟩
    (try go_wp2_with fail)
    refine hK.out _ _ trivial (fun _ => ?_)
    (try simp only [List.getElem_toArray, List.getElem_cons_succ, List.getElem_cons_zero, Act.put, List.setIfInBounds_toArray, List.set_cons_zero, List.set_cons_succ])
    exact cy_247 hn hQ (h.made1 hA) g11 g13 g16 (List.mem_cons_of_mem _ m11) List.mem_cons_self (List.mem_cons_of_mem _ m16)
  obtain ⟨p6, f6, o6⟩ := op2_6
  refine AllReadyH.cons (o := _) o6 (fun K hK => ?_) ?_
  · go_simp
    refine hK.out _ _ trivial (fun _ => ?_)
    (try simp only [List.getElem_toArray, List.getElem_cons_succ, List.getElem_cons_zero, Act.put, List.setIfInBounds_toArray, List.set_cons_zero, List.set_cons_succ])
    exact cy_267 hn hQ h.made2 g11 _ g16 (List.mem_cons_of_mem _ m11) List.mem_cons_self (List.mem_cons_of_mem _ m16)
  exact AllReadyH.nil
set_option linter.unusedSimpArgs false in
set_option linter.unusedVariables false in
set_option maxRecDepth 100000 in
set_option maxHeartbeats 1000000 in
theorem cy_26 {w W : World} {g n : Nat} {L : List (Nat × Nat)} {out : Nat → List Nat} {Q : Exit → Act → World → Prop} (hn : n ≤ 1000000) (hQ : Reg2 w g n out Q) (h : Cy w W n L) (g11 : Nat) (g15 : Nat) (m11 : (g11, 3) ∈ L) (m15 : (g15, 2) ∈ L) : wpAnyH Tryd.prog .any ops2 Q (fun _ => True) 7 #[true, false, true, true, false, true, true, false, true, false, false, false, false] (fr g n undef (.slice (some ⟨g11, 0, none⟩) 1 1) undef (.slice (some ⟨g15, 0, none⟩) n n) undef undef) W := by
  have hm0 := fun W => makeRw n hn W
  have hm1 := fun W => makeI n hn W
  refine wpAnyH_ready (rs := [1, 4, 7]) (by kernel_rfl) (by simp) ?_
  unfold fr
  obtain ⟨p1, f1, o1⟩ := op2_1
  refine AllReadyH.cons (o := _) o1 (fun K hK => ?_) ?_
  · go_simp
    refine hK.out _ _ trivial (fun _ => ?_)
    (try simp only [List.getElem_toArray, List.getElem_cons_succ, List.getElem_cons_zero, Act.put, List.setIfInBounds_toArray, List.set_cons_zero, List.set_cons_succ])
    exact cy_126 hn hQ h.made0 _ g11 g15 List.mem_cons_self (List.mem_cons_of_mem _ m11) (List.mem_cons_of_mem _ m15)
  obtain ⟨p4, f4, o4⟩ := op2_4
  refine AllReadyH.cons (o := _) o4 (fun K hK => ?_) ?_
  · go_simp
    go_at_call 35
    refine Calls.mono (repeat_any g11 n _ hn (h.at_ _ m11)) ?_
    rintro r5 w5 ⟨g13, rfl, hA⟩
    (try go_wp2_with fail)
    refine hK.out _ _ trivial (fun _ => ?_)
    (try simp only [List.getElem_toArray, List.getElem_cons_succ, List.getElem_cons_zero, Act.put, List.setIfInBounds_toArray, List.set_cons_zero, List.set_cons_succ])
    exact cy_246 hn hQ (h.made1 hA) g11 g13 g15 (List.mem_cons_of_mem _ m11) List.mem_cons_self (List.mem_cons_of_mem _ m15)
  obtain ⟨p7, f7, o7⟩ := op2_7
  refine AllReadyH.cons (o := _) o7 (fun K hK => ?_) ?_
  · go_simp
    refine hK.out _ _ trivial (fun _ => ?_)
    (try simp only [List.getElem_toArray, List.getElem_cons_succ, List.getElem_cons_zero, Act.put, List.setIfInBounds_toArray, List.set_cons_zero, List.set_cons_succ])
    exact cy_267 hn hQ h.made3 g11 g15 _ (List.mem_cons_of_mem _ m11) (List.mem_cons_of_mem _ m15) List.mem_cons_self
  exact AllReadyH.nil
set_option linter.unusedSimpArgs false in
set_option linter.unusedVariables false in
set_option maxRecDepth 100000 in
set_option maxHeartbeats 1000000 in
theorem cy_24 {w W : World} {g n : Nat} {L : List (Nat × Nat)} {out : Nat → List Nat} {Q : Exit → Act → World → Prop} (hn : n ≤ 1000000) (hQ : Reg2 w g n out Q) (h : Cy w W n L) (g11 : Nat) (g13 : Nat) (m11 : (g11, 3) ∈ L) (m13 : (g13, 1) ∈ L) : wpAnyH Tryd.prog .any ops2 Q (fun _ => True) 7 #[true, false, true, true, true, true, false, false, true, false, false, false, false] (fr g n undef (.slice (some ⟨g11, 0, none⟩) 1 1) (.slice (some ⟨g13, 0, none⟩) n n) undef undef undef) W := by
  have hm0 := fun W => makeRw n hn W
  have hm1 := fun W => makeI n hn W
  refine wpAnyH_ready (rs := [1, 6, 7]) (by kernel_rfl) (by simp) ?_
  unfold fr
  obtain ⟨p1, f1, o1⟩ := op2_1
  refine AllReadyH.cons (o := _) o1 (fun K hK => ?_) ?_
  · go_simp
    refine hK.out _ _ trivial (fun _ => ?_)
    (try simp only [List.getElem_toArray, List.getElem_cons_succ, List.getElem_cons_zero, Act.put, List.setIfInBounds_toArray, List.set_cons_zero, List.set_cons_succ])
    exact cy_124 hn hQ h.made0 _ g11 g13 List.mem_cons_self (List.mem_cons_of_mem _ m11) (List.mem_cons_of_mem _ m13)
  obtain ⟨p6, f6, o6⟩ := op2_6
  refine AllReadyH.cons (o := _) o6 (fun K hK => ?_) ?_
  · go_simp
    refine hK.out _ _ trivial (fun _ => ?_)
    (try simp only [List.getElem_toArray, List.getElem_cons_succ, List.getElem_cons_zero, Act.put, List.setIfInBounds_toArray, List.set_cons_zero, List.set_cons_succ])
    exact cy_246 hn hQ h.made2 g11 g13 _ (List.mem_cons_of_mem _ m11) (List.mem_cons_of_mem _ m13) List.mem_cons_self
  obtain ⟨p7, f7, o7⟩ := op2_7
  refine AllReadyH.cons (o := _) o7 (fun K hK => ?_) ?_
  · go_simp
    refine hK.out _ _ trivial (fun _ => ?_)
    (try simp only [List.getElem_toArray, List.getElem_cons_succ, List.getElem_cons_zero, Act.put, List.setIfInBounds_toArray, List.set_cons_zero, List.set_cons_succ])
    exact cy_247 hn hQ h.made3 g11 g13 _ (List.mem_cons_of_mem _ m11) (List.mem_cons_of_mem _ m13) List.mem_cons_self
  exact AllReadyH.nil
set_option linter.unusedSimpArgs false in
set_option linter.unusedVariables false in
set_option maxRecDepth 100000 in
set_option maxHeartbeats 1000000 in
theorem cy_17 {w W : World} {g n : Nat} {L : List (Nat × Nat)} {out : Nat → List Nat} {Q : Exit → Act → World → Prop} (hn : n ≤ 1000000) (hQ : Reg2 w g n out Q) (h : Cy w W n L) (g10 : Nat) (g16 : Nat) (m10 : (g10, 0) ∈ L) (m16 : (g16, 3) ∈ L) : wpAnyH Tryd.prog .any ops2 Q (fun _ => True) 7 #[true, true, false, true, false, true, false, true, true, false, false, false, false] (fr g n (.slice (some ⟨g10, 0, none⟩) n n) undef undef undef (.slice (some ⟨g16, 0, none⟩) 1 1) undef) W := by
  have hm0 := fun W => makeRw n hn W
  have hm1 := fun W => makeI n hn W
  refine wpAnyH_ready (rs := [2, 6]) (by kernel_rfl) (by simp) ?_
  unfold fr
  obtain ⟨p2, f2, o2⟩ := op2_2
  refine AllReadyH.cons (o := _) o2 (fun K hK => ?_) ?_
  · go_simp
    refine hK.out _ _ trivial (fun _ => ?_)
    (try simp only [List.getElem_toArray, List.getElem_cons_succ, List.getElem_cons_zero, Act.put, List.setIfInBounds_toArray, List.set_cons_zero, List.set_cons_succ])
    exact cy_127 hn hQ h.made3 g10 _ g16 (List.mem_cons_of_mem _ m10) List.mem_cons_self (List.mem_cons_of_mem _ m16)
  obtain ⟨p6, f6, o6⟩ := op2_6
  refine AllReadyH.cons (o := _) o6 (fun K hK => ?_) ?_
  · go_simp
    refine hK.out _ _ trivial (fun _ => ?_)
    (try simp only [List.getElem_toArray, List.getElem_cons_succ, List.getElem_cons_zero, Act.put, List.setIfInBounds_toArray, List.set_cons_zero, List.set_cons_succ])
    exact cy_167 hn hQ h.made2 g10 _ g16 (List.mem_cons_of_mem _ m10) List.mem_cons_self (List.mem_cons_of_mem _ m16)
  exact AllReadyH.nil
set_option linter.unusedSimpArgs false in
set_option linter.unusedVariables false in
set_option maxRecDepth 100000 in
set_option maxHeartbeats 1000000 in
theorem cy_16 {w W : World} {g n : Nat} {L : List (Nat × Nat)} {out : Nat → List Nat} {Q : Exit → Act → World → Prop} (hn : n ≤ 1000000) (hQ : Reg2 w g n out Q) (h : Cy w W n L) (g10 : Nat) (g15 : Nat) (m10 : (g10, 0) ∈ L) (m15 : (g15, 2) ∈ L) : wpAnyH Tryd.prog .any ops2 Q (fun _ => True) 7 #[true, true, false, true, false, true, true, false, true, false, false, false, false] (fr g n (.slice (some ⟨g10, 0, none⟩) n n) undef undef (.slice (some ⟨g15, 0, none⟩) n n) undef undef) W := by
  have hm0 := fun W => makeRw n hn W
  have hm1 := fun W => makeI n hn W
  refine wpAnyH_ready (rs := [2, 7]) (by kernel_rfl) (by simp) ?_
  unfold fr
  obtain ⟨p2, f2, o2⟩ := op2_2
  refine AllReadyH.cons (o := _) o2 (fun K hK => ?_) ?_
  · go_simp
    refine hK.out _ _ trivial (fun _ => ?_)
    (try simp only [List.getElem_toArray, List.getElem_cons_succ, List.getElem_cons_zero, Act.put, List.setIfInBounds_toArray, List.set_cons_zero, List.set_cons_succ])
    exact cy_126 hn hQ h.made3 g10 _ g15 (List.mem_cons_of_mem _ m10) List.mem_cons_self (List.mem_cons_of_mem _ m15)
  obtain ⟨p7, f7, o7⟩ := op2_7
  refine AllReadyH.cons (o := _) o7 (fun K hK => ?_) ?_
  · go_simp
    refine hK.out _ _ trivial (fun _ => ?_)
    (try simp only [List.getElem_toArray, List.getElem_cons_succ, List.getElem_cons_zero, Act.put, List.setIfInBounds_toArray, List.set_cons_zero, List.set_cons_succ])
    exact cy_167 hn hQ h.made3 g10 g15 _ (List.mem_cons_of_mem _ m10) (List.mem_cons_of_mem _ m15) List.mem_cons_self
  exact AllReadyH.nil
set_option linter.unusedSimpArgs false in
set_option linter.unusedVariables false in
set_option maxRecDepth 100000 in
set_option maxHeartbeats 1000000 in
theorem cy_12 {w W : World} {g n : Nat} {L : List (Nat × Nat)} {out : Nat → List Nat} {Q : Exit → Act → World → Prop} (hn : n ≤ 1000000) (hQ : Reg2 w g n out Q) (h : Cy w W n L) (g10 : Nat) (g11 : Nat) (m10 : (g10, 0) ∈ L) (m11 : (g11, 3) ∈ L) : wpAnyH Tryd.prog .any ops2 Q (fun _ => True) 7 #[true, true, true, true, false, true, false, false, true, false, false, false, false] (fr g n (.slice (some ⟨g10, 0, none⟩) n n) (.slice (some ⟨g11, 0, none⟩) 1 1) undef undef undef undef) W := by
  have hm0 := fun W => makeRw n hn W
  have hm1 := fun W => makeI n hn W
  refine wpAnyH_ready (rs := [4, 6, 7]) (by kernel_rfl) (by simp) ?_
  unfold fr
  obtain ⟨p4, f4, o4⟩ := op2_4
  refine AllReadyH.cons (o := _) o4 (fun K hK => ?_) ?_
  · go_simp
    go_at_call 35
    refine Calls.mono (repeat_any g11 n _ hn (h.at_ _ m11)) ?_
    rintro r5 w5 ⟨g13, rfl, hA⟩
    (try go_wp2_with fail)
    refine hK.out _ _ trivial (fun _ => ?_)
    (try simp only [List.getElem_toArray, List.getElem_cons_succ, List.getElem_cons_zero, Act.put, List.setIfInBounds_toArray, List.set_cons_zero, List.set_cons_succ])
    exact cy_124 hn hQ (h.made1 hA) g10 g11 g13 (List.mem_cons_of_mem _ m10) (List.mem_cons_of_mem _ m11) List.mem_cons_self
  obtain ⟨p6, f6, o6⟩ := op2_6
  refine AllReadyH.cons (o := _) o6 (fun K hK => ?_) ?_
  · go_simp
    refine hK.out _ _ trivial (fun _ => ?_)
    (try simp only [List.getElem_toArray, List.getElem_cons_succ, List.getElem_cons_zero, Act.put, List.setIfInBounds_toArray, List.set_cons_zero, List.set_cons_succ])
    exact cy_126 hn hQ h.made2 g10 g11 _ (List.mem_cons_of_mem _ m10) (List.mem_cons_of_mem _ m11) List.mem_cons_self
  obtain ⟨p7, f7, o7⟩ := op2_7
  refine AllReadyH.cons (o := _) o7 (fun K hK => ?_) ?_
  · go_simp
    refine hK.out _ _ trivial (fun _ => ?_)
    (try simp only [List.getElem_toArray, List.getElem_cons_succ, List.getElem_cons_zero, Act.put, List.setIfInBounds_toArray, List.set_cons_zero, List.set_cons_succ])
    exact cy_127 hn hQ h.made3 g10 g11 _ (List.mem_cons_of_mem _ m10) (List.mem_cons_of_mem _ m11) List.mem_cons_self
  exact AllReadyH.nil
set_option linter.unusedSimpArgs false in
set_option linter.unusedVariables false in
set_option maxRecDepth 100000 in
set_option maxHeartbeats 1000000 in
theorem cy_7 {w W : World} {g n : Nat} {L : List (Nat × Nat)} {out : Nat → List Nat} {Q : Exit → Act → World → Prop} (hn : n ≤ 1000000) (hQ : Reg2 w g n out Q) (h : Cy w W n L) (g16 : Nat) (m16 : (g16, 3) ∈ L) : wpAnyH Tryd.prog .any ops2 Q (fun _ => True) 8 #[true, false, false, true, false, true, false, true, true, false, false, false, false] (fr g n undef undef undef undef (.slice (some ⟨g16, 0, none⟩) 1 1) undef) W := by
  have hm0 := fun W => makeRw n hn W
  have hm1 := fun W => makeI n hn W
  refine wpAnyH_ready (rs := [1, 2, 6]) (by kernel_rfl) (by simp) ?_
  unfold fr
  obtain ⟨p1, f1, o1⟩ := op2_1
  refine AllReadyH.cons (o := _) o1 (fun K hK => ?_) ?_
  · go_simp
    refine hK.out _ _ trivial (fun _ => ?_)
    (try simp only [List.getElem_toArray, List.getElem_cons_succ, List.getElem_cons_zero, Act.put, List.setIfInBounds_toArray, List.set_cons_zero, List.set_cons_succ])
    exact cy_17 hn hQ h.made0 _ g16 List.mem_cons_self (List.mem_cons_of_mem _ m16)
  obtain ⟨p2, f2, o2⟩ := op2_2
  refine AllReadyH.cons (o := _) o2 (fun K hK => ?_) ?_
  · go_simp
    refine hK.out _ _ trivial (fun _ => ?_)
    (try simp only [List.getElem_toArray, List.getElem_cons_succ, List.getElem_cons_zero, Act.put, List.setIfInBounds_toArray, List.set_cons_zero, List.set_cons_succ])
    exact cy_27 hn hQ h.made3 _ g16 List.mem_cons_self (List.mem_cons_of_mem _ m16)
  obtain ⟨p6, f6, o6⟩ := op2_6
  refine AllReadyH.cons (o := _) o6 (fun K hK => ?_) ?_
  · go_simp
    refine hK.out _ _ trivial (fun _ => ?_)
    (try simp only [List.getElem_toArray, List.getElem_cons_succ, List.getElem_cons_zero, Act.put, List.setIfInBounds_toArray, List.set_cons_zero, List.set_cons_succ])
    exact cy_67 hn hQ h.made2 _ g16 List.mem_cons_self (List.mem_cons_of_mem _ m16)
  exact AllReadyH.nil
set_option linter.unusedSimpArgs false in
set_option linter.unusedVariables false in
set_option maxRecDepth 100000 in
set_option maxHeartbeats 1000000 in
theorem cy_6 {w W : World} {g n : Nat} {L : List (Nat × Nat)} {out : Nat → List Nat} {Q : Exit → Act → World → Prop} (hn : n ≤ 1000000) (hQ : Reg2 w g n out Q) (h : Cy w W n L) (g15 : Nat) (m15 : (g15, 2) ∈ L) : wpAnyH Tryd.prog .any ops2 Q (fun _ => True) 8 #[true, false, false, true, false, true, true, false, true, false, false, false, false] (fr g n undef undef undef (.slice (some ⟨g15, 0, none⟩) n n) undef undef) W := by
  have hm0 := fun W => makeRw n hn W
  have hm1 := fun W => makeI n hn W
  refine wpAnyH_ready (rs := [1, 2, 7]) (by kernel_rfl) (by simp) ?_
  unfold fr
  obtain ⟨p1, f1, o1⟩ := op2_1
  refine AllReadyH.cons (o := _) o1 (fun K hK => ?_) ?_
  · go_simp
    refine hK.out _ _ trivial (fun _ => ?_)
    (try simp only [List.getElem_toArray, List.getElem_cons_succ, List.getElem_cons_zero, Act.put, List.setIfInBounds_toArray, List.set_cons_zero, List.set_cons_succ])
    exact cy_16 hn hQ h.made0 _ g15 List.mem_cons_self (List.mem_cons_of_mem _ m15)
  obtain ⟨p2, f2, o2⟩ := op2_2
  refine AllReadyH.cons (o := _) o2 (fun K hK => ?_) ?_
  · go_simp
    refine hK.out _ _ trivial (fun _ => ?_)
    (try simp only [List.getElem_toArray, List.getElem_cons_succ, List.getElem_cons_zero, Act.put, List.setIfInBounds_toArray, List.set_cons_zero, List.set_cons_succ])
    exact cy_26 hn hQ h.made3 _ g15 List.mem_cons_self (List.mem_cons_of_mem _ m15)
  obtain ⟨p7, f7, o7⟩ := op2_7
  refine AllReadyH.cons (o := _) o7 (fun K hK => ?_) ?_
  · go_simp
    refine hK.out _ _ trivial (fun _ => ?_)
    (try simp only [List.getElem_toArray, List.getElem_cons_succ, List.getElem_cons_zero, Act.put, List.setIfInBounds_toArray, List.set_cons_zero, List.set_cons_succ])
    exact cy_67 hn hQ h.made3 g15 _ (List.mem_cons_of_mem _ m15) List.mem_cons_self
  exact AllReadyH.nil
set_option linter.unusedSimpArgs false in
set_option linter.unusedVariables false in
set_option maxRecDepth 100000 in
set_option maxHeartbeats 1000000 in
theorem cy_2 {w W : World} {g n : Nat} {L : List (Nat × Nat)} {out : Nat → List Nat} {Q : Exit → Act → World → Prop} (hn : n ≤ 1000000) (hQ : Reg2 w g n out Q) (h : Cy w W n L) (g11 : Nat) (m11 : (g11, 3) ∈ L) : wpAnyH Tryd.prog .any ops2 Q (fun _ => True) 8 #[true, false, true, true, false, true, false, false, true, false, false, false, false] (fr g n undef (.slice (some ⟨g11, 0, none⟩) 1 1) undef undef undef undef) W := by
  have hm0 := fun W => makeRw n hn W
  have hm1 := fun W => makeI n hn W
  refine wpAnyH_ready (rs := [1, 4, 6, 7]) (by kernel_rfl) (by simp) ?_
  unfold fr
  obtain ⟨p1, f1, o1⟩ := op2_1
  refine AllReadyH.cons (o := _) o1 (fun K hK => ?_) ?_
  · go_simp
    refine hK.out _ _ trivial (fun _ => ?_)
    (try simp only [List.getElem_toArray, List.getElem_cons_succ, List.getElem_cons_zero, Act.put, List.setIfInBounds_toArray, List.set_cons_zero, List.set_cons_succ])
    exact cy_12 hn hQ h.made0 _ g11 List.mem_cons_self (List.mem_cons_of_mem _ m11)
  obtain ⟨p4, f4, o4⟩ := op2_4
  refine AllReadyH.cons (o := _) o4 (fun K hK => ?_) ?_
  · go_simp
    go_at_call 35
    refine Calls.mono (repeat_any g11 n _ hn (h.at_ _ m11)) ?_
    rintro r5 w5 ⟨g13, rfl, hA⟩
    (try go_wp2_with fail)
    refine hK.out _ _ trivial (fun _ => ?_)
    (try simp only [List.getElem_toArray, List.getElem_cons_succ, List.getElem_cons_zero, Act.put, List.setIfInBounds_toArray, List.set_cons_zero, List.set_cons_succ])
    exact cy_24 hn hQ (h.made1 hA) g11 g13 (List.mem_cons_of_mem _ m11) List.mem_cons_self
  obtain ⟨p6, f6, o6⟩ := op2_6
  refine AllReadyH.cons (o := _) o6 (fun K hK => ?_) ?_
  · go_simp
    refine hK.out _ _ trivial (fun _ => ?_)
    (try simp only [List.getElem_toArray, List.getElem_cons_succ, List.getElem_cons_zero, Act.put, List.setIfInBounds_toArray, List.set_cons_zero, List.set_cons_succ])
    exact cy_26 hn hQ h.made2 g11 _ (List.mem_cons_of_mem _ m11) List.mem_cons_self
  obtain ⟨p7, f7, o7⟩ := op2_7
  refine AllReadyH.cons (o := _) o7 (fun K hK => ?_) ?_
  · go_simp
    refine hK.out _ _ trivial (fun _ => ?_)
    (try simp only [List.getElem_toArray, List.getElem_cons_succ, List.getElem_cons_zero, Act.put, List.setIfInBounds_toArray, List.set_cons_zero, List.set_cons_succ])
    exact cy_27 hn hQ h.made3 g11 _ (List.mem_cons_of_mem _ m11) List.mem_cons_self
  exact AllReadyH.nil
set_option linter.unusedSimpArgs false in
set_option linter.unusedVariables false in
set_option maxRecDepth 100000 in
set_option maxHeartbeats 1000000 in
theorem cy_1 {w W : World} {g n : Nat} {L : List (Nat × Nat)} {out : Nat → List Nat} {Q : Exit → Act → World → Prop} (hn : n ≤ 1000000) (hQ : Reg2 w g n out Q) (h : Cy w W n L) (g10 : Nat) (m10 : (g10, 0) ∈ L) : wpAnyH Tryd.prog .any ops2 Q (fun _ => True) 8 #[true, true, false, true, false, true, false, false, true, false, false, false, false] (fr g n (.slice (some ⟨g10, 0, none⟩) n n) undef undef undef undef undef) W := by
  have hm0 := fun W => makeRw n hn W
  have hm1 := fun W => makeI n hn W
  refine wpAnyH_ready (rs := [2, 6, 7]) (by kernel_rfl) (by simp) ?_
  unfold fr
  obtain ⟨p2, f2, o2⟩ := op2_2
  refine AllReadyH.cons (o := _) o2 (fun K hK => ?_) ?_
  · go_simp
    refine hK.out _ _ trivial (fun _ => ?_)
    (try simp only [List.getElem_toArray, List.getElem_cons_succ, List.getElem_cons_zero, Act.put, List.setIfInBounds_toArray, List.set_cons_zero, List.set_cons_succ])
    exact cy_12 hn hQ h.made3 g10 _ (List.mem_cons_of_mem _ m10) List.mem_cons_self
  obtain ⟨p6, f6, o6⟩ := op2_6
  refine AllReadyH.cons (o := _) o6 (fun K hK => ?_) ?_
  · go_simp
    refine hK.out _ _ trivial (fun _ => ?_)
    (try simp only [List.getElem_toArray, List.getElem_cons_succ, List.getElem_cons_zero, Act.put, List.setIfInBounds_toArray, List.set_cons_zero, List.set_cons_succ])
    exact cy_16 hn hQ h.made2 g10 _ (List.mem_cons_of_mem _ m10) List.mem_cons_self
  obtain ⟨p7, f7, o7⟩ := op2_7
  refine AllReadyH.cons (o := _) o7 (fun K hK => ?_) ?_
  · go_simp
    refine hK.out _ _ trivial (fun _ => ?_)
    (try simp only [List.getElem_toArray, List.getElem_cons_succ, List.getElem_cons_zero, Act.put, List.setIfInBounds_toArray, List.set_cons_zero, List.set_cons_succ])
    exact cy_17 hn hQ h.made3 g10 _ (List.mem_cons_of_mem _ m10) List.mem_cons_self
  exact AllReadyH.nil
set_option linter.unusedSimpArgs false in
set_option linter.unusedVariables false in
set_option maxRecDepth 100000 in
set_option maxHeartbeats 1000000 in
theorem cy_o {w W : World} {g n : Nat} {L : List (Nat × Nat)} {out : Nat → List Nat} {Q : Exit → Act → World → Prop} (hn : n ≤ 1000000) (hQ : Reg2 w g n out Q) (h : Cy w W n L)   : wpAnyH Tryd.prog .any ops2 Q (fun _ => True) 9 #[true, false, false, true, false, true, false, false, true, false, false, false, false] (fr g n undef undef undef undef undef undef) W := by
  have hm0 := fun W => makeRw n hn W
  have hm1 := fun W => makeI n hn W
  refine wpAnyH_ready (rs := [1, 2, 6, 7]) (by kernel_rfl) (by simp) ?_
  unfold fr
  obtain ⟨p1, f1, o1⟩ := op2_1
  refine AllReadyH.cons (o := _) o1 (fun K hK => ?_) ?_
  · go_simp
    refine hK.out _ _ trivial (fun _ => ?_)
    (try simp only [List.getElem_toArray, List.getElem_cons_succ, List.getElem_cons_zero, Act.put, List.setIfInBounds_toArray, List.set_cons_zero, List.set_cons_succ])
    exact cy_1 hn hQ h.made0 _ List.mem_cons_self
  obtain ⟨p2, f2, o2⟩ := op2_2
  refine AllReadyH.cons (o := _) o2 (fun K hK => ?_) ?_
  · go_simp
    refine hK.out _ _ trivial (fun _ => ?_)
    (try simp only [List.getElem_toArray, List.getElem_cons_succ, List.getElem_cons_zero, Act.put, List.setIfInBounds_toArray, List.set_cons_zero, List.set_cons_succ])
    exact cy_2 hn hQ h.made3 _ List.mem_cons_self
  obtain ⟨p6, f6, o6⟩ := op2_6
  refine AllReadyH.cons (o := _) o6 (fun K hK => ?_) ?_
  · go_simp
    refine hK.out _ _ trivial (fun _ => ?_)
    (try simp only [List.getElem_toArray, List.getElem_cons_succ, List.getElem_cons_zero, Act.put, List.setIfInBounds_toArray, List.set_cons_zero, List.set_cons_succ])
    exact cy_6 hn hQ h.made2 _ List.mem_cons_self
  obtain ⟨p7, f7, o7⟩ := op2_7
  refine AllReadyH.cons (o := _) o7 (fun K hK => ?_) ?_
  · go_simp
    refine hK.out _ _ trivial (fun _ => ?_)
    (try simp only [List.getElem_toArray, List.getElem_cons_succ, List.getElem_cons_zero, Act.put, List.setIfInBounds_toArray, List.set_cons_zero, List.set_cons_succ])
    exact cy_7 hn hQ h.made3 _ List.mem_cons_self
  exact AllReadyH.nil
set_option linter.unusedSimpArgs false in
set_option maxRecDepth 100000 in
set_option maxHeartbeats 1000000 in
theorem reg2_any {w : World} {g n : Nat} {out : Nat → List Nat} {Q : Exit → Act → World → Prop} {ops : Array Oper} (ho : ops = ops2) (hn : n ≤ 1000000) (hQ : Reg2 w g n out Q) (v9 v12 v14 v17 : Value) (hv : v9 = undef ∧ v12 = undef ∧ v14 = undef ∧ v17 = undef) : (Code.region 2 ops true).wp Tryd.prog Q { tmps := #[.pointer (some ⟨g, 0, none⟩), undef, .slice none 0 0, .int .i64 n, undef, undef, undef, .pointer (some ⟨g, 0, none⟩), .int .i64 n, v9, undef, undef, v12, undef, v14, undef, undef, v17, undef, undef, undef, undef, undef, undef, undef, undef, undef, undef, undef, undef, undef, undef, undef, undef, undef, undef, undef, undef, undef, undef, undef, undef, undef, undef, undef, undef, undef, undef, undef, undef, undef, undef, undef, undef, undef, undef], defers := [] } w := by
  obtain ⟨rfl, rfl, rfl, rfl⟩ := hv
  subst ho
  obtain ⟨p0, f0, o0⟩ := op2_0
  obtain ⟨p3, f3, o3⟩ := op2_3
  obtain ⟨p5, f5, o5⟩ := op2_5
  obtain ⟨p8, f8, o8⟩ := op2_8
  refine wp_region_held_drew (S := (fun _ => True)) (by kernel_rfl) trivial (fun hHeld => ?_)
  refine wpAnyH_take (i := 0) (oi := _) (v := ?_) o0 (by kernel_rfl) (by kernel_rfl) (by kernel_rfl) (hQ.2 _ _) (Or.inl ⟨by rfl, ?_⟩) trivial ?_
  rotate_left
  · (intro w hSw; go_simp; (try with_reducible rfl))
  (try simp only [List.getElem_toArray, List.getElem_cons_succ, List.getElem_cons_zero, Act.put, List.setIfInBounds_toArray, List.set_cons_zero, List.set_cons_succ])
  refine wpAnyH_take (i := 3) (oi := _) (v := ?_) o3 (by kernel_rfl) (by kernel_rfl) (by kernel_rfl) (hQ.2 _ _) (Or.inl ⟨by rfl, ?_⟩) trivial ?_
  rotate_left
  · (intro w hSw; go_simp; (try with_reducible rfl))
  (try simp only [List.getElem_toArray, List.getElem_cons_succ, List.getElem_cons_zero, Act.put, List.setIfInBounds_toArray, List.set_cons_zero, List.set_cons_succ])
  refine wpAnyH_take (i := 5) (oi := _) (v := ?_) o5 (by kernel_rfl) (by kernel_rfl) (by kernel_rfl) (hQ.2 _ _) (Or.inl ⟨by rfl, ?_⟩) trivial ?_
  rotate_left
  · (intro w hSw; go_simp; (try with_reducible rfl))
  (try simp only [List.getElem_toArray, List.getElem_cons_succ, List.getElem_cons_zero, Act.put, List.setIfInBounds_toArray, List.set_cons_zero, List.set_cons_succ])
  refine wpAnyH_take (i := 8) (oi := _) (v := ?_) o8 (by kernel_rfl) (by kernel_rfl) (by kernel_rfl) (hQ.2 _ _) (Or.inl ⟨by rfl, ?_⟩) trivial ?_
  rotate_left
  · (intro w hSw; go_simp; (try with_reducible rfl))
  (try simp only [List.getElem_toArray, List.getElem_cons_succ, List.getElem_cons_zero, Act.put, List.setIfInBounds_toArray, List.set_cons_zero, List.set_cons_succ])
  exact cy_o hn hQ (Cy.start w n)
end Go.Proofs.YtplofbabfkkimaaDoor.Ts
