/- Contracts of slices.Clone of edges and of steps. (Written by mkclone.py.) -/
import Derived.Test.YtcjeijmphgpecaaDoorBXEdges
import Derived.Test.YtcjeijmphgpecaaDoorBXSteps
import Derived.Lib.SliceRun
import Derived.Lib.Walk
namespace Go.Proofs.YtcjeijmphgpecaaDoor
open Go.RowKit Go.Maps
theorem Tryd.infoClEdges : (Tryd.prog.info? 47).map (fun i => (i.zero, i.size, i.bytes)) = some (some (.agg #[.int .i64 0, .int .i64 0, .int .i64 0]), 3, 24) := by kernel_rfl
theorem Tryd.eqClEdges (w : World) (a : Option Addr) (n c n' c' : Nat) : (binOp .eql 22 (.slice a n c) (.slice none n' c')).run Tryd.prog w = .ok (.bool a.isNone) w := Lib.run_eql_slice_nil w _ _ a n c n' c' Tryd.underlying22
set_option maxRecDepth 100000 in
set_option maxHeartbeats 1000000 in
theorem cloneEdges_any (v : Value) (es : List BEdges.El) (w : World) (hn : es.length ≤ 1000000) (hv : BEdges.Has w v es) :
    Calls Tryd.prog 48 #[v] w fun r w' => ∃ u, r = .returned u ∧ BEdges.Own w' w.heap.size u es ∧ Below w.heap.size w w' := by
  obtain ⟨i0, hi0, hz0, hz1, hz2⟩ := info_parts Tryd.infoClEdges
  obtain ⟨ao, cap, rfl, _⟩ := _root_.id hv
  have hq := Tryd.eqClEdges
  have hl := BEdges.C_len es
  cases ao with
  | none =>
    have h0 : es = [] := by
      have h1 := (BEdges.copy_of hv).1 rfl
      exact List.eq_nil_of_length_eq_zero h1
    subst h0
    clear hv
    go_enter Tryd.func48, Tryd.ntmps48
    go_wp2
    go_ret
    exact ⟨_, rfl, World.ownsRow_nil _ _ _ _, Below.refl _ _⟩
  | some a =>
    have hcs := (BEdges.copy_of hv).2 a rfl
    obtain ⟨n, hN⟩ : ∃ n, n = es.length := ⟨_, rfl⟩
    have A : Aside (∀ j u, (BEdges.C es)[j]? = some u → w.cell? (a.add j) = some u) := hcs
    have HN : Hid _ := hN
    rw [← hN] at hn hl ⊢
    clear hv hcs hN
    go_enter Tryd.func48, Tryd.ntmps48
    go_wp2_with (at_builtin; refine wpList_append_own _ rfl _ _ 22 rfl w.heap.size 47 i0 (.agg #[.int .i64 0, .int .i64 0, .int .i64 0]) 3 24 Tryd.underlying22 hi0 hz0 hz1 hz2 rfl (by decide) _ _ _ rfl (World.ownsRow_made w #[] 0 (Nat.le_refl _) (Nat.zero_le _) (by simp)) a n cap (BEdges.C es) rfl ?qc1 ?qc2 ?qc3 ?qc4 ?qc5 ?qc6 ?_)
    case qc1 => exact hl
    case qc2 =>
      intro j u hj
      have h1 := A.out j u hj
      exact (((Below.refl _ w).alloc (Nat.le_refl _) _).cell (World.block_lt_of_cell? w _ h1)).trans h1
    case qc3 => exact BEdges.C_one es
    case qc4 => unfold maxLen; omega
    case qc5 => omega
    case qc6 => simp
    intro v' w1 hown hgrow hnil
    go_wp2
    go_ret
    refine ⟨v', rfl, ?_, ?_⟩
    · have h1 := hown
      rw [HN.out] at h1
      exact h1
    · exact ((Below.refl _ w).alloc (Nat.le_refl _) _).grown hgrow (by simp) (by intro k hk; simp [Value.ownBlock] at hk; omega)
theorem Tryd.infoClSteps : (Tryd.prog.info? 75).map (fun i => (i.zero, i.size, i.bytes)) = some (some (.agg #[.int .i64 0, .int .i64 0]), 2, 16) := by kernel_rfl
theorem Tryd.eqClSteps (w : World) (a : Option Addr) (n c n' c' : Nat) : (binOp .eql 48 (.slice a n c) (.slice none n' c')).run Tryd.prog w = .ok (.bool a.isNone) w := Lib.run_eql_slice_nil w _ _ a n c n' c' Tryd.underlying48
set_option maxRecDepth 100000 in
set_option maxHeartbeats 1000000 in
theorem cloneSteps_any (v : Value) (es : List BSteps.El) (w : World) (hn : es.length ≤ 1000000) (hv : BSteps.Has w v es) :
    Calls Tryd.prog 44 #[v] w fun r w' => ∃ u, r = .returned u ∧ BSteps.Own w' w.heap.size u es ∧ Below w.heap.size w w' := by
  obtain ⟨i0, hi0, hz0, hz1, hz2⟩ := info_parts Tryd.infoClSteps
  obtain ⟨ao, cap, rfl, _⟩ := _root_.id hv
  have hq := Tryd.eqClSteps
  have hl := BSteps.C_len es
  cases ao with
  | none =>
    have h0 : es = [] := by
      have h1 := (BSteps.copy_of hv).1 rfl
      exact List.eq_nil_of_length_eq_zero h1
    subst h0
    clear hv
    go_enter Tryd.func44, Tryd.ntmps44
    go_wp2
    go_ret
    exact ⟨_, rfl, World.ownsRow_nil _ _ _ _, Below.refl _ _⟩
  | some a =>
    have hcs := (BSteps.copy_of hv).2 a rfl
    obtain ⟨n, hN⟩ : ∃ n, n = es.length := ⟨_, rfl⟩
    have A : Aside (∀ j u, (BSteps.C es)[j]? = some u → w.cell? (a.add j) = some u) := hcs
    have HN : Hid _ := hN
    rw [← hN] at hn hl ⊢
    clear hv hcs hN
    go_enter Tryd.func44, Tryd.ntmps44
    go_wp2_with (at_builtin; refine wpList_append_own _ rfl _ _ 48 rfl w.heap.size 75 i0 (.agg #[.int .i64 0, .int .i64 0]) 2 16 Tryd.underlying48 hi0 hz0 hz1 hz2 rfl (by decide) _ _ _ rfl (World.ownsRow_made w #[] 0 (Nat.le_refl _) (Nat.zero_le _) (by simp)) a n cap (BSteps.C es) rfl ?qc1 ?qc2 ?qc3 ?qc4 ?qc5 ?qc6 ?_)
    case qc1 => exact hl
    case qc2 =>
      intro j u hj
      have h1 := A.out j u hj
      exact (((Below.refl _ w).alloc (Nat.le_refl _) _).cell (World.block_lt_of_cell? w _ h1)).trans h1
    case qc3 => exact BSteps.C_one es
    case qc4 => unfold maxLen; omega
    case qc5 => omega
    case qc6 => simp
    intro v' w1 hown hgrow hnil
    go_wp2
    go_ret
    refine ⟨v', rfl, ?_, ?_⟩
    · have h1 := hown
      rw [HN.out] at h1
      exact h1
    · exact ((Below.refl _ w).alloc (Nat.le_refl _) _).grown hgrow (by simp) (by intro k hk; simp [Value.ownBlock] at hk; omega)
end Go.Proofs.YtcjeijmphgpecaaDoor
