/- Contract of term.parts. -/
import Derived.Test.YthnenpncajpibaaGreatDoorTmGet
namespace Go.Proofs.YthnenpncajpibaaGreatDoor
open Go.RowKit Go.Maps
namespace Tm
/-- The numbers of a term's parts. -/
def parts (t : Tm) : List Int :=
  if t.kind = 2 ∨ t.kind = 5 ∨ t.kind = 6 then [t.a] else if t.kind = 3 ∨ t.kind = 4 then [t.a, t.b] else []
end Tm
theorem own_built {w : World} {B g : Nat} {zs : List Int} {cs : Array Value} (h : w.heap[g]? = some (.cells cs 3 (0, 0))) (hc : cs.toList = iC zs) (hB : B ≤ g) (hn : zs.length ≤ 1000) : OwnI w B (.slice (some ⟨g, 0, none⟩) zs.length zs.length) zs := by
  have hl : cs.size = zs.length * 1 := by rw [← Array.length_toList, hc, iC_length]
  refine ⟨iC_length zs, .inr ⟨g, zs.length, cs, rfl, hB, h, Nat.le_refl _, by unfold maxLen; omega, hl, ?_⟩⟩
  rw [hc]
  exact List.take_of_length_le (by rw [iC_length]; exact Nat.le_refl _)
theorem two_alloc (w : World) (o p : Obj) : ((w.alloc o).alloc p).heap[w.heap.size + 1]? = some p := by
  have h := (MapKept.heap_alloc (w.alloc o) p).1
  simpa using h
set_option maxHeartbeats 400000 in
theorem parts2 (l a b' : Int) (vn vp : Value) (w : World) : Calls Tryz.prog 28 #[.agg #[.int .i64 2, .int .i64 l, .int .i64 a, .int .i64 b', vn, vp]] w fun r w' => ∃ v, r = .returned v ∧ OwnI w' w.heap.size v [a] ∧ Below w.heap.size w w' := by
  go_enter Tryz.func28, Tryz.ntmps28
  go_wp2
  go_ret
  exact ⟨_, rfl, own_built (zs := [a]) (two_alloc w _ _) rfl (by omega) (by simp), (by repeat (first | exact Below.refl _ _ | assumption | refine Below.drew ?_ | refine Below.setCell ?_ (by simp) _ | refine Below.alloc ?_ (by simp) _))⟩
set_option maxHeartbeats 400000 in
theorem parts5 (l a b' : Int) (vn vp : Value) (w : World) : Calls Tryz.prog 28 #[.agg #[.int .i64 5, .int .i64 l, .int .i64 a, .int .i64 b', vn, vp]] w fun r w' => ∃ v, r = .returned v ∧ OwnI w' w.heap.size v [a] ∧ Below w.heap.size w w' := by
  go_enter Tryz.func28, Tryz.ntmps28
  go_wp2
  go_ret
  exact ⟨_, rfl, own_built (zs := [a]) (two_alloc w _ _) rfl (by omega) (by simp), (by repeat (first | exact Below.refl _ _ | assumption | refine Below.drew ?_ | refine Below.setCell ?_ (by simp) _ | refine Below.alloc ?_ (by simp) _))⟩
set_option maxHeartbeats 400000 in
theorem parts6 (l a b' : Int) (vn vp : Value) (w : World) : Calls Tryz.prog 28 #[.agg #[.int .i64 6, .int .i64 l, .int .i64 a, .int .i64 b', vn, vp]] w fun r w' => ∃ v, r = .returned v ∧ OwnI w' w.heap.size v [a] ∧ Below w.heap.size w w' := by
  go_enter Tryz.func28, Tryz.ntmps28
  go_wp2
  go_ret
  exact ⟨_, rfl, own_built (zs := [a]) (two_alloc w _ _) rfl (by omega) (by simp), (by repeat (first | exact Below.refl _ _ | assumption | refine Below.drew ?_ | refine Below.setCell ?_ (by simp) _ | refine Below.alloc ?_ (by simp) _))⟩
set_option maxHeartbeats 400000 in
theorem parts3 (l a b' : Int) (vn vp : Value) (w : World) : Calls Tryz.prog 28 #[.agg #[.int .i64 3, .int .i64 l, .int .i64 a, .int .i64 b', vn, vp]] w fun r w' => ∃ v, r = .returned v ∧ OwnI w' w.heap.size v [a, b'] ∧ Below w.heap.size w w' := by
  go_enter Tryz.func28, Tryz.ntmps28
  go_wp2
  go_ret
  exact ⟨_, rfl, own_built (zs := [a, b']) (two_alloc w _ _) rfl (by omega) (by simp), (by repeat (first | exact Below.refl _ _ | assumption | refine Below.drew ?_ | refine Below.setCell ?_ (by simp) _ | refine Below.alloc ?_ (by simp) _))⟩
set_option maxHeartbeats 400000 in
theorem parts4 (l a b' : Int) (vn vp : Value) (w : World) : Calls Tryz.prog 28 #[.agg #[.int .i64 4, .int .i64 l, .int .i64 a, .int .i64 b', vn, vp]] w fun r w' => ∃ v, r = .returned v ∧ OwnI w' w.heap.size v [a, b'] ∧ Below w.heap.size w w' := by
  go_enter Tryz.func28, Tryz.ntmps28
  go_wp2
  go_ret
  exact ⟨_, rfl, own_built (zs := [a, b']) (two_alloc w _ _) rfl (by omega) (by simp), (by repeat (first | exact Below.refl _ _ | assumption | refine Below.drew ?_ | refine Below.setCell ?_ (by simp) _ | refine Below.alloc ?_ (by simp) _))⟩
set_option maxHeartbeats 400000 in
theorem parts0 (k l a b' : Int) (vn vp : Value) (w : World) (h2 : (k == 2) = false) (h5 : (k == 5) = false) (h6 : (k == 6) = false) (h3 : (k == 3) = false) (h4 : (k == 4) = false) : Calls Tryz.prog 28 #[.agg #[.int .i64 k, .int .i64 l, .int .i64 a, .int .i64 b', vn, vp]] w fun r w' => ∃ v, r = .returned v ∧ OwnI w' w.heap.size v [] ∧ Below w.heap.size w w' := by
  go_enter Tryz.func28, Tryz.ntmps28
  go_wp2
  go_ret
  exact ⟨_, rfl, World.ownsRow_nil _ _ _ _, (by repeat (first | exact Below.refl _ _ | assumption | refine Below.drew ?_ | refine Below.setCell ?_ (by simp) _ | refine Below.alloc ?_ (by simp) _))⟩
theorem parts_any (t : Tm) (vn vp : Value) (w : World) : Calls Tryz.prog 28 #[tmV t vn vp] w fun r w' => ∃ v, r = .returned v ∧ OwnI w' w.heap.size v t.parts ∧ Below w.heap.size w w' := by
  obtain ⟨k, l, a, b', names, pairs⟩ := t
  unfold tmV Tm.parts
  simp only
  by_cases h2 : k = 2
  · subst h2; exact parts2 l a b' vn vp w
  by_cases h5 : k = 5
  · subst h5; exact parts5 l a b' vn vp w
  by_cases h6 : k = 6
  · subst h6; exact parts6 l a b' vn vp w
  by_cases h3 : k = 3
  · subst h3; exact parts3 l a b' vn vp w
  by_cases h4 : k = 4
  · subst h4; exact parts4 l a b' vn vp w
  rw [if_neg (by omega), if_neg (by omega)]
  exact parts0 k l a b' vn vp w (by simpa using h2) (by simpa using h5) (by simpa using h6) (by simpa using h3) (by simpa using h4)
end Go.Proofs.YthnenpncajpibaaGreatDoor
