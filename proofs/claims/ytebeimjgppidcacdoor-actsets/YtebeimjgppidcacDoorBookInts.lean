/- Contracts of the book's SameInts, LentInts and StaysInts, and of SamePairs. -/
import Derived.Test.YtebeimjgppidcacDoorInts
import Derived.Maps.AppendAt
import Derived.OneCell
import Derived.Deep.AppendLies
namespace Go.Proofs.YtebeimjgppidcacDoor
open Go.RowKit
set_option maxRecDepth 100000 in
set_option maxHeartbeats 1000000 in
theorem sameInts_any (va vb : Value) (zs : List Int) (w : World) (hn : zs.length ≤ 1000000) (hA : HasI w va zs) (hB : HasI w vb zs) :
    Calls Tryd.prog 42 #[va, vb] w fun e w' => e = .returned (.bool true) ∧ Below w.heap.size w w' := by
  obtain ⟨ao, cap, rfl, hcA⟩ := hA
  obtain ⟨ao', cap', rfl, hcB⟩ := hB
  obtain ⟨n, hN⟩ : ∃ n, n = zs.length := ⟨_, rfl⟩
  have HH : Hid ((∀ (i : Nat) (z : Int), zs[i]? = some z → ∃ a, ao = some a ∧ w.cell? (a.add i) = some (.int .i64 z)) ∧ (∀ (i : Nat) (z : Int), zs[i]? = some z → ∃ a, ao' = some a ∧ w.cell? (a.add i) = some (.int .i64 z)) ∧ n = zs.length) := ⟨hcA, hcB, hN⟩
  rw [← hN] at hn ⊢
  clear hcA hcB hN
  have q : ((n : Int) != (n : Int)) = false := by simp
  go_enter Tryd.func42, Tryd.ntmps42
  go_wp2
  go_loopg [5] n (fun g i wr => ∃ j m : Nat, g = n - j ∧ j ≤ n ∧ i = .int .i64 j ∧ wr = w.drewN m)
  case atStart => exact ⟨0, 0, rfl, Nat.zero_le _, rfl, rfl⟩
  case round =>
    obtain ⟨j, m, rfl, hj, rfl, rfl⟩ := hrel
    by_cases hlt : j < n
    · obtain ⟨z, hz⟩ : ∃ z, zs[j]? = some z := ⟨zs[j]'(by have := HH.out.2.2; omega), List.getElem?_eq_getElem _⟩
      obtain ⟨a, rfl, c0⟩ := HH.out.1 j z hz
      obtain ⟨b, rfl, d0⟩ := HH.out.2.1 j z hz
      clear hz
      have q0 : (0 : Int) ≤ (j : Int) := by omega
      have q1 : (j : Int) < (n : Int) := by omega
      go_wp2_with fail
      go_quiet (fail)
      go_wp2
      go_roundg (n - (j + 1))
      case measure => omega
      case rel => exact ⟨j + 1, _, rfl, by omega, by go_num, by first | rfl | exact World.drewN_drewN _ _ _⟩
    · have q1 : ¬ (j : Int) < (n : Int) := by omega
      go_wp2
      go_ret
      exact ⟨rfl, below_drewN (Below.refl _ _) _⟩
/-- A list that is lent: two marks lie behind it. -/
def LentI (w : World) (v : Value) (zs : List Int) : Prop := ∃ g cap, v = .slice (some ⟨g, 0, none⟩) zs.length cap ∧ zs.length + 2 ≤ cap ∧ ∀ (i : Nat) (z : Int), (zs ++ [-77, -78])[i]? = some z → w.cell? ⟨g, i, none⟩ = some (.int .i64 z)
theorem LentI.below {w w' : World} {v : Value} {zs : List Int} (h : LentI w v zs) (hb : Below w.heap.size w w') : LentI w' v zs := by
  obtain ⟨g, cap, h1, h2, h3⟩ := h
  exact ⟨g, cap, h1, h2, fun i z hi => (hb.cell (World.block_lt_of_cell? w _ (h3 i z hi))).trans (h3 i z hi)⟩
theorem LentI.has {w : World} {v : Value} {zs : List Int} (h : LentI w v zs) : HasI w v zs := by
  obtain ⟨g, cap, h1, h2, h3⟩ := h
  refine ⟨_, cap, h1, fun i z hi => ⟨_, rfl, ?_⟩⟩
  have hlt := (List.getElem?_eq_some_iff.1 hi).1
  have := h3 i z (by rw [List.getElem?_append_left hlt]; exact hi)
  have e : (⟨g, 0, none⟩ : Addr).add i = ⟨g, i, none⟩ := by unfold Addr.add; split <;> simp_all
  rw [e]; exact this
theorem Tryd.infoI : (Tryd.prog.info? 3).map (fun i => (i.zero, i.size, i.bytes)) = some (some (.int .i64 0), 1, 8) := by kernel_rfl
theorem blkCell {w : World} {B : Nat} {cs : Array Value} {t : TypeId} {f : Nat × Nat} (h : w.heap[B]? = some (.cells cs t f)) (k : Nat) : w.cell? ⟨B, k, none⟩ = cs[k]? := by
  simp [World.cell?, h]
theorem cells_two_new (w : World) (x y : Value) (t : TypeId) : ∀ j u, [x, y][j]? = some u → (w.alloc (.cells #[x, y] t)).cell? ((⟨w.heap.size, 0, none⟩ : Addr).add j) = some u := by
  intro j u h
  have hb := (MapKept.heap_alloc w (.cells #[x, y] t)).1
  have e : (⟨w.heap.size, 0, none⟩ : Addr).add j = ⟨w.heap.size, j, none⟩ := by unfold Addr.add; split <;> simp_all
  rw [e, blkCell hb j, ← h]
  rcases j with _ | _ | j <;> rfl
theorem ints_one (zs : List Int) : ∀ u ∈ zs.map (Value.int .i64), u.oneCell' = true := fun u hu => by
  obtain ⟨z, _, rfl⟩ := List.mem_map.1 hu; rfl
theorem marks_one (x y : Int) : ∀ u ∈ [Value.int .i64 x, Value.int .i64 y], u.oneCell' = true := fun u hu => by
  rcases List.mem_cons.1 hu with rfl | hu
  · rfl
  · rw [List.mem_singleton.1 hu]; rfl
theorem slice_cap {w : World} {base : Nat} {e : TypeId} {size : Nat} {g n m cap : Nat} {xs : List Value} (h : w.ownsRow base e size (.slice (some ⟨g, 0, none⟩) n cap) m xs) : n = m ∧ n ≤ cap := by
  rcases h.2 with ⟨h1, _⟩ | ⟨g', cap', cur, h1, _, _, h2, _⟩
  · cases h1
  · injection h1 with _ h3 h4
    omega
/-- The end of a lending: two marks behind the copy. -/
theorem lent_fin {w w1 w2 : World} {v1 : Value} {zs : List Int} {g cap : Nat} {o : Obj} (hb : Below w.heap.size w w1) (h1 : w1.ownsRow w.heap.size 3 1 v1 zs.length (zs.map (Value.int .i64))) (hg : (w1.alloc o).grownBy w2 v1.ownBlock)
    (h2 : w2.ownsRow w.heap.size 3 1 (.slice (some ⟨g, 0, none⟩) (zs.length + 2) cap) (zs.length + 2) (zs.map (Value.int .i64) ++ [.int .i64 (-77), .int .i64 (-78)])) :
    LentI w2 (.slice (some ⟨g, 0, none⟩) zs.length cap) zs ∧ Below w.heap.size w w2 := by
  refine ⟨⟨g, cap, rfl, (slice_cap h2).2, fun i z hi => ?_⟩, ?_⟩
  · have hlt := (List.getElem?_eq_some_iff.1 hi).1
    simp at hlt
    rw [h2.cellAt i (by omega)]
    have : zs.map (Value.int .i64) ++ [.int .i64 (-77), .int .i64 (-78)] = (zs ++ [-77, -78]).map (Value.int .i64) := by simp
    rw [this, List.getElem?_map, hi]; rfl
  · exact (hb.alloc hb.size o).grown hg (by have := hb.size; simp; omega) (fun k hk => (h1.lt k hk).1)
theorem lent_row {w : World} {base : Nat} {e : TypeId} {size : Nat} {v : Value} {n : Nat} {xs : List Value} (h : w.ownsRow base e size v (0 + n) ([] ++ xs)) : w.ownsRow base e size v n xs := by simpa using h
theorem below_grown0 {w w1 : World} (hg : w.grownBy w1 (Value.slice none 0 0).ownBlock) : Below w.heap.size w w1 := ⟨hg.os, hg.tape, hg.output, hg.size, fun k hk => hg.block k hk (by simp [Value.ownBlock])⟩
theorem lent_size {w w1 : World} {o : Obj} (hb : Below w.heap.size w w1) : w.heap.size ≤ (w1.alloc o).heap.size := by
  have := hb.size
  simp; omega
set_option maxRecDepth 100000 in
set_option maxHeartbeats 1000000 in
theorem lentInts_any (v : Value) (zs : List Int) (w : World) (hn : zs.length ≤ 1000000) (hA : HasI w v zs) :
    Calls Tryd.prog 10 #[v] w fun e w' => ∃ u, e = .returned u ∧ LentI w' u zs ∧ Below w.heap.size w w' := by
  obtain ⟨ao, cap, rfl, hc⟩ := hA
  obtain ⟨i0, hi0, hz0, hz1, hz2⟩ := info_parts Tryd.infoI
  have hml : 0 + zs.length ≤ maxLen := by unfold maxLen; omega
  have hby : (0 + zs.length) * 8 ≤ 140737488355328 := by omega
  have hml2 : zs.length + 2 ≤ maxLen := by unfold maxLen; omega
  have hby2 : (zs.length + 2) * 8 ≤ 140737488355328 := by omega
  have hlen : (zs.map (Value.int .i64)).length = zs.length * 1 := by simp
  cases ao with
  | none =>
    obtain rfl : zs = [] := by
      cases zs with
      | nil => rfl
      | cons z r => obtain ⟨a, h, _⟩ := hc 0 z rfl; cases h
    clear hc
    go_enter Tryd.func10, Tryd.ntmps10
    go_wp2_with (at_builtin; refine wpList_append_own_at _ rfl _ _ 22 rfl w.heap.size 3 i0 (.int .i64 0) 1 8 Tryd.underlying22 hi0 hz0 hz1 hz2 rfl (by decide) (.slice none 0 0) 0 [] rfl (World.ownsRow_nil _ _ _ _) ⟨w.heap.size, 0, none⟩ 2 2 [.int .i64 (-77), .int .i64 (-78)] rfl rfl (cells_two_new _ _ _ _) (marks_one _ _) (by decide) (by decide) (by simp) ?_; intro v' w2 hown' hgrow hnil hat; obtain ⟨gg, cap', rfl, _, _⟩ := hown'.form (by decide); have hcp := (slice_cap hown').2; have hcp2 : (0 : Int) ≤ (cap' : Int) := (by omega); have H2 : Hid _ := And.intro hown' hgrow; clear hown' hgrow hat hnil)
    go_ret
    obtain ⟨r1, r2⟩ := lent_fin (zs := []) (Below.refl _ _) (World.ownsRow_nil _ _ _ _) H2.out.2 H2.out.1
    exact ⟨_, rfl, r1, r2⟩
  | some a =>
    have hnews : ∀ j u, (zs.map (Value.int .i64))[j]? = some u → w.cell? (a.add j) = some u := fun j u h => by
      rw [List.getElem?_map] at h
      cases e : zs[j]? with
      | none => rw [e] at h; simp at h
      | some z =>
        rw [e] at h
        simp at h
        subst h
        obtain ⟨a', ha, h⟩ := hc j z e
        cases ha
        exact h
    clear hc
    go_enter Tryd.func10, Tryd.ntmps10
    go_wp2_with (first
      | (at_builtin; refine wpList_append_own_at _ rfl _ _ 22 rfl w.heap.size 3 i0 (.int .i64 0) 1 8 Tryd.underlying22 hi0 hz0 hz1 hz2 rfl (by decide) (.slice none 0 0) 0 [] rfl (World.ownsRow_nil _ _ _ _) a zs.length cap (zs.map (Value.int .i64)) rfl hlen hnews (ints_one zs) hml hby (Nat.le_refl _) ?_; intro v1 w1 hown1 hgrow1 hnil1 hat1; have hown1' := lent_row hown1; have hb1 := below_grown0 hgrow1; have H1 : Hid (w1.ownsRow w.heap.size 3 1 v1 zs.length (zs.map (Value.int .i64)) ∧ Below w.heap.size w w1) := ⟨hown1', hb1⟩; have hws : w.heap.size ≤ (w1.alloc (.cells #[.int .i64 (-77), .int .i64 (-78)] 3)).heap.size := lent_size hb1; clear hown1 hgrow1 hnil1 hat1 hown1' hb1)
      | (at_builtin; refine wpList_append_own_at _ rfl _ _ 22 rfl w.heap.size 3 i0 (.int .i64 0) 1 8 Tryd.underlying22 hi0 hz0 hz1 hz2 rfl (by decide) v1 zs.length (zs.map (Value.int .i64)) rfl (H1.out.1.alloc _) ⟨w1.heap.size, 0, none⟩ 2 2 [.int .i64 (-77), .int .i64 (-78)] rfl rfl (cells_two_new _ _ _ _) (marks_one _ _) hml2 hby2 hws ?_; intro v' w2 hown' hgrow hnil hat; obtain ⟨gg, cap', rfl, _, _⟩ := hown'.form (Nat.succ_pos _); have hcp := (slice_cap hown').2; have hcp1 : (0 : Int) ≤ (zs.length : Int) := (by omega); have hcp2 : (zs.length : Int) ≤ (cap' : Int) := (by omega); have H2 : Hid _ := And.intro hown' hgrow; clear hown' hgrow hat hnil))
    go_ret
    obtain ⟨r1, r2⟩ := lent_fin H1.out.2 H1.out.1 H2.out.2 H2.out.1
    exact ⟨_, rfl, r1, r2⟩
end Go.Proofs.YtebeimjgppidcacDoor
