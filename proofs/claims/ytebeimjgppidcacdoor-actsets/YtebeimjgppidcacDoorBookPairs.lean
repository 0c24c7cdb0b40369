/- Contracts of the book's StaysInts and SamePairs. -/
import Derived.Test.YtebeimjgppidcacDoorBookInts
namespace Go.Proofs.YtebeimjgppidcacDoor
open Go.RowKit
set_option maxRecDepth 100000 in
set_option maxHeartbeats 1000000 in
theorem staysInts_any (va vb : Value) (zs : List Int) (w : World) (hn : zs.length ≤ 1000000) (hA : LentI w va zs) (hB : HasI w vb zs) :
    Calls Tryd.prog 19 #[va, vb] w fun e w' => e = .returned (.bool true) ∧ Below w.heap.size w w' := by
  have hS := sameInts_any va vb zs w hn hA.has hB
  obtain ⟨g, cap, rfl, hcap, hc⟩ := hA
  obtain ⟨ao, cap', rfl, _⟩ := hB
  obtain ⟨n, hN⟩ : ∃ n, n = zs.length := ⟨_, rfl⟩
  have c0 : w.cell? ⟨g, n, none⟩ = some (.int .i64 (-77)) := by rw [hN]; exact hc zs.length (-77) (by simp)
  have c1 : w.cell? ⟨g, n + 1, none⟩ = some (.int .i64 (-78)) := by rw [hN]; exact hc (zs.length + 1) (-78) (by simp)
  rw [← hN] at hn hcap hS ⊢
  clear hc hN
  have p1 : (n : Int) + 2 ≤ (cap : Int) := by omega
  have p2 : (0 : Int) ≤ (n : Int) + 2 := by omega
  have p3 : (n : Int) < (n : Int) + 2 := by omega
  have p4 : (n : Int) + 1 < (n : Int) + 2 := by omega
  have p5 : (0 : Int) ≤ (n : Int) := by omega
  have p6 : (0 : Int) ≤ (n : Int) + 1 := by omega
  go_enter Tryd.func19, Tryd.ntmps19
  go_wp2_with fail
  refine hS.mono ?_
  rintro r w1 ⟨rfl, hb⟩
  have d0 := (hb.cell (World.block_lt_of_cell? w _ c0)).trans c0
  have d1 := (hb.cell (World.block_lt_of_cell? w _ c1)).trans c1
  have HB : Hid (Below w.heap.size w w1) := hb
  clear hb c0 c1 hS
  go_wp2_with fail
  go_ret
  exact ⟨rfl, HB.out⟩
set_option maxRecDepth 100000 in
set_option maxHeartbeats 1000000 in
theorem samePairs_any (va vb : Value) (ps : List (Int × Int)) (w : World) (hn : ps.length ≤ 1000000) (hA : HasP w va ps) (hB : HasP w vb ps) :
    Calls Tryd.prog 20 #[va, vb] w fun e w' => e = .returned (.bool true) ∧ Below w.heap.size w w' := by
  obtain ⟨ao, cap, rfl, hcA⟩ := hA
  obtain ⟨ao', cap', rfl, hcB⟩ := hB
  obtain ⟨n, hN⟩ : ∃ n, n = ps.length := ⟨_, rfl⟩
  have HH : Hid ((∀ (i : Nat) (p : Int × Int), ps[i]? = some p → ∃ a, ao = some a ∧ w.cell? (a.add (i * 2)) = some (.int .i64 p.1) ∧ w.cell? (a.add (i * 2 + 1)) = some (.int .i64 p.2)) ∧ (∀ (i : Nat) (p : Int × Int), ps[i]? = some p → ∃ a, ao' = some a ∧ w.cell? (a.add (i * 2)) = some (.int .i64 p.1) ∧ w.cell? (a.add (i * 2 + 1)) = some (.int .i64 p.2)) ∧ n = ps.length) := ⟨hcA, hcB, hN⟩
  rw [← hN] at hn ⊢
  clear hcA hcB hN
  have q : ((n : Int) != (n : Int)) = false := by simp
  go_enter Tryd.func20, Tryd.ntmps20
  go_wp2
  go_loopg [5] n (fun g i wr => ∃ j m : Nat, g = n - j ∧ j ≤ n ∧ i = .int .i64 j ∧ wr = w.drewN m)
  case atStart => exact ⟨0, 0, rfl, Nat.zero_le _, rfl, rfl⟩
  case round =>
    obtain ⟨j, m, rfl, hj, rfl, rfl⟩ := hrel
    by_cases hlt : j < n
    · obtain ⟨p, hp⟩ : ∃ p, ps[j]? = some p := ⟨ps[j]'(by have := HH.out.2.2; omega), List.getElem?_eq_getElem _⟩
      obtain ⟨a, rfl, c0, c1⟩ := HH.out.1 j p hp
      obtain ⟨b, rfl, d0, d1⟩ := HH.out.2.1 j p hp
      obtain ⟨x, y⟩ := p
      clear hp
      have c2 : w.cell? ((a.add (j * 2)).add 1) = some (.int .i64 y) := by rw [add_two]; exact c1
      have c3 : w.cell? ⟨(a.add (j * 2)).block, (a.add (j * 2)).off + 1, none⟩ = some (.int .i64 y) := by rw [← c2]; rfl
      have d2 : w.cell? ((b.add (j * 2)).add 1) = some (.int .i64 y) := by rw [add_two]; exact d1
      have d3 : w.cell? ⟨(b.add (j * 2)).block, (b.add (j * 2)).off + 1, none⟩ = some (.int .i64 y) := by rw [← d2]; rfl
      have q0 : (0 : Int) ≤ (j : Int) := by omega
      have q1 : (j : Int) < (n : Int) := by omega
      go_wp2_with fail
      go_quiet (fail)
      go_wp2
      go_roundg (n - (j + 1))
      case measure => omega
      case rel => exact ⟨j + 1, _, rfl, by omega, by go_num, by first | rfl | exact World.drewN_drewN _ _ _⟩
    · have q1 : ¬ (j : Int) < (n : Int) := by omega
      go_wp2
      go_ret
      exact ⟨rfl, below_drewN (Below.refl _ _) _⟩
end Go.Proofs.YtebeimjgppidcacDoor
