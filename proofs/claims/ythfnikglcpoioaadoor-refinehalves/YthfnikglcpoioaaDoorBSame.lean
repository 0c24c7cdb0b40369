/- Contract of the book's SameInts. -/
import Derived.Test.YthfnikglcpoioaaDoorBase
import Derived.Deep.QuietTactic
import Derived.BigQuiet
namespace Go.Proofs.YthfnikglcpoioaaDoor
open Go.RowKit Go.Maps
theorem take_both {α : Type} {a b : List α} {j : Nat} {x : α} (ha : a[j]? = some x) (hb : b[j]? = some x) (h : a.take j = b.take j) : a.take (j + 1) = b.take (j + 1) := by
  rw [take_succ_of ha, take_succ_of hb, h]
theorem eq_len {α : Type} {a b : List α} {n : Nat} (ha : a.length = n) (hb : b.length = n) (h : a.take n = b.take n) : a = b := by
  rw [List.take_of_length_le (by omega), List.take_of_length_le (by omega)] at h
  exact h
set_option maxRecDepth 100000 in
set_option maxHeartbeats 1000000 in
theorem sameInts_b (va vb : Value) (za zb : List Int) (w : World) (hn : za.length ≤ 1000000000000000) (hm : zb.length ≤ 1000000000000000) (hA : HasI w va za) (hB : HasI w vb zb) :
    Calls Tryd.prog 12 #[va, vb] w fun e w' => e = .returned (.bool (za == zb)) ∧ Below w.heap.size w w' := by
  obtain ⟨ao, cap, rfl, hcA⟩ := hA
  obtain ⟨ao', cap', rfl, hcB⟩ := hB
  by_cases hlen : za.length = zb.length
  · obtain ⟨n, hN⟩ : ∃ n, n = za.length := ⟨_, rfl⟩
    have HH : Hid _ := And.intro hcA (And.intro hcB (And.intro hN (hN.trans hlen)))
    rw [← hlen, ← hN]
    rw [← hN] at hn
    clear hcA hcB hN hlen hm
    have q : ((n : Int) != (n : Int)) = false := by simp
    go_enter Tryd.func12, Tryd.ntmps12
    go_wp2
    go_loopg [5] n (fun g i wr => ∃ j m : Nat, g = n - j ∧ j ≤ n ∧ i = .int .i64 j ∧ za.take j = zb.take j ∧ wr = w.drewN m)
    case atStart => exact ⟨0, 0, rfl, Nat.zero_le _, rfl, rfl, rfl⟩
    case round =>
      obtain ⟨j, m, rfl, hj, rfl, heq, rfl⟩ := hrel
      have HQ : Hid _ := heq
      clear heq
      by_cases hlt : j < n
      · obtain ⟨x, hx⟩ : ∃ z, za[j]? = some z := ⟨za[j]'(by have := HH.out.2.2.1; omega), List.getElem?_eq_getElem _⟩
        obtain ⟨y, hy⟩ : ∃ z, zb[j]? = some z := ⟨zb[j]'(by have := HH.out.2.2.2; omega), List.getElem?_eq_getElem _⟩
        obtain ⟨a, rfl, c0⟩ := HH.out.1 j x hx
        obtain ⟨b, rfl, d0⟩ := HH.out.2.1 j y hy
        have q0 : (0 : Int) ≤ (j : Int) := by omega
        have q1 : (j : Int) < (n : Int) := by omega
        by_cases hxy : x = y
        · subst hxy
          have HT : Hid _ := take_both hx hy HQ.out
          clear hx hy
          go_wp2_with fail
          go_quiet (fail)
          go_wp2
          go_roundg (n - (j + 1))
          case measure => omega
          case rel => exact ⟨j + 1, _, rfl, by omega, by go_num, HT.out, by first | rfl | exact World.drewN_drewN _ _ _⟩
        · have e1 : (x == y) = false := by simpa using hxy
          have HF : Hid ((za == zb) = false) := (by
            rw [beq_eq_false_iff_ne]
            rintro rfl
            rw [hx] at hy
            exact hxy (Option.some.inj hy) : (za == zb) = false)
          clear hx hy hxy
          go_wp2_with fail
          go_quiet (fail)
          go_wp2
          go_ret
          exact ⟨by rw [HF.out]; rfl, by first | exact below_drewN (below_drewN (Below.refl _ _) _) _ | exact below_drewN (Below.refl _ _) _⟩
      · obtain rfl : j = n := by omega
        have q1 : ¬ (j : Int) < (j : Int) := by omega
        have HF : Hid ((za == zb) = true) := (by
          rw [beq_iff_eq]
          exact eq_len HH.out.2.2.1.symm HH.out.2.2.2.symm HQ.out : (za == zb) = true)
        go_wp2
        go_ret
        exact ⟨by rw [HF.out]; rfl, below_drewN (Below.refl _ _) _⟩
  · have q : ((za.length : Int) != (zb.length : Int)) = true := by rw [bne_iff_ne]; omega
    have HF : Hid ((za == zb) = false) := (by rw [beq_eq_false_iff_ne]; rintro rfl; exact hlen rfl : (za == zb) = false)
    clear hcA hcB hlen
    go_enter Tryd.func12, Tryd.ntmps12
    go_wp2
    go_ret
    exact ⟨by rw [HF.out]; rfl, Below.refl _ _⟩
end Go.Proofs.YthfnikglcpoioaaDoor
