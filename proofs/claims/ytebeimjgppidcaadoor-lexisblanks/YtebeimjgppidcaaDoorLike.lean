/- Contract of the statements' helper like: two lists of words with the same kinds and texts are alike. -/
import Derived.Test.YtebeimjgppidcaaDoorSame
namespace Go.Proofs.YtebeimjgppidcaaDoor
open Go.RowKit
set_option maxRecDepth 100000 in
set_option maxHeartbeats 1000000 in
theorem like_any (va vb : Value) (zs ys : List ZTok) (w : World) (hn : zs.length ≤ 1000000000) (hA : Has w va zs) (hB : Has w vb ys) (hl : ys.length = zs.length) (hk : ∀ (k : Nat) (z y : ZTok), zs[k]? = some z → ys[k]? = some y → y.kind = z.kind ∧ y.text = z.text) :
    Calls Tryd.prog 23 #[va, vb] w fun e w' => e = .returned (.bool true) ∧ Below w.heap.size w w' := by
  obtain ⟨ao, b, o, cap, rfl, ha, hcA⟩ := hA
  obtain ⟨ao', b', o', cap', rfl, ha', hcB⟩ := hB
  obtain ⟨n, hN⟩ : ∃ n, n = zs.length := ⟨_, rfl⟩
  rw [hl] at ha' ⊢
  rw [← hN] at hn ha ha' hl ⊢
  have HC : Hid ((0 < n → ao = some ⟨b, o, none⟩) ∧ (0 < n → ao' = some ⟨b', o', none⟩) ∧ n = zs.length ∧ (∀ k z, zs[k]? = some z → w.cell? ⟨b, o + k * 4, none⟩ = some (.int .i64 z.kind) ∧ w.cell? ⟨b, o + k * 4 + 1, none⟩ = some (.string z.text) ∧ w.cell? ⟨b, o + k * 4 + 2, none⟩ = some (.int .i64 z.line) ∧ w.cell? ⟨b, o + k * 4 + 3, none⟩ = some (.int .i64 z.col)) ∧
      (∀ k z, zs[k]? = some z → w.cell? ⟨b', o' + k * 4, none⟩ = some (.int .i64 z.kind) ∧ w.cell? ⟨b', o' + k * 4 + 1, none⟩ = some (.string z.text))) := ⟨ha, ha', hN, hcA, fun k z hz => by
        have hlt := (List.getElem?_eq_some_iff.1 hz).1
        have hy : ys[k]? = some (ys[k]'(by omega)) := List.getElem?_eq_getElem _
        obtain ⟨e1, e2⟩ := hk k z _ hz hy
        obtain ⟨d0, d1, _, _⟩ := hcB k _ hy
        rw [e1] at d0
        rw [e2] at d1
        exact ⟨d0, d1⟩⟩
  clear ha ha' hN hcA hcB hk hl
  have q : ((n : Int) != (n : Int)) = false := by simp
  go_enter Tryd.func23, Tryd.ntmps23
  go_wp2
  go_loopg [5] n (fun g i wr => ∃ j m : Nat, g = n - j ∧ j ≤ n ∧ i = .int .i64 j ∧ wr = w.drewN m)
  case atStart => exact ⟨0, 0, rfl, Nat.zero_le _, rfl, rfl⟩
  case round =>
    obtain ⟨j, m, rfl, hj, rfl, rfl⟩ := hrel
    by_cases hlt : j < n
    · obtain ⟨z, hz⟩ : ∃ z, zs[j]? = some z := ⟨zs[j]'(by have := HC.out.2.2.1; omega), List.getElem?_eq_getElem _⟩
      obtain ⟨c0, c1, c2, c3⟩ := HC.out.2.2.2.1 j z hz
      obtain ⟨d0, d1⟩ := HC.out.2.2.2.2 j z hz
      obtain rfl := HC.out.1 (by omega)
      obtain rfl := HC.out.2.1 (by omega)
      clear hz
      have q0 : (0 : Int) ≤ (j : Int) := by omega
      have q1 : (j : Int) < (n : Int) := by omega
      go_wp2_with fail
      go_quiet (fail)
      go_wp2
      go_roundg (n - (j + 1))
      case measure => omega
      case rel => exact ⟨j + 1, m + nq, rfl, by omega, by go_num, by first | rfl | exact World.drewN_drewN _ _ _⟩
    · have q1 : ¬ (j : Int) < (n : Int) := by omega
      go_wp2
      go_ret
      exact ⟨rfl, below_drewN (Below.refl _ _) _⟩
end Go.Proofs.YtebeimjgppidcaaDoor
