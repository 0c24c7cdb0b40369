/- Contract of the book's SameTokens: two lists of the same words are alike. -/
import Derived.Test.YthcboklkejlifaaGreatDoorProg
import Derived.WalkKit
import Derived.WalkSpells
import Derived.Deep.QuietTactic
import Derived.BigQuiet
import Derived.WalkSmall
import Derived.Deep.LoopGhost
namespace Go.Proofs.YthcboklkejlifaaGreatDoor
open Go.RowKit
/-- A word, whatever it holds. -/
structure ZTok where
  kind : Int
  text : ByteArray
  line : Int
  col : Int
/-- The value is a list of these words. -/
def Has (w : World) (v : Value) (zs : List ZTok) : Prop :=
  ∃ (ao : Option Addr) (b o cap : Nat), v = .slice ao zs.length cap ∧ (0 < zs.length → ao = some ⟨b, o, none⟩) ∧ ∀ k z, zs[k]? = some z →
    w.cell? ⟨b, o + k * 4, none⟩ = some (.int .i64 z.kind) ∧ w.cell? ⟨b, o + k * 4 + 1, none⟩ = some (.string z.text) ∧ w.cell? ⟨b, o + k * 4 + 2, none⟩ = some (.int .i64 z.line) ∧ w.cell? ⟨b, o + k * 4 + 3, none⟩ = some (.int .i64 z.col)
theorem Has.heap {w w' : World} {v : Value} {zs : List ZTok} (h : Has w v zs) (hc : ∀ p, (w.cell? p).isSome = true → w'.cell? p = w.cell? p) : Has w' v zs := by
  obtain ⟨ao, b, o, cap, h1, h2, h3⟩ := h
  refine ⟨ao, b, o, cap, h1, h2, fun k z hk => ?_⟩
  obtain ⟨c0, c1, c2, c3⟩ := h3 k z hk
  exact ⟨by rw [hc _ (by rw [c0]; rfl)]; exact c0, by rw [hc _ (by rw [c1]; rfl)]; exact c1, by rw [hc _ (by rw [c2]; rfl)]; exact c2, by rw [hc _ (by rw [c3]; rfl)]; exact c3⟩
theorem Has.below {w w' : World} {v : Value} {zs : List ZTok} (h : Has w v zs) (hb : Below w.heap.size w w') : Has w' v zs :=
  h.heap fun p hp => hb.cell (by
    cases e : w.cell? p with
    | none => rw [e] at hp; cases hp
    | some u => exact World.block_lt_of_cell? w _ e)
set_option maxRecDepth 100000 in
set_option maxHeartbeats 1000000 in
theorem same_q (va vb : Value) (zs : List ZTok) (w : World) (hn : zs.length ≤ 1000000000) (hA : Has w va zs) (hB : Has w vb zs) :
    Calls Tryz.prog 10 #[va, vb] w fun e w' => e = .returned (.bool true) ∧ ∃ m, w' = w.drewN m := by
  obtain ⟨ao, b, o, cap, rfl, ha, hcA⟩ := hA
  obtain ⟨ao', b', o', cap', rfl, ha', hcB⟩ := hB
  obtain ⟨n, hN⟩ : ∃ n, n = zs.length := ⟨_, rfl⟩
  rw [← hN] at hn ha ha' ⊢
  have HC : Hid ((0 < n → ao = some ⟨b, o, none⟩) ∧ (0 < n → ao' = some ⟨b', o', none⟩) ∧ n = zs.length ∧ (∀ k z, zs[k]? = some z → w.cell? ⟨b, o + k * 4, none⟩ = some (.int .i64 z.kind) ∧ w.cell? ⟨b, o + k * 4 + 1, none⟩ = some (.string z.text) ∧ w.cell? ⟨b, o + k * 4 + 2, none⟩ = some (.int .i64 z.line) ∧ w.cell? ⟨b, o + k * 4 + 3, none⟩ = some (.int .i64 z.col)) ∧
      (∀ k z, zs[k]? = some z → w.cell? ⟨b', o' + k * 4, none⟩ = some (.int .i64 z.kind) ∧ w.cell? ⟨b', o' + k * 4 + 1, none⟩ = some (.string z.text) ∧ w.cell? ⟨b', o' + k * 4 + 2, none⟩ = some (.int .i64 z.line) ∧ w.cell? ⟨b', o' + k * 4 + 3, none⟩ = some (.int .i64 z.col))) := ⟨ha, ha', hN, hcA, hcB⟩
  clear ha ha' hN hcA hcB
  have q : ((n : Int) != (n : Int)) = false := by simp
  go_enter Tryz.func10, Tryz.ntmps10
  go_wp2
  go_loopg [5] n (fun g i wr => ∃ j m : Nat, g = n - j ∧ j ≤ n ∧ i = .int .i64 j ∧ wr = w.drewN m)
  case atStart => exact ⟨0, 0, rfl, Nat.zero_le _, rfl, rfl⟩
  case round =>
    obtain ⟨j, m, rfl, hj, rfl, rfl⟩ := hrel
    by_cases hlt : j < n
    · obtain ⟨z, hz⟩ : ∃ z, zs[j]? = some z := ⟨zs[j]'(by have := HC.out.2.2.1; omega), List.getElem?_eq_getElem _⟩
      obtain ⟨c0, c1, c2, c3⟩ := HC.out.2.2.2.1 j z hz
      obtain ⟨d0, d1, d2, d3⟩ := HC.out.2.2.2.2 j z hz
      obtain rfl := HC.out.1 (by omega)
      obtain rfl := HC.out.2.1 (by omega)
      clear hz
      have q0 : (0 : Int) ≤ (j : Int) := by omega
      have q1 : (j : Int) < (n : Int) := by omega
      go_wp2_with fail
      go_quiet (fail)
      go_wp2
      go_roundg (n - (j + 1))
      case measure => omega
      case rel => exact ⟨j + 1, m + nq, rfl, by omega, by go_num, by first | rfl | exact World.drewN_drewN _ _ _⟩
    · have q1 : ¬ (j : Int) < (n : Int) := by omega
      go_wp2
      go_ret
      exact ⟨rfl, _, rfl⟩
theorem same_any (va vb : Value) (zs : List ZTok) (w : World) (hn : zs.length ≤ 1000000000) (hA : Has w va zs) (hB : Has w vb zs) :
    Calls Tryz.prog 10 #[va, vb] w fun e w' => e = .returned (.bool true) ∧ Below w.heap.size w w' :=
  (same_q va vb zs w hn hA hB).mono fun _ _ ⟨he, _, hm⟩ => ⟨he, by rw [hm]; exact below_drewN (Below.refl _ _) _⟩
end Go.Proofs.YthcboklkejlifaaGreatDoor
