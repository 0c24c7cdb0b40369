/- Contract of the book's SameLines: two lists of the same lists of words are alike. -/
import Derived.Test.YtpefldpmdhajfaaDoorLines
namespace Go.Proofs.YtpefldpmdhajfaaDoor
open Go.RowKit
/-- The value is a list of these lists of words. -/
def HasR (w : World) (v : Value) (D : List (List ZTok)) : Prop :=
  ∃ (ao : Option Addr) (cap : Nat), v = .slice ao D.length cap ∧ ∀ k r, D[k]? = some r → ∃ b o u, ao = some ⟨b, o, none⟩ ∧ w.cell? ⟨b, o + k, none⟩ = some u ∧ Has w u r
theorem RowsIn.hasR {w : World} {base : Nat} {v : Value} {D : List (List ZTok)} (h : RowsIn w base v D) : HasR w v D := by
  obtain ⟨us, h1, h2⟩ := h
  rcases h1.2 with ⟨rfl, h0⟩ | ⟨g, cap, cur, rfl, _, hg, hn, _, hs, ht⟩
  · refine ⟨none, 0, by rw [h0], fun k r hr => ?_⟩
    have := (List.getElem?_eq_some_iff.1 hr).1
    omega
  · refine ⟨some ⟨g, 0, none⟩, cap, rfl, fun k r hr => ?_⟩
    have hk := (List.getElem?_eq_some_iff.1 hr).1
    obtain ⟨u, hu, ho⟩ := h2 k r hr
    refine ⟨g, 0, u, rfl, ?_, has_of_own ho⟩
    rw [← hu, ← ht]
    simp only [World.cell?, hg]
    rw [List.getElem?_take_of_lt (by omega)]
    simp
theorem Has.drewN {w : World} {v : Value} {zs : List ZTok} (h : Has w v zs) (m : Nat) : Has (w.drewN m) v zs := h.heap fun p _ => by simp
set_option maxRecDepth 100000 in
set_option maxHeartbeats 1000000 in
theorem sameLines_q (va vb : Value) (D : List (List ZTok)) (w : World) (hn : D.length ≤ 10000) (hr : ∀ r ∈ D, r.length ≤ 10000) (hA : HasR w va D) (hB : HasR w vb D) :
    Calls Tryd.prog 6 #[va, vb] w fun e w' => e = .returned (.bool true) ∧ ∃ m, w' = w.drewN m := by
  obtain ⟨ao, cap, rfl, hcA⟩ := hA
  obtain ⟨ao', cap', rfl, hcB⟩ := hB
  obtain ⟨n, hN⟩ : ∃ n, n = D.length := ⟨_, rfl⟩
  rw [← hN] at hn ⊢
  have HC : Hid (n = D.length ∧ (∀ r ∈ D, r.length ≤ 10000) ∧ (∀ k r, D[k]? = some r → ∃ b o u, ao = some ⟨b, o, none⟩ ∧ w.cell? ⟨b, o + k, none⟩ = some u ∧ Has w u r) ∧ (∀ k r, D[k]? = some r → ∃ b o u, ao' = some ⟨b, o, none⟩ ∧ w.cell? ⟨b, o + k, none⟩ = some u ∧ Has w u r)) := ⟨hN, hr, hcA, hcB⟩
  clear hN hr hcA hcB
  have q : ((n : Int) != (n : Int)) = false := by simp
  go_enter Tryd.func6, Tryd.ntmps6
  go_wp2
  go_loopg [5] n (fun g i wr => ∃ j m : Nat, g = n - j ∧ j ≤ n ∧ i = .int .i64 j ∧ wr = w.drewN m)
  case atStart => exact ⟨0, 0, rfl, Nat.zero_le _, rfl, rfl⟩
  case round =>
    obtain ⟨j, m, rfl, hj, rfl, rfl⟩ := hrel
    by_cases hlt : j < n
    · obtain ⟨r, hr⟩ : ∃ r, D[j]? = some r := ⟨D[j]'(by have := HC.out.1; omega), List.getElem?_eq_getElem _⟩
      obtain ⟨b, o, u, rfl, cA, hA⟩ := HC.out.2.2.1 j r hr
      obtain ⟨b', o', u', rfl, cB, hB⟩ := HC.out.2.2.2 j r hr
      have HS : Hid (∀ k, Calls Tryd.prog 11 #[u, u'] (w.drewN (m + k)) fun e w' => e = .returned (.bool true) ∧ ∃ p, w' = w.drewN (m + p)) := fun k => (same_q u u' r _ (by have := HC.out.2.1 r (List.mem_of_getElem? hr); omega) (hA.drewN _) (hB.drewN _)).mono fun _ _ ⟨he, p, hp⟩ => ⟨he, k + p, by rw [hp, World.drewN_drewN, Nat.add_assoc]⟩
      clear hr hA hB
      have q0 : (0 : Int) ≤ (j : Int) := by omega
      have q1 : (j : Int) < (n : Int) := by omega
      go_wp2_with fail
      go_quiet ((go_at_call 11; exact HS.out _))
      go_wp2
      go_roundg (n - (j + 1))
      case measure => omega
      case rel => exact ⟨j + 1, m + nq, rfl, by omega, by go_num, by first | rfl | exact World.drewN_drewN _ _ _⟩
    · have q1 : ¬ (j : Int) < (n : Int) := by omega
      go_wp2
      go_ret
      exact ⟨rfl, _, rfl⟩
end Go.Proofs.YtpefldpmdhajfaaDoor
