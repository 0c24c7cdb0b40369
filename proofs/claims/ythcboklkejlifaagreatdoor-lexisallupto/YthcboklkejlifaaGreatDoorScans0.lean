/- What the document's Scan answers on a text that is too long; the codes of errors of a scan. -/
import Derived.Test.YthcboklkejlifaaGreatDoorRefScan
import Derived.Test.YthcboklkejlifaaGreatDoorHasOf
import Derived.Test.YthcboklkejlifaaGreatDoorWords0
namespace Go.Proofs.YthcboklkejlifaaGreatDoor
open Go.RowKit
theorem num_code (l : List UInt8) (h : ¬ (Lx.numR l).2 = 0) : (Lx.numR l).2 = 2 ∨ (Lx.numR l).2 = 4 := by
  rcases num_cases l with ⟨n, e⟩ | e | e
  · rw [e] at h; exact absurd rfl h
  · rw [e]; exact .inr rfl
  · rw [e]; exact .inl rfl
theorem scanF_code (s : ByteArray) : ∀ n p l f ts k a b, scanF s n p l f ts = .inr (k, a, b) → k = 2 ∨ k = 4 := by
  intro n
  induction n with
  | zero => intro p l f ts k a b h; simp [scanF] at h
  | succ n ih =>
    intro p l f ts k a b h
    by_cases hlt : p < s.size
    · rw [scanF_at s n p l f ts hlt] at h
      split at h
      · split at h
        · simp at h; exact .inl h.1.symm
        · exact ih _ _ _ _ _ _ _ h
      · split at h
        · split at h
          · exact ih _ _ _ _ _ _ _ h
          · rename_i hz
            have h1 := num_code _ hz
            injection h with h2
            have h3 : (Lx.numR (s.extract p (Lx.runE s.data.toList p)).data.toList).2 = k := congrArg Prod.fst h2
            rw [h3] at h1
            exact h1
        · split at h
          · exact ih _ _ _ _ _ _ _ h
          · split at h
            · exact ih _ _ _ _ _ _ _ h
            · split at h
              · exact ih _ _ _ _ _ _ _ h
              · split at h
                · exact ih _ _ _ _ _ _ _ h
                · simp at h; exact .inr h.1.symm
    · rw [scanF, dif_neg hlt] at h; simp at h
set_option maxHeartbeats 1000000 in
theorem refScan_long (s : ByteArray) (w : World) (hs : 65536 < s.size) (hm : s.size ≤ maxLen) :
    Calls Tryz.prog 8 #[.string s] w fun e w' => e = .returned (.tuple #[.slice none 0 0, .agg #[.int .i64 2, .int .i64 0, .int .i64 0, .string lexisB]]) ∧ Below w.heap.size w w' := by
  unfold maxLen at hm
  have h9 : (65536 : Int) < (s.size : Int) := by omega
  go_enter Tryz.func8, Tryz.ntmps8
  go_wp2_with (go_at_call 23; refine (bad_any _ _).mono ?_; rintro e1 w1 ⟨rfl, rfl⟩)
  exact bodyPost_ret (v := .tuple #[.slice none 0 0, .agg #[.int .i64 2, .int .i64 0, .int .i64 0, .string lexisB]]) (by simp [results, Tryz.results8, go_sem]) rfl ⟨rfl, ((Below.refl _ _).alloc (Nat.le_refl _) _).alloc (by simp) _⟩
/-- The end of the statement: both calls have answered; the document's error lies in a block of its own. -/
theorem new_one {w w' w8 : World} {x : Obj} {aA aL aI aW : Addr} (hE : Errs w' aA aL aI aW) (hb : Below w.heap.size w w') (h8 : w8 = w'.alloc x) :
    Errs w8 aA aL aI aW ∧ Below w.heap.size w w8 ∧ w8.heap[w'.heap.size]? = some x ∧ Below w'.heap.size w' w8 := by
  have h1 : Below w'.heap.size w' w8 := by rw [h8]; exact (Below.refl _ _).alloc (Nat.le_refl _) _
  refine ⟨hE.below h1, hb.trans (h1.mono hb.size), ?_, h1⟩
  rw [h8]
  exact heap_alloc_new w' x
end Go.Proofs.YthcboklkejlifaaGreatDoor
