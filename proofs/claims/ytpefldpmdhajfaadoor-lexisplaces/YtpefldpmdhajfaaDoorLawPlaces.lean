/- The statement LexisPlaces: all but the path of an error, which is taken as a premise. -/
import Derived.Test.YtpefldpmdhajfaaDoorPlacesOk
import Derived.Deep.RegionLaw
namespace Go.Proofs.YtpefldpmdhajfaaDoor
open Go.RowKit
theorem scanF_line (s : ByteArray) : ∀ n p l f ts k a b, p ≤ s.size → l ≤ p + 1 → scanF s n p l f ts = .inr (k, a, b) → a ≤ s.size + 1 := by
  intro n
  induction n with
  | zero => intro p l f ts k a b _ _ h; simp [scanF] at h
  | succ n ih =>
    intro p l f ts k a b hp hl h
    have hr2 : Lx.runE s.data.toList p ≤ s.size := Lx.runE_le s.data.toList p (by simpa using hp)
    have hr1 := Lx.runE_ge s.data.toList p
    have hl2 : Lx.lineE s.data.toList p ≤ s.size := Lx.lineE_le s.data.toList p (by simpa using hp)
    have hl1 : p ≤ Lx.lineE s.data.toList p := by unfold Lx.lineE; omega
    by_cases hlt : p < s.size
    · rw [scanF_at s n p l f ts hlt] at h
      split at h
      · split at h
        · simp at h; omega
        · exact ih _ _ _ _ _ _ _ hr2 (by omega) h
      split at h
      · split at h
        · exact ih _ _ _ _ _ _ _ hr2 (by omega) h
        · injection h with h2
          have h3 : l = a := congrArg (fun x => x.2.1) h2
          omega
      split at h
      · exact ih _ _ _ _ _ _ _ (by omega) (by omega) h
      split at h
      · exact ih _ _ _ _ _ _ _ (by omega) (by omega) h
      split at h
      · exact ih _ _ _ _ _ _ _ hl2 (by omega) h
      split at h
      · exact ih _ _ _ _ _ _ _ (by omega) (by omega) h
      · simp at h; omega
    · rw [scanF, dif_neg hlt] at h; simp at h
theorem cast_fault (v : Value) (w : World) : (Instr.typeAssert (.iface 32 v) 29 32 true).run Tryd.prog w = .ok (.tuple #[v, .bool true]) w := by kernel_rfl
def FaultIn (w : World) (b : Nat) (l c : Int) (a : Addr) : Prop := w.heap[b]? = some (.cells #[.string ⟨#[108, 101, 120, 105, 115]⟩, .int .i64 l, .int .i64 c, .iface 72 (.pointer (some a))] 35 (0, 0))
theorem FaultIn.below {w w' : World} {b : Nat} {l c : Int} {a : Addr} (h : FaultIn w b l c a) (hb : Below w.heap.size w w') : FaultIn w' b l c a := (hb.block b (lt_of_block h)).trans h
theorem FaultIn.cells {w : World} {b : Nat} {l c : Int} {a : Addr} (h : FaultIn w b l c a) : w.cell? ⟨b, 1, none⟩ = some (.int .i64 l) ∧ w.cell? ⟨b, 2, none⟩ = some (.int .i64 c) ∧ w.cell? ⟨b, 3, none⟩ = some (.iface 72 (.pointer (some a))) := by
  refine ⟨?_, ?_, ?_⟩ <;> (rw [cell_of_block h]; rfl)
structure BadSt (w0 : World) (aA aL aI aW a : Addr) (b b' : Nat) (l c : Int) (w : World) : Prop where
  errs : Errs w aA aL aI aW
  f : FaultIn w b l c a
  g : FaultIn w b' (l + 1) c a
  bl : Below w0.heap.size w0 w
theorem BadSt.below {w0 w w' : World} {aA aL aI aW a : Addr} {b b' : Nat} {l c : Int} (h : BadSt w0 aA aL aI aW a b b' l c w) (hb : Below w.heap.size w w') : BadSt w0 aA aL aI aW a b b' l c w' :=
  ⟨h.errs.below hb, h.f.below hb, h.g.below hb, h.bl.trans (hb.mono h.bl.size)⟩
theorem bad_drew {w0 w w' : World} {aA aL aI aW a : Addr} {b b' : Nat} {l c : Int} (h : BadSt w0 aA aL aI aW a b b' l c w) (hb : Below w.drew.heap.size w.drew w') : BadSt w0 aA aL aI aW a b b' l c w' := h.below ((Below.refl _ w).drew.trans hb)
theorem errs_drew {w : World} {aA aL aI aW : Addr} (h : Errs w aA aL aI aW) : Errs w.drew aA aL aI aW := h.below ((Below.refl _ w).drew)
theorem alive_errs0 (aA aL aI aW : Addr) (w : World) (hE : Errs w aA aL aI aW) : Calls Tryd.prog 5 #[] w fun e w' => e = .returned (.bool true) ∧ Below w.heap.size w w' :=
  alive_any _ _ _ _ w hE.2.1.1 hE.2.2.2.1.1
theorem scan_code (s : ByteArray) : ∀ n p l f ts k a b, scanF s n p l f ts = .inr (k, a, b) → k = 2 ∨ k = 4 := by
  intro n
  induction n with
  | zero => intro p l f ts k a b h; simp [scanF] at h
  | succ n ih =>
    intro p l f ts k a b h
    by_cases hlt : p < s.size
    · rw [scanF_at s n p l f ts hlt] at h
      split at h
      · split at h
        · simp at h; exact .inl h.1.symm
        · exact ih _ _ _ _ _ _ _ h
      split at h
      · split at h
        · exact ih _ _ _ _ _ _ _ h
        · rename_i hz
          injection h with h2
          have h3 : (Lx.numR (s.extract p (Lx.runE s.data.toList p)).data.toList).2 = k := congrArg Prod.fst h2
          rw [← h3]
          unfold Lx.numR at hz ⊢
          split
          · exact .inr rfl
          · rename_i hb
            rw [if_neg hb] at hz
            split
            · rename_i v hv; rw [hv] at hz; exact absurd rfl hz
            · exact .inl rfl
      split at h
      · exact ih _ _ _ _ _ _ _ h
      split at h
      · exact ih _ _ _ _ _ _ _ h
      split at h
      · exact ih _ _ _ _ _ _ _ h
      split at h
      · exact ih _ _ _ _ _ _ _ h
      · simp at h; exact .inr h.1.symm
    · rw [scanF, dif_neg hlt] at h; simp at h
set_option maxRecDepth 100000 in
set_option maxHeartbeats 1000000 in
theorem places_long (s : ByteArray) (aA aL aI aW : Addr) (w : World) (hs : 60000 < s.size) (hm : s.size ≤ maxLen) (hE : Errs w aA aL aI aW) :
    Calls Tryd.prog 4 #[.string s] w fun e w' => e = .returned (.bool true) ∧ Below w.heap.size w w' := by
  unfold maxLen at hm
  have h6 : (60000 : Int) < (s.size : Int) := by omega
  go_enter Tryd.func4, Tryd.ntmps4
  go_wp2_with (go_at_call 5; refine (alive_errs0 aA aL aI aW w hE).mono ?_; rintro r w' ⟨rfl, hb⟩)
  go_ret
  exact ⟨rfl, hb⟩
/-- What is left: the path of an error (a drawn region with three calls). -/
def PlacesBadSaid : Prop := ∀ (s : ByteArray) (k : Nat) (l : Nat) (c : Nat) (a aA aL aI aW : Addr) (w : World) (_ : s.size ≤ 60000) (_ : Errs w aA aL aI aW) (_ : l ≤ 60001) (_ : Calls Tryd.prog 9 #[.string s] w fun e w' => (∃ b, e = .returned (.tuple #[.slice none 0 0, .iface 32 (.pointer (some ⟨b, 0, none⟩))]) ∧ FaultIn w' b l c a) ∧ Below w.heap.size w w') (_ : ∀ W, Errs W aA aL aI aW → Calls Tryd.prog 9 #[.string (⟨#[35, 32, 120, 10]⟩ ++ s)] W fun e w' => (∃ b, e = .returned (.tuple #[.slice none 0 0, .iface 32 (.pointer (some ⟨b, 0, none⟩))]) ∧ FaultIn w' b ((l : Int) + 1) c a) ∧ Below W.heap.size W w') (_ : ∀ W b, Errs W aA aL aI aW → W.cell? ⟨b, 3, none⟩ = some (.iface 72 (.pointer (some a))) → Calls Tryd.prog 10 #[.iface 32 (.pointer (some ⟨b, 0, none⟩))] W fun e w' => e = .returned (.int .i64 k) ∧ w' = W),
    Calls Tryd.prog 4 #[.string s] w fun e w' => e = .returned (.bool true) ∧ Below w.heap.size w w'
theorem lawPlaces_of (places_bad : PlacesBadSaid) (s : ByteArray) (aA aL aI aW : Addr) (w : World) (hm : s.size ≤ maxLen) (hE : Errs w aA aL aI aW) :
    Calls Tryd.prog 4 #[.string s] w fun e w' => e = .returned (.bool true) ∧ Below w.heap.size w w' := by
  by_cases hs : s.size ≤ 60000
  · cases hn : scanF s (s.size + 1) 0 1 0 [] with
    | inl ts => exact places_ok s ts aA aL aI aW w hs hE hn
    | inr x =>
      obtain ⟨k, l, c⟩ := x
      have hl := scanF_line s _ _ _ _ _ _ _ _ (Nat.zero_le _) (by omega) hn
      have hA := scan_any s _ _ _ _ w (by omega) hE.2.1.1 hE.2.2.2.1.1
      have hB := fun W (hE : Errs W aA aL aI aW) => scan_any (aheadB ++ s) _ _ _ _ W (by rw [ahead_size]; omega) hE.2.1.1 hE.2.2.2.1.1
      simp only [scan_ahead_all, hn, upR] at hB
      rw [hn] at hA
      rcases scan_code s _ _ _ _ _ _ _ _ hn with rfl | rfl
      · refine places_bad s 2 l c aL aA aL aI aW w hs hE (by omega) (hA.mono ?_) (fun W hW => (hB W hW).mono ?_) (fun W b hW h1 => code_long b aA aL aI aW W hW h1)
        · rintro e w' ⟨⟨b, rfl, _, hF⟩, hb⟩
          exact ⟨⟨b, rfl, hF⟩, hb⟩
        · rintro e w' ⟨⟨b, rfl, _, hF⟩, hb⟩
          exact ⟨⟨b, rfl, hF⟩, hb⟩
      · refine places_bad s 4 l c aW aA aL aI aW w hs hE (by omega) (hA.mono ?_) (fun W hW => (hB W hW).mono ?_) (fun W b hW h1 => code_word b aA aL aI aW W hW h1)
        · rintro e w' ⟨⟨b, rfl, _, hF⟩, hb⟩
          exact ⟨⟨b, rfl, hF⟩, hb⟩
        · rintro e w' ⟨⟨b, rfl, _, hF⟩, hb⟩
          exact ⟨⟨b, rfl, hF⟩, hb⟩
  · exact places_long s aA aL aI aW w (by omega) hm hE
end Go.Proofs.YtpefldpmdhajfaaDoor
