/- The statement LexisScans as a call: on any text it returns true, and nothing that was there has turned. -/
import Derived.Test.YtheiahheflcjpaaDoorRefScan
import Derived.Test.YtheiahheflcjpaaDoorSame
import Derived.Test.YtheiahheflcjpaaDoorLawWords
namespace Go.Proofs.YtheiahheflcjpaaDoor
open Go.RowKit
def toZ (t : Tok) : ZTok := ⟨t.kind, t.text, t.line, t.col⟩
theorem toksCells_at (ts : List Tok) : ∀ k t, ts[k]? = some t → (toksCells ts)[k * 4]? = some (.int .i64 t.kind) ∧ (toksCells ts)[k * 4 + 1]? = some (.string t.text) ∧ (toksCells ts)[k * 4 + 2]? = some (.int .i64 t.line) ∧ (toksCells ts)[k * 4 + 3]? = some (.int .i64 t.col) := by
  induction ts with
  | nil => intro k t h; simp at h
  | cons a r ih =>
    intro k t h
    have e : toksCells (a :: r) = tokCells a ++ toksCells r := by simp [toksCells]
    have hl : (tokCells a).length = 4 := rfl
    rw [e]
    cases k with
    | zero => simp at h; subst h; exact ⟨rfl, rfl, rfl, rfl⟩
    | succ k =>
      have h' : r[k]? = some t := by simpa using h
      obtain ⟨c0, c1, c2, c3⟩ := ih k t h'
      refine ⟨?_, ?_, ?_, ?_⟩
      · rw [List.getElem?_append_right (by rw [hl]; omega), hl, show (k + 1) * 4 - 4 = k * 4 from by omega]; exact c0
      · rw [List.getElem?_append_right (by rw [hl]; omega), hl, show (k + 1) * 4 + 1 - 4 = k * 4 + 1 from by omega]; exact c1
      · rw [List.getElem?_append_right (by rw [hl]; omega), hl, show (k + 1) * 4 + 2 - 4 = k * 4 + 2 from by omega]; exact c2
      · rw [List.getElem?_append_right (by rw [hl]; omega), hl, show (k + 1) * 4 + 3 - 4 = k * 4 + 3 from by omega]; exact c3
theorem cell_add {w : World} {g j : Nat} {u : Value} (h : w.cell? ((⟨g, 0, none⟩ : Addr).add j) = some u) : w.cell? ⟨g, 0 + j, none⟩ = some u := by
  rw [Nat.zero_add]
  cases j with
  | zero => exact h
  | succ j => simpa [Addr.add] using h
theorem has_of_owns {w : World} {base : Nat} {v : Value} {ts : List Tok} (h : w.ownsRow base 45 4 v ts.length (toksCells ts)) : Has w v (ts.map toZ) := by
  rcases h.2 with ⟨rfl, h0⟩ | ⟨g, cap, cur, rfl, _⟩
  · have hts : ts = [] := List.length_eq_zero_iff.1 h0
    subst hts
    exact ⟨none, 0, 0, 0, rfl, fun h => by simp at h, fun k z hz => by simp at hz⟩
  · refine ⟨some ⟨g, 0, none⟩, g, 0, cap, by simp, fun _ => rfl, fun k z hz => ?_⟩
    rw [List.getElem?_map] at hz
    cases e : ts[k]? with
    | none => rw [e] at hz; simp at hz
    | some t =>
      rw [e] at hz
      simp at hz
      subst hz
      obtain ⟨c0, c1, c2, c3⟩ := toksCells_at ts k t e
      exact ⟨cell_add (h.cells (g := g) rfl _ _ c0), cell_add (h.cells (g := g) rfl _ _ c1), cell_add (h.cells (g := g) rfl _ _ c2), cell_add (h.cells (g := g) rfl _ _ c3)⟩
theorem has_nil (w : World) : Has w (.slice none 0 0) [] := ⟨none, 0, 0, 0, rfl, fun h => by simp at h, fun k z hz => by simp at hz⟩
theorem num_code (l : List UInt8) (h : ¬ (Lx.numR l).2 = 0) : (Lx.numR l).2 = 2 ∨ (Lx.numR l).2 = 4 := by
  rcases num_cases l with ⟨n, e⟩ | e | e
  · rw [e] at h; exact absurd rfl h
  · rw [e]; exact .inr rfl
  · rw [e]; exact .inl rfl
theorem scanF_code (s : ByteArray) : ∀ n p l f ts k a b, scanF s n p l f ts = .inr (k, a, b) → k = 2 ∨ k = 4 := by
  intro n
  induction n with
  | zero => intro p l f ts k a b h; simp [scanF] at h
  | succ n ih =>
    intro p l f ts k a b h
    by_cases hlt : p < s.size
    · rw [scanF_at s n p l f ts hlt] at h
      split at h
      · split at h
        · simp at h; exact .inl h.1.symm
        · exact ih _ _ _ _ _ _ _ h
      · split at h
        · split at h
          · exact ih _ _ _ _ _ _ _ h
          · rename_i hz
            have h1 := num_code _ hz
            injection h with h2
            have h3 : (Lx.numR (s.extract p (Lx.runE s.data.toList p)).data.toList).2 = k := congrArg Prod.fst h2
            rw [h3] at h1
            exact h1
        · split at h
          · exact ih _ _ _ _ _ _ _ h
          · split at h
            · exact ih _ _ _ _ _ _ _ h
            · split at h
              · exact ih _ _ _ _ _ _ _ h
              · split at h
                · exact ih _ _ _ _ _ _ _ h
                · simp at h; exact .inr h.1.symm
    · rw [scanF, dif_neg hlt] at h; simp at h
set_option maxHeartbeats 1000000 in
theorem refScan_long (s : ByteArray) (w : World) (hs : 65536 < s.size) (hm : s.size ≤ maxLen) :
    Calls Tryd.prog 9 #[.string s] w fun e w' => e = .returned (.tuple #[.slice none 0 0, .agg #[.int .i64 2, .int .i64 0, .int .i64 0, .string lexisB]]) ∧ Below w.heap.size w w' := by
  unfold maxLen at hm
  have h9 : (65536 : Int) < (s.size : Int) := by omega
  go_enter Tryd.func9, Tryd.ntmps9
  go_wp2_with (go_at_call 15; refine (bad_any _ _).mono ?_; rintro e1 w1 ⟨rfl, rfl⟩)
  exact bodyPost_ret (v := .tuple #[.slice none 0 0, .agg #[.int .i64 2, .int .i64 0, .int .i64 0, .string lexisB]]) (by simp [results, Tryd.results9, go_sem]) rfl ⟨rfl, ((Below.refl _ _).alloc (Nat.le_refl _) _).alloc (by simp) _⟩
/-- The end of the statement: both calls have answered; the document's error lies in a block of its own. -/
theorem new_one {w w' w8 : World} {x : Obj} {aA aL aI aW : Addr} (hE : Errs w' aA aL aI aW) (hb : Below w.heap.size w w') (h8 : w8 = w'.alloc x) :
    Errs w8 aA aL aI aW ∧ Below w.heap.size w w8 ∧ w8.heap[w'.heap.size]? = some x ∧ Below w'.heap.size w' w8 := by
  have h1 : Below w'.heap.size w' w8 := by rw [h8]; exact (Below.refl _ _).alloc (Nat.le_refl _) _
  refine ⟨hE.below h1, hb.trans (h1.mono hb.size), ?_, h1⟩
  rw [h8]
  exact heap_alloc_new w' x
set_option maxRecDepth 100000 in
set_option maxHeartbeats 2000000 in
theorem scans_ok (s : ByteArray) (ts : List Tok) (aA aL aI aW : Addr) (w : World) (hs : s.size ≤ 65536) (hE : Errs w aA aL aI aW) (hn : scanF s (s.size + 1) 0 1 0 [] = .inl ts) :
    Calls Tryd.prog 3 #[.string s] w fun e w' => e = .returned (.bool true) ∧ Below w.heap.size w w' := by
  have hA := scan_any s _ _ _ _ w hs hE.2.1.1 hE.2.2.2.1.1
  have hR := fun W => refScan_any s W hs
  rw [hn] at hA hR
  have HE : Hid (Errs w aA aL aI aW) := hE
  clear hE hn
  go_enter Tryd.func3, Tryd.ntmps3
  go_wp2_with fail
  refine hA.mono ?_
  rintro e w1 ⟨⟨v, rfl, hown, hlen⟩, hb1⟩
  have HB1 : Hid (Errs w1 aA aL aI aW ∧ Below w.heap.size w w1 ∧ Has w1 v (ts.map toZ)) := ⟨HE.out.below hb1, hb1, has_of_owns hown⟩
  clear hb1 hA hown
  go_wp2_with fail
  refine (hR _).mono ?_
  rintro e w2 ⟨⟨v2, rfl, hown2, _⟩, hb2⟩
  have HB2 : Hid (Errs w2 aA aL aI aW ∧ Below w.heap.size w w2 ∧ Has w2 v (ts.map toZ) ∧ Has w2 v2 (ts.map toZ)) := ⟨HB1.out.1.below hb2, HB1.out.2.1.trans (hb2.mono HB1.out.2.1.size), HB1.out.2.2.below hb2, has_of_owns hown2⟩
  clear hb2 hR hown2 HB1
  go_wp2_with fail
  obtain ⟨w8, hw8⟩ : ∃ w8, w8 = w2.alloc (.cells #[.int .i64 0, .int .i64 0, .int .i64 0, .string ⟨#[]⟩] 28) := ⟨_, rfl⟩
  rw [← hw8]
  have h8 := new_one HB2.out.1 HB2.out.2.1 hw8
  have HB8 : Hid (Errs w8 aA aL aI aW ∧ Below w.heap.size w w8 ∧ w8.heap[w2.heap.size]? = some (.cells #[.int .i64 0, .int .i64 0, .int .i64 0, .string ⟨#[]⟩] 28) ∧ Has w8 v (ts.map toZ) ∧ Has w8 v2 (ts.map toZ)) := ⟨h8.1, h8.2.1, h8.2.2.1, HB2.out.2.2.1.below h8.2.2.2, HB2.out.2.2.2.below h8.2.2.2⟩
  clear hw8 h8 HB2
  refine (alive_errs aA aL aI aW _ HB8.out.1).mono ?_
  rintro e w3 ⟨rfl, hb3⟩
  have HB3 : Hid (Errs w3 aA aL aI aW ∧ Below w.heap.size w w3 ∧ Has w3 v (ts.map toZ) ∧ Has w3 v2 (ts.map toZ)) := ⟨HB8.out.1.below hb3, HB8.out.2.1.trans (hb3.mono HB8.out.2.1.size), HB8.out.2.2.2.1.below hb3, HB8.out.2.2.2.2.below hb3⟩
  have hN := keep_block HB8.out.2.2.1 hb3
  have e0 := cell_of_block hN 0
  have e1 := cell_of_block hN 1
  have e2 := cell_of_block hN 2
  have e3 := cell_of_block hN 3
  simp at e0 e1 e2 e3
  clear hN hb3 HB8
  go_wp2_with fail
  refine (told_nil 0 0 ⟨#[]⟩ _).mono ?_
  rintro e w4 ⟨rfl, hb4⟩
  have HB4 : Hid (Below w.heap.size w w4 ∧ Has w4 v (ts.map toZ) ∧ Has w4 v2 (ts.map toZ)) := ⟨HB3.out.2.1.trans (hb4.mono HB3.out.2.1.size), HB3.out.2.2.1.below hb4, HB3.out.2.2.2.below hb4⟩
  clear hb4 e0 e1 e2 e3 HB3
  go_wp2_with fail
  have hS := same_any v v2 (ts.map toZ) w4 (by rw [List.length_map]; omega) HB4.out.2.1 HB4.out.2.2
  refine hS.mono ?_
  clear hS
  rintro e w5 ⟨rfl, hb5⟩
  have HB5 : Hid (Below w.heap.size w w5) := HB4.out.1.trans (hb5.mono HB4.out.1.size)
  clear hb5
  go_wp2_with fail
  go_ret
  exact ⟨rfl, HB5.out⟩
set_option maxRecDepth 100000 in
set_option maxHeartbeats 2000000 in
theorem scans_long (s : ByteArray) (l c : Nat) (aA aL aI aW : Addr) (w : World) (hE : Errs w aA aL aI aW)
    (hA : Calls Tryd.prog 8 #[.string s] w fun e w' => (∃ b, e = .returned (.tuple #[.slice none 0 0, .iface 46 (.pointer (some ⟨b, 0, none⟩))]) ∧ w'.heap[b]? = some (.cells #[.string ⟨#[108, 101, 120, 105, 115]⟩, .int .i64 l, .int .i64 c, .iface 82 (.pointer (some aL))] 49 (0, 0))) ∧ Below w.heap.size w w')
    (hR : ∀ W, Calls Tryd.prog 9 #[.string s] W fun e w' => e = .returned (.tuple #[.slice none 0 0, .agg #[.int .i64 2, .int .i64 l, .int .i64 c, .string lexisB]]) ∧ Below W.heap.size W w') :
    Calls Tryd.prog 3 #[.string s] w fun e w' => e = .returned (.bool true) ∧ Below w.heap.size w w' := by
  have HE : Hid (Errs w aA aL aI aW) := hE
  clear hE
  go_enter Tryd.func3, Tryd.ntmps3
  go_wp2_with fail
  refine hA.mono ?_
  rintro e w1 ⟨⟨b, rfl, hF⟩, hb1⟩
  have HB1 : Hid (Errs w1 aA aL aI aW ∧ Below w.heap.size w w1 ∧ w1.heap[b]? = some (.cells #[.string ⟨#[108, 101, 120, 105, 115]⟩, .int .i64 l, .int .i64 c, .iface 82 (.pointer (some aL))] 49 (0, 0))) := ⟨HE.out.below hb1, hb1, hF⟩
  clear hb1 hA hF
  go_wp2_with fail
  refine (hR _).mono ?_
  rintro e w2 ⟨rfl, hb2⟩
  have HB2 : Hid (Errs w2 aA aL aI aW ∧ Below w.heap.size w w2 ∧ w2.heap[b]? = some (.cells #[.string ⟨#[108, 101, 120, 105, 115]⟩, .int .i64 l, .int .i64 c, .iface 82 (.pointer (some aL))] 49 (0, 0))) := ⟨HB1.out.1.below hb2, HB1.out.2.1.trans (hb2.mono HB1.out.2.1.size), keep_block HB1.out.2.2 hb2⟩
  clear hb2 hR HB1
  go_wp2_with fail
  obtain ⟨w8, hw8⟩ : ∃ w8, w8 = w2.alloc (.cells #[.int .i64 2, .int .i64 l, .int .i64 c, .string lexisB] 28) := ⟨_, rfl⟩
  rw [← hw8]
  have h8 := new_one HB2.out.1 HB2.out.2.1 hw8
  have HB8 : Hid (Errs w8 aA aL aI aW ∧ Below w.heap.size w w8 ∧ w8.heap[w2.heap.size]? = some (.cells #[.int .i64 2, .int .i64 l, .int .i64 c, .string lexisB] 28) ∧ w8.heap[b]? = some (.cells #[.string ⟨#[108, 101, 120, 105, 115]⟩, .int .i64 l, .int .i64 c, .iface 82 (.pointer (some aL))] 49 (0, 0))) := ⟨h8.1, h8.2.1, h8.2.2.1, keep_block HB2.out.2.2 h8.2.2.2⟩
  clear hw8 h8 HB2
  refine (alive_errs aA aL aI aW _ HB8.out.1).mono ?_
  rintro e w3 ⟨rfl, hb3⟩
  have HB3 : Hid (Errs w3 aA aL aI aW ∧ Below w.heap.size w w3 ∧ w3.heap[b]? = some (.cells #[.string ⟨#[108, 101, 120, 105, 115]⟩, .int .i64 l, .int .i64 c, .iface 82 (.pointer (some aL))] 49 (0, 0))) := ⟨HB8.out.1.below hb3, HB8.out.2.1.trans (hb3.mono HB8.out.2.1.size), keep_block HB8.out.2.2.2 hb3⟩
  have hN := keep_block HB8.out.2.2.1 hb3
  have e0 := cell_of_block hN 0
  have e1 := cell_of_block hN 1
  have e2 := cell_of_block hN 2
  have e3 := cell_of_block hN 3
  simp at e0 e1 e2 e3
  clear hN hb3 HB8
  go_wp2_with fail
  have hT := told_long b l c aA aL aI aW w3 HB3.out.1 HB3.out.2.2
  refine hT.mono ?_
  clear hT
  rintro e w4 ⟨rfl, hb4⟩
  have HB4 : Hid (Below w.heap.size w w4) := HB3.out.2.1.trans (hb4.mono HB3.out.2.1.size)
  clear hb4 e0 e1 e2 e3 HB3
  go_wp2_with fail
  have hS := same_any (.slice none 0 0) (.slice none 0 0) [] w4 (by simp) (has_nil _) (has_nil _)
  refine hS.mono ?_
  clear hS
  rintro e w5 ⟨rfl, hb5⟩
  have HB5 : Hid (Below w.heap.size w w5) := HB4.out.trans (hb5.mono HB4.out.size)
  clear hb5
  go_wp2_with fail
  go_ret
  exact ⟨rfl, HB5.out⟩
set_option maxRecDepth 100000 in
set_option maxHeartbeats 2000000 in
theorem scans_word (s : ByteArray) (l c : Nat) (aA aL aI aW : Addr) (w : World) (hE : Errs w aA aL aI aW)
    (hA : Calls Tryd.prog 8 #[.string s] w fun e w' => (∃ b, e = .returned (.tuple #[.slice none 0 0, .iface 46 (.pointer (some ⟨b, 0, none⟩))]) ∧ w'.heap[b]? = some (.cells #[.string ⟨#[108, 101, 120, 105, 115]⟩, .int .i64 l, .int .i64 c, .iface 82 (.pointer (some aW))] 49 (0, 0))) ∧ Below w.heap.size w w')
    (hR : ∀ W, Calls Tryd.prog 9 #[.string s] W fun e w' => e = .returned (.tuple #[.slice none 0 0, .agg #[.int .i64 4, .int .i64 l, .int .i64 c, .string lexisB]]) ∧ Below W.heap.size W w') :
    Calls Tryd.prog 3 #[.string s] w fun e w' => e = .returned (.bool true) ∧ Below w.heap.size w w' := by
  have HE : Hid (Errs w aA aL aI aW) := hE
  clear hE
  go_enter Tryd.func3, Tryd.ntmps3
  go_wp2_with fail
  refine hA.mono ?_
  rintro e w1 ⟨⟨b, rfl, hF⟩, hb1⟩
  have HB1 : Hid (Errs w1 aA aL aI aW ∧ Below w.heap.size w w1 ∧ w1.heap[b]? = some (.cells #[.string ⟨#[108, 101, 120, 105, 115]⟩, .int .i64 l, .int .i64 c, .iface 82 (.pointer (some aW))] 49 (0, 0))) := ⟨HE.out.below hb1, hb1, hF⟩
  clear hb1 hA hF
  go_wp2_with fail
  refine (hR _).mono ?_
  rintro e w2 ⟨rfl, hb2⟩
  have HB2 : Hid (Errs w2 aA aL aI aW ∧ Below w.heap.size w w2 ∧ w2.heap[b]? = some (.cells #[.string ⟨#[108, 101, 120, 105, 115]⟩, .int .i64 l, .int .i64 c, .iface 82 (.pointer (some aW))] 49 (0, 0))) := ⟨HB1.out.1.below hb2, HB1.out.2.1.trans (hb2.mono HB1.out.2.1.size), keep_block HB1.out.2.2 hb2⟩
  clear hb2 hR HB1
  go_wp2_with fail
  obtain ⟨w8, hw8⟩ : ∃ w8, w8 = w2.alloc (.cells #[.int .i64 4, .int .i64 l, .int .i64 c, .string lexisB] 28) := ⟨_, rfl⟩
  rw [← hw8]
  have h8 := new_one HB2.out.1 HB2.out.2.1 hw8
  have HB8 : Hid (Errs w8 aA aL aI aW ∧ Below w.heap.size w w8 ∧ w8.heap[w2.heap.size]? = some (.cells #[.int .i64 4, .int .i64 l, .int .i64 c, .string lexisB] 28) ∧ w8.heap[b]? = some (.cells #[.string ⟨#[108, 101, 120, 105, 115]⟩, .int .i64 l, .int .i64 c, .iface 82 (.pointer (some aW))] 49 (0, 0))) := ⟨h8.1, h8.2.1, h8.2.2.1, keep_block HB2.out.2.2 h8.2.2.2⟩
  clear hw8 h8 HB2
  refine (alive_errs aA aL aI aW _ HB8.out.1).mono ?_
  rintro e w3 ⟨rfl, hb3⟩
  have HB3 : Hid (Errs w3 aA aL aI aW ∧ Below w.heap.size w w3 ∧ w3.heap[b]? = some (.cells #[.string ⟨#[108, 101, 120, 105, 115]⟩, .int .i64 l, .int .i64 c, .iface 82 (.pointer (some aW))] 49 (0, 0))) := ⟨HB8.out.1.below hb3, HB8.out.2.1.trans (hb3.mono HB8.out.2.1.size), keep_block HB8.out.2.2.2 hb3⟩
  have hN := keep_block HB8.out.2.2.1 hb3
  have e0 := cell_of_block hN 0
  have e1 := cell_of_block hN 1
  have e2 := cell_of_block hN 2
  have e3 := cell_of_block hN 3
  simp at e0 e1 e2 e3
  clear hN hb3 HB8
  go_wp2_with fail
  have hT := told_word b l c aA aL aI aW w3 HB3.out.1 HB3.out.2.2
  refine hT.mono ?_
  clear hT
  rintro e w4 ⟨rfl, hb4⟩
  have HB4 : Hid (Below w.heap.size w w4) := HB3.out.2.1.trans (hb4.mono HB3.out.2.1.size)
  clear hb4 e0 e1 e2 e3 HB3
  go_wp2_with fail
  have hS := same_any (.slice none 0 0) (.slice none 0 0) [] w4 (by simp) (has_nil _) (has_nil _)
  refine hS.mono ?_
  clear hS
  rintro e w5 ⟨rfl, hb5⟩
  have HB5 : Hid (Below w.heap.size w w5) := HB4.out.trans (hb5.mono HB4.out.size)
  clear hb5
  go_wp2_with fail
  go_ret
  exact ⟨rfl, HB5.out⟩
theorem lawScans_any (s : ByteArray) (aA aL aI aW : Addr) (w : World) (hm : s.size ≤ maxLen) (hE : Errs w aA aL aI aW) :
    Calls Tryd.prog 3 #[.string s] w fun e w' => e = .returned (.bool true) ∧ Below w.heap.size w w' := by
  by_cases hs : s.size ≤ 65536
  · have hA := scan_any s _ _ _ _ w hs hE.2.1.1 hE.2.2.2.1.1
    have hR := fun W => refScan_any s W hs
    cases hn : scanF s (s.size + 1) 0 1 0 [] with
    | inl ts => exact scans_ok s ts aA aL aI aW w hs hE hn
    | inr x =>
      obtain ⟨k, l, c⟩ := x
      rw [hn] at hA hR
      rcases scanF_code s _ _ _ _ _ _ _ _ hn with rfl | rfl
      · refine scans_long s l c aA aL aI aW w hE (hA.mono ?_) (fun W => hR W)
        rintro e w' ⟨⟨b, rfl, _, hF⟩, hb⟩
        exact ⟨⟨b, rfl, hF⟩, hb⟩
      · refine scans_word s l c aA aL aI aW w hE (hA.mono ?_) (fun W => hR W)
        rintro e w' ⟨⟨b, rfl, _, hF⟩, hb⟩
        exact ⟨⟨b, rfl, hF⟩, hb⟩
  · refine scans_long s 0 0 aA aL aI aW w hE ((scan_long s _ _ w (by omega) hm hE.2.1.1).mono ?_) (fun W => refScan_long s W (by omega) hm)
    rintro e w' ⟨b, rfl, _, hF, hb⟩
    exact ⟨⟨b, rfl, hF⟩, hb⟩
end Go.Proofs.YtheiahheflcjpaaDoor
