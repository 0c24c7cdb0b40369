/- The statement LexisAll as a call: on any texts it returns true, and nothing that was there has turned. -/
import Derived.Test.YthcboklkejlifaaGreatDoorLexAll1
namespace Go.Proofs.YthcboklkejlifaaGreatDoor
open Go.RowKit Go.Maps
attribute [local go_sem ↓] Go.wp_at_zero Go.wp_at_succ
/-- The value is a list of these texts. -/
structure HasS (w : World) (v : Value) (ss : List ByteArray) : Prop where
  form : ∃ ao cap, v = .slice ao ss.length cap ∧ ∀ i s, ss[i]? = some s → ∃ a, ao = some a ∧ w.cell? (a.add i) = some (.string s)
  size : ∀ s ∈ ss, s.size ≤ maxLen
/-- What both scans answer, and that they are told alike. -/
def Both (s : ByteArray) (w : World) (e : Ending) (w1 : World) : Prop := ∃ v ev zs, e = .returned (.tuple #[v, ev]) ∧ w1.ownsRow w.heap.size 57 4 v zs.length (zsCells zs) ∧ zs.length ≤ 131073 ∧ Below w.heap.size w w1 ∧
  ∀ W, Below w1.heap.size w1 W → Calls Tryz.prog 8 #[.string s] W fun e w2 => ∃ v2 k l c x, e = .returned (.tuple #[v2, .agg #[.int .i64 k, .int .i64 l, .int .i64 c, .string x]]) ∧ w2.ownsRow W.heap.size 57 4 v2 zs.length (zsCells zs) ∧ Below W.heap.size W w2 ∧
    ∀ W2, Below w2.heap.size w2 W2 → Calls Tryz.prog 9 #[ev, .agg #[.int .i64 k, .int .i64 l, .int .i64 c, .string x]] W2 fun e w3 => e = .returned (.bool true) ∧ Below W2.heap.size W2 w3
theorem own_toks {w : World} {B B' : Nat} {v : Value} {ts : List Tok} (h : w.ownsRow B 57 4 v ts.length (toksCells ts)) (hb : B' ≤ B) : w.ownsRow B' 57 4 v (ts.map toZ).length (zsCells (ts.map toZ)) := by
  rw [List.length_map, ← toks_C]
  exact row_base h hb
theorem both_long {s : ByteArray} {l c : Nat} {aA aL aI aW : Addr} {w w1 : World} {b : Nat} (hE : Errs w1 aA aL aI aW) (hF : w1.heap[b]? = some (.cells #[.string ⟨#[108, 101, 120, 105, 115]⟩, .int .i64 l, .int .i64 c, .iface 194 (.pointer (some aL))] 60 (0, 0))) (hb : Below w.heap.size w w1)
    (hR : ∀ W, Calls Tryz.prog 8 #[.string s] W fun e w' => e = .returned (.tuple #[.slice none 0 0, .agg #[.int .i64 2, .int .i64 l, .int .i64 c, .string lexisB]]) ∧ Below W.heap.size W w') :
    Both s w (.returned (.tuple #[.slice none 0 0, .iface 58 (.pointer (some ⟨b, 0, none⟩))])) w1 := by
  refine ⟨_, _, [], rfl, World.ownsRow_nil _ _ _ _, by simp, hb, fun W hW => (hR W).mono ?_⟩
  rintro e w2 ⟨rfl, hb2⟩
  refine ⟨_, _, _, _, _, rfl, World.ownsRow_nil _ _ _ _, hb2, fun W2 hW2 => ?_⟩
  have h1 := keep_block (keep_block (keep_block hF hW) hb2) hW2
  exact told_long b l c aA aL aI aW W2 (((hE.below hW).below hb2).below hW2) h1
theorem both_word {s : ByteArray} {l c : Nat} {aA aL aI aW : Addr} {w w1 : World} {b : Nat} (hE : Errs w1 aA aL aI aW) (hF : w1.heap[b]? = some (.cells #[.string ⟨#[108, 101, 120, 105, 115]⟩, .int .i64 l, .int .i64 c, .iface 194 (.pointer (some aW))] 60 (0, 0))) (hb : Below w.heap.size w w1)
    (hR : ∀ W, Calls Tryz.prog 8 #[.string s] W fun e w' => e = .returned (.tuple #[.slice none 0 0, .agg #[.int .i64 4, .int .i64 l, .int .i64 c, .string lexisB]]) ∧ Below W.heap.size W w') :
    Both s w (.returned (.tuple #[.slice none 0 0, .iface 58 (.pointer (some ⟨b, 0, none⟩))])) w1 := by
  refine ⟨_, _, [], rfl, World.ownsRow_nil _ _ _ _, by simp, hb, fun W hW => (hR W).mono ?_⟩
  rintro e w2 ⟨rfl, hb2⟩
  refine ⟨_, _, _, _, _, rfl, World.ownsRow_nil _ _ _ _, hb2, fun W2 hW2 => ?_⟩
  have h1 := keep_block (keep_block (keep_block hF hW) hb2) hW2
  exact told_word b l c aA aL aI aW W2 (((hE.below hW).below hb2).below hW2) h1
theorem both_any (s : ByteArray) (aA aL aI aW : Addr) (w : World) (hm : s.size ≤ maxLen) (hE : Errs w aA aL aI aW) :
    Calls Tryz.prog 7 #[.string s] w (Both s w) := by
  by_cases hs : s.size ≤ 65536
  · have hA := scan_any s _ _ _ _ w hs hE.2.1.1 hE.2.2.2.1.1
    have hR := fun W => refScan_any s W hs
    cases hn : scanF s (s.size + 1) 0 1 0 [] with
    | inl ts =>
      rw [hn] at hA hR
      refine hA.mono ?_
      rintro e w1 ⟨⟨v, rfl, hown, hlen⟩, hb1⟩
      refine ⟨v, _, ts.map toZ, rfl, own_toks hown (by omega), by rw [List.length_map]; omega, hb1, fun W hW => (hR W).mono ?_⟩
      rintro e w2 ⟨⟨v2, rfl, hown2, _⟩, hb2⟩
      exact ⟨v2, _, _, _, _, rfl, own_toks hown2 (by omega), hb2, fun W2 _ => told_nil 0 0 ⟨#[]⟩ W2⟩
    | inr x =>
      obtain ⟨k, l, c⟩ := x
      rw [hn] at hA hR
      rcases scanF_code s _ _ _ _ _ _ _ _ hn with rfl | rfl
      · refine hA.mono ?_
        rintro e w1 ⟨⟨b, rfl, _, hF⟩, hb⟩
        exact both_long (hE.below hb) hF hb fun W => hR W
      · refine hA.mono ?_
        rintro e w1 ⟨⟨b, rfl, _, hF⟩, hb⟩
        exact both_word (hE.below hb) hF hb fun W => hR W
  · refine (scan_long s _ _ w (by omega) hm hE.2.1.1).mono ?_
    rintro e w1 ⟨b, rfl, _, hF, hb⟩
    exact both_long (l := 0) (c := 0) (hE.below hb) hF hb fun W => refScan_long s W (by omega) hm
/-- lexis.Lines of a row of one's own. -/
theorem lines_own {w : World} {B : Nat} {v : Value} {zs : List ZTok} (h : w.ownsRow B 57 4 v zs.length (zsCells zs)) (hn : zs.length ≤ 131073) :
    Calls Tryz.prog 13 #[v] w fun e w' => ∃ u, e = .returned u ∧ RowsA w' w.heap.size u (linesF [] zs) ∧ Below w.heap.size w w' := by
  rcases h.2 with ⟨rfl, h0⟩ | ⟨g, cap, cur, rfl, _, hg, hc, _, hs, ht⟩
  · obtain rfl : zs = [] := List.length_eq_zero_iff.1 h0
    exact lines_nil none 0 w
  · by_cases h0 : 0 < zs.length
    · refine lines_any g 0 cap zs w ?_ (by omega) hc h0
      intro k z hz
      have hk := (List.getElem?_eq_some_iff.1 hz).1
      have key : ∀ r, r < 4 → w.cell? ⟨g, 0 + k * 4 + r, none⟩ = (zCells z)[r]? := fun r hr => by
        rw [← zs_at zs k z hz r hr, ← ht]
        simp only [World.cell?, hg]
        rw [List.getElem?_take_of_lt (by omega)]
        simp
      exact ⟨key 0 (by omega), key 1 (by omega), key 2 (by omega), key 3 (by omega)⟩
    · obtain rfl : zs = [] := List.length_eq_zero_iff.1 (by omega)
      exact lines_nil _ cap w
theorem linesF_rows' (zs : List ZTok) : ∀ row, ∀ r ∈ linesF row zs, r.length ≤ row.length + zs.length := by
  induction zs with
  | nil =>
    intro row r hr
    simp only [linesF] at hr
    split at hr
    · simp at hr
    · simp at hr; subst hr; simp
  | cons z s ih =>
    intro row r hr
    simp only [linesF] at hr
    split at hr
    · rcases List.mem_cons.1 hr with rfl | hr
      · omega
      · have := ih [] r hr
        simp at this ⊢; omega
    · have := ih _ r hr
      simp at this ⊢; omega
set_option maxRecDepth 100000 in
set_option maxHeartbeats 1600000 in
theorem lawLexAll_long (ao : Option Addr) (n cap : Nat) (aA aL aI aW : Addr) (w : World) (hn : 30 < n) (hE : Errs w aA aL aI aW) :
    Calls Tryz.prog 3 #[.slice ao n cap] w fun r w' => r = .returned (.bool true) ∧ Below w.heap.size w w' := by
  have h1 : (30 : Int) < (n : Int) := by omega
  have HE : Hid (Errs w aA aL aI aW) := hE
  have HA := alive_errs aA aL aI aW w hE
  have HA1 : Hid _ := HA
  clear hE HA
  go_enter Tryz.func3, Tryz.ntmps3
  go_wp2_with fail
  refine Calls.mono HA1.out ?_
  rintro r w1 ⟨rfl, hb⟩
  have H1 : Hid _ := And.intro hb (alive_errs aA aL aI aW w1 (HE.out.below hb))
  clear hb HA1
  go_wp2_with fail
  refine Calls.mono H1.out.2 ?_
  rintro r w2 ⟨rfl, hb2⟩
  have H2 : Hid _ := H1.out.1.trans (hb2.mono H1.out.1.size)
  clear hb2
  go_wp2_with fail
  go_ret
  exact ⟨rfl, H2.out⟩
set_option maxRecDepth 100000 in
set_option maxHeartbeats 16000000 in
theorem lawLexAll_short (v : Value) (ss : List ByteArray) (aA aL aI aW : Addr) (w : World) (hH : HasS w v ss) (hn : ss.length ≤ 30) (hE : Errs w aA aL aI aW) :
    Calls Tryz.prog 3 #[v] w fun r w' => r = .returned (.bool true) ∧ Below w.heap.size w w' := by
  obtain ⟨ao, cap, rfl, hcells⟩ := hH.form
  obtain ⟨n, hN⟩ : ∃ n, n = ss.length := ⟨_, rfl⟩
  have HH : Hid _ := And.intro hcells (And.intro hN (And.intro hE hH.size))
  rw [← hN] at hn ⊢
  have h1 : ¬ (30 : Int) < (n : Int) := by omega
  have HA : Hid _ := alive_errs aA aL aI aW w hE
  clear hcells hN hH hE
  go_enter Tryz.func3, Tryz.ntmps3
  go_wp2_with fail
  refine Calls.mono HA.out ?_
  rintro r wB ⟨rfl, hbB⟩
  have HB : Hid _ := hbB
  clear hbB HA
  go_wp2_with fail
  go_loopg [4] (2 * n) (fun q kv wr => ∃ (k : Nat) (X : Nat → Prop), q = 2 * n - k ∧ k ≤ 2 * n ∧ kv = .int .i64 k ∧ WTE wB wr (fun b => b < wr.heap.size) (fun b => b < wr.heap.size) X)
  case atStart => exact ⟨0, _, rfl, Nat.zero_le _, rfl, (wt_new wB).mono (fun _ _ h => h.elim) (fun _ _ h => h.elim)⟩
  case round =>
    obtain ⟨k, X, rfl, hk, rfl, hW⟩ := hrel
    by_cases hlt : k < 2 * n
    · have q1 : (k : Int) < 2 * (n : Int) := by omega
      have q2 : (0 : Int) < (n : Int) := by omega
      obtain ⟨j, hj, hjl⟩ : ∃ j : Nat, (k : Int) % (n : Int) = (j : Int) ∧ j < n := ⟨k % n, by rw [Int.natCast_emod], Nat.mod_lt _ (by omega)⟩
      obtain ⟨s, hs⟩ : ∃ s, ss[j]? = some s := ⟨ss[j]'(by have := HH.out.2.1; omega), List.getElem?_eq_getElem _⟩
      obtain ⟨a, rfl, hc⟩ := HH.out.1 j s hs
      have hbw : Below w.heap.size w wr := HB.out.trans (hW.bw.mono HB.out.size)
      have hc0 : wr.cell? (a.add j) = some (.string s) := (hbw.cell (World.block_lt_of_cell? w _ hc)).trans hc
      have hsz := HH.out.2.2.2 s (List.mem_of_getElem? hs)
      have hBo := both_any s aA aL aI aW wr hsz (HH.out.2.2.1.below hbw)
      have q0 : (0 : Int) ≤ (j : Int) := by omega
      have q3 : (j : Int) < (n : Int) := by omega
      have H1 : Hid _ := And.intro hBo hW
      clear hBo hW hc hs hbw hsz
      go_wp2_with fail
      refine Calls.mono H1.out.1 ?_
      rintro e w1 ⟨v1, ev, zs, rfl, hO1, hzl, hb1, hR1⟩
      have hc1 : w1.cell? (a.add j) = some (.string s) := (hb1.cell (World.block_lt_of_cell? wr _ hc0)).trans hc0
      have H2 : Hid _ := And.intro hO1 (And.intro hb1 (And.intro hR1 (H1.out.2.below hb1)))
      clear hO1 hb1 hR1 hc0
      go_wp2_with fail
      refine Calls.mono (H2.out.2.2.1 w1 (Below.refl _ _)) ?_
      rintro e w2 ⟨v2, ck, cl, cc, cx, rfl, hO2, hb2, hT2⟩
      have H3 : Hid _ := And.intro hO2 (And.intro hb2 (And.intro hT2 (And.intro (H2.out.2.2.2.below hb2) (trow_at H2.out.1 fun i hi => hb2.block i (H2.out.1.lt i hi).2))))
      clear hO2 hb2 hT2 hc1
      go_wp2_with fail
      obtain ⟨w3, hw3⟩ : ∃ w3, w3 = w2.alloc (.cells #[.int .i64 ck, .int .i64 cl, .int .i64 cc, .string cx] 44) := ⟨_, rfl⟩
      rw [← hw3]
      have hb3 : Below w2.heap.size w2 w3 := by rw [hw3]; exact (Below.refl _ _).alloc (Nat.le_refl _) _
      have hN3 : w3.heap[w2.heap.size]? = some (.cells #[.int .i64 ck, .int .i64 cl, .int .i64 cc, .string cx] 44 (0, 0)) := by rw [hw3]; exact heap_alloc_new w2 _
      have e0 := cell_of_block hN3 0
      have e1 := cell_of_block hN3 1
      have e2 := cell_of_block hN3 2
      have e3 := cell_of_block hN3 3
      simp at e0 e1 e2 e3
      have H4 : Hid _ := And.intro (H3.out.2.2.1 w3 hb3) hb3
      clear hw3 hN3 hb3
      go_wp2_with fail
      refine Calls.mono H4.out.1 ?_
      rintro e w4 ⟨rfl, hb4⟩
      have hb24 : Below w2.heap.size w2 w4 := H4.out.2.trans (hb4.mono H4.out.2.size)
      have h14 := trow_at (w' := w4) H3.out.2.2.2.2 fun i hi => hb24.block i (H3.out.2.2.2.2.lt i hi).2
      have h24 := trow_at (w' := w4) H3.out.1 fun i hi => hb24.block i (H3.out.1.lt i hi).2
      have hSm := same_any v1 v2 zs w4 (by omega) (has_of_own h14) (has_of_own h24)
      have H5 : Hid _ := And.intro hSm (And.intro h14 (And.intro h24 (H3.out.2.2.2.1.below hb24)))
      have hsz14 : wr.heap.size ≤ w1.heap.size ∧ w1.heap.size ≤ w2.heap.size ∧ w2.heap.size ≤ w4.heap.size := ⟨H2.out.2.1.size, H3.out.2.1.size, hb24.size⟩
      clear hSm h14 h24 hb24 hb4 e0 e1 e2 e3 H4
      go_wp2_with fail
      refine Calls.mono H5.out.1 ?_
      rintro e w5 ⟨rfl, hb5⟩
      have h15 := trow_at (w' := w5) H5.out.2.1 fun i hi => hb5.block i (H5.out.2.1.lt i hi).2
      have h25 := trow_at (w' := w5) H5.out.2.2.1 fun i hi => hb5.block i (H5.out.2.2.1.lt i hi).2
      have hTk := (H5.out.2.2.2.below hb5).tokens v1 (zs.map zE) wr.heap.size (own_zs h15) H1.out.2.bw.size (fun b hb hp => by have := (h15.lt b hb).1; omega) (by rw [List.length_map]; omega)
      have H6 : Hid _ := And.intro hTk (And.intro h15 (And.intro h25 hb5.size))
      clear hTk h15 h25 hb5 H5 H3
      go_wp2_with fail
      refine Calls.mono H6.out.1 ?_
      rintro e w6 ⟨rfl, hW6, hF6⟩
      have h16 := hF6.toks H6.out.2.1
      have h26 := hF6.toks H6.out.2.2.1
      have hLn := lines_own h16 hzl
      have H7 : Hid _ := And.intro hLn (And.intro (hW6.mono (P' := fun b => b < w6.heap.size) (Q' := fun b => b < w6.heap.size) (fun b hb _ => hb) (fun b hb _ => hb)) h26)
      have hsz6 : w4.heap.size ≤ w6.heap.size := by have := H6.out.2.2.2; have := hF6.1; omega
      clear hW6 hF6 h16 h26 hLn H6 H2
      go_wp2_with fail
      refine Calls.mono H7.out.1 ?_
      rintro e w7 ⟨u7, rfl, hR7, hb7⟩
      have hW7 := H7.out.2.1.more hb7 (Y := fun b => u7.ownBlock = some b) (fun b hb => by
        obtain ⟨us, h1, _⟩ := hR7
        exact h1.lt b hb)
      have hD1 := linesF_le zs []
      have hLi := line_any hW7 u7 (linesF [] zs) w6.heap.size hR7 (by have := H7.out.2.1.bw.size; omega) (fun b hb => hb) (fun b hb => hb) (fun b hb => .inr hb) (by omega) (fun r hr => by have := linesF_rows' zs [] r hr; simp at this; omega)
      have h27 := trow_at (w' := w7) H7.out.2.2 fun i hi => hb7.block i (H7.out.2.2.lt i hi).2
      have H8 : Hid _ := And.intro hLi (And.intro h27 hb7.size)
      clear hW7 hD1 hLi h27 hR7 hb7 H7
      go_wp2_with fail
      refine Calls.mono H8.out.1 ?_
      rintro e w8 ⟨rfl, ⟨Y8, hW8⟩, hF8⟩
      have h28 := hF8.toks H8.out.2.1
      have hLn := lines_own h28 hzl
      have H9 : Hid _ := And.intro hLn hW8
      clear hW8 hF8 h28 hLn H8
      go_wp2_with fail
      refine Calls.mono H9.out.1 ?_
      rintro e w9 ⟨u9, rfl, hR9, hb9⟩
      have hW9 := H9.out.2.more hb9 (Y := fun b => u9.ownBlock = some b) (fun b hb => by
        obtain ⟨us, h1, _⟩ := hR9
        exact h1.lt b hb)
      have hD1 := linesF_le zs []
      have hLi := line_any hW9 u9 (linesF [] zs) w8.heap.size hR9 (by have := H9.out.2.bw.size; omega) (fun b hb => hb) (fun b hb => hb) (fun b hb => .inr hb) (by omega) (fun r hr => by have := linesF_rows' zs [] r hr; simp at this; omega)
      have H10 : Hid _ := hLi
      clear hW9 hD1 hLi hR9 hb9 H9
      go_wp2_with fail
      refine Calls.mono H10.out ?_
      rintro e w10 ⟨rfl, ⟨Y10, hW10⟩, hF10⟩
      have H11 : Hid _ := hW10
      clear hW10 hF10 H10
      go_wp2_with fail
      go_roundg (2 * n - (k + 1))
      case measure => omega
      case rel => exact ⟨k + 1, _, rfl, by omega, by go_num, H11.out⟩
    · obtain rfl : k = 2 * n := by omega
      have q1 : ¬ ((2 * n : Nat) : Int) < 2 * (n : Int) := by omega
      have H1 : Hid _ := hW.apart
      clear hW
      go_wp2_with fail
      refine Calls.mono H1.out ?_
      rintro r w1 ⟨rfl, hb1⟩
      have H2 : Hid _ := HB.out.trans (hb1.mono HB.out.size)
      clear hb1 H1
      go_wp2_with fail
      go_ret
      exact ⟨rfl, H2.out⟩
theorem lawLexAll_any (v : Value) (ss : List ByteArray) (aA aL aI aW : Addr) (w : World) (hH : HasS w v ss) (hE : Errs w aA aL aI aW) :
    Calls Tryz.prog 3 #[v] w fun r w' => r = .returned (.bool true) ∧ Below w.heap.size w w' := by
  by_cases hn : ss.length ≤ 30
  · exact lawLexAll_short v ss aA aL aI aW w hH hn hE
  · obtain ⟨ao, cap, rfl, _⟩ := hH.form
    exact lawLexAll_long ao ss.length cap aA aL aI aW w (by omega) hE
end Go.Proofs.YthcboklkejlifaaGreatDoor
