/- The statement LexisBlanks as a call: on any text it returns true, and nothing that was there has turned. -/
import Derived.Test.YtebeimjgppidcaaDoorBlanks0
import Derived.Test.YtebeimjgppidcaaDoorLike
import Derived.Test.YtebeimjgppidcaaDoorHasOf
import Derived.Test.YtebeimjgppidcaaDoorLong
namespace Go.Proofs.YtebeimjgppidcaaDoor
open Go.RowKit
theorem like_toZ {us ts : List Tok} (h : like us ts) : (us.map toZ).length = (ts.map toZ).length ∧ ∀ (k : Nat) (z y : ZTok), (ts.map toZ)[k]? = some z → (us.map toZ)[k]? = some y → y.kind = z.kind ∧ y.text = z.text := by
  unfold like at h
  refine ⟨by have := congrArg List.length h; simpa using this, fun k z y hz hy => ?_⟩
  rw [List.getElem?_map] at hz hy
  have h1 := congrArg (fun l => l[k]?) h
  simp only [List.getElem?_map] at h1
  cases e1 : ts[k]? with
  | none => rw [e1] at hz; simp at hz
  | some t =>
    cases e2 : us[k]? with
    | none => rw [e2] at hy; simp at hy
    | some u =>
      rw [e1] at hz h1
      rw [e2] at hy h1
      simp at hz hy h1
      subst hz
      subst hy
      simp [toZ, h1]
theorem wordsB_snoc (ts : List Tok) (j : Nat) (t : Tok) (h : ts[j]? = some t) : wordsB (ts.take (j + 1)) = wordsB (ts.take j) ++ wordB t := by
  rw [List.take_add_one, h]
  simp [wordsB]
theorem wordsB_take (ts : List Tok) (j : Nat) : (wordsB (ts.take j)).length ≤ (wordsB ts).length := by
  have h : wordsB ts = wordsB (ts.take j) ++ wordsB (ts.drop j) := by
    unfold wordsB
    rw [← List.flatten_append, ← List.map_append, List.take_append_drop]
  rw [h, List.length_append]; omega
theorem wsum_mem : ∀ (ts : List Tok) (t : Tok), t ∈ ts → t.kind ≠ 1 → t.text.size ≤ wsum ts
  | [], _, h, _ => by simp at h
  | x :: r, t, h, hk => by
    rcases List.mem_cons.1 h with rfl | h
    · simp only [wsum, if_neg hk]; omega
    · have := wsum_mem r t h hk
      simp only [wsum]; omega
/-- The two errors of lexis' faults lie in memory. -/
def Two (w : World) (aL aW : Addr) : Prop := Sent w 0 aL ∧ Sent w 1 aW
theorem Two.below {w w1 : World} {aL aW : Addr} (h : Two w aL aW) (hb : Below w.heap.size w w1) : Two w1 aL aW := ⟨h.1.below hb, h.2.below hb⟩
theorem alive_two (aL aW : Addr) (w : World) (hE : Two w aL aW) : Calls Tryd.prog 10 #[] w fun e w' => e = .returned (.bool true) ∧ Below w.heap.size w w' :=
  alive_any _ _ _ _ w hE.1.1 hE.2.1
theorem size_list (x : ByteArray) : x.size = x.data.toList.length := by simp
set_option maxRecDepth 100000 in
set_option maxHeartbeats 2000000 in
theorem blanks_ok (s : ByteArray) (ts : List Tok) (aL aW : Addr) (w : World) (hs : s.size ≤ 4000) (hE : Two w aL aW) (hn : scanF s (s.size + 1) 0 1 0 [] = .inl ts) :
    Calls Tryd.prog 6 #[.string s] w fun e w' => e = .returned (.bool true) ∧ Below w.heap.size w w' := by
  have hA := scan_any s _ _ _ _ w (by omega) hE.1.1 hE.2.1
  obtain ⟨hok, hsum⟩ := scan_ok s ts hn
  rw [hn] at hA
  have HE : Hid (Two w aL aW) := hE
  have HK : Hid (okR false ts false ∧ wsum ts ≤ s.size) := ⟨hok, hsum⟩
  have HZ : Hid ((wordsB ts).length ≤ 48000) := (by have := wordsB_len ts _ _ hok; simp at this; omega : (wordsB ts).length ≤ 48000)
  clear hE hn hok hsum
  have h4 : ¬ (4000 : Int) < (s.size : Int) := by omega
  go_enter Tryd.func6, Tryd.ntmps6
  go_wp2_with fail
  refine hA.mono ?_
  rintro e w1 ⟨⟨v, rfl, hown, hlen⟩, hb1⟩
  have HB1 : Hid (Two w1 aL aW ∧ Below w.heap.size w w1 ∧ Has w1 v (ts.map toZ) ∧ ts.length ≤ 2 * s.size + 1) := ⟨HE.out.below hb1, hb1, has_of_owns hown, hlen⟩
  clear hb1 hA hown hlen HE
  obtain ⟨ao, b, o, cap, hv, ha, hc⟩ := HB1.out.2.2.1
  rw [List.length_map] at hv ha
  obtain ⟨n, hN⟩ : ∃ n, n = ts.length := ⟨_, rfl⟩
  rw [← hN] at hv ha
  have hn9 : n ≤ 8001 := by have := HB1.out.2.2.2; omega
  have HC : Hid ((0 < n → ao = some ⟨b, o, none⟩) ∧ n = ts.length ∧ v = .slice ao n cap ∧ (∀ k z, (ts.map toZ)[k]? = some z → w1.cell? ⟨b, o + k * 4, none⟩ = some (.int .i64 z.kind) ∧ w1.cell? ⟨b, o + k * 4 + 1, none⟩ = some (.string z.text) ∧ w1.cell? ⟨b, o + k * 4 + 2, none⟩ = some (.int .i64 z.line) ∧ w1.cell? ⟨b, o + k * 4 + 3, none⟩ = some (.int .i64 z.col))) := ⟨ha, hN, hv, hc⟩
  subst hv
  clear ha hN hc
  go_wp2_with fail
  go_loopg [5, 6] n (fun g sv i wr => ∃ (j : Nat) (x : ByteArray), g = n - j ∧ j ≤ n ∧ i = .int .i64 j ∧ sv = .string x ∧ x.data.toList = blankHead ++ wordsB (ts.take j) ∧ w1 = wr)
  case atStart => exact ⟨0, _, rfl, Nat.zero_le _, rfl, rfl, rfl, rfl⟩
  case round =>
    obtain ⟨j, x, rfl, hj, rfl, rfl, hx, rfl⟩ := hrel
    have hxs : x.size ≤ 48009 := by
      rw [size_list, hx, List.length_append]
      have := wordsB_take ts j
      have := HZ.out
      simp only [blankHead, List.length_cons, List.length_nil]; omega
    have HX : Hid (x.data.toList = blankHead ++ wordsB (ts.take j)) := hx
    clear hx
    by_cases hlt : j < n
    · have hjt : j < ts.length := by have := HC.out.2.1; omega
      have ht : ts[j]? = some ts[j] := List.getElem?_eq_getElem hjt
      obtain ⟨c0, c1, c2, c3⟩ := HC.out.2.2.2 j (toZ ts[j]) (by rw [List.getElem?_map, ht]; rfl)
      obtain rfl := HC.out.1 (by omega)
      have HS := wordsB_snoc ts j _ ht
      have HM := wsum_mem ts ts[j] (List.getElem_mem hjt)
      simp only [toZ] at c0 c1
      generalize ts[j] = t at *
      have q0 : (0 : Int) ≤ (j : Int) := by omega
      have q1 : (j : Int) < (n : Int) := by omega
      have HS' : Hid (wordsB (ts.take (j + 1)) = wordsB (ts.take j) ++ wordB t) := HS
      clear HS ht
      by_cases hk : t.kind = 1
      · have q2 : ((t.kind : Int) == 1) = true := by rw [hk]; rfl
        have HK1 : Hid (t.kind = 1) := hk
        clear hk HM
        go_wp2
        go_roundg (n - (j + 1))
        case measure => omega
        case rel => exact ⟨j + 1, _, rfl, by omega, by go_num, rfl, by rw [HS'.out, ← List.append_assoc, ← HX.out]; simp [wordB, HK1.out], rfl⟩
      · have hts : t.text.size ≤ 4000 := by have := HM hk; have := HK.out.2; omega
        have q2 : ((t.kind : Int) == 1) = false := by simp; omega
        have HK1 : Hid (t.kind ≠ 1) := hk
        clear hk HM
        go_wp2
        go_roundg (n - (j + 1))
        case measure => omega
        case rel => exact ⟨j + 1, _, rfl, by omega, by go_num, rfl, by rw [HS'.out, ← List.append_assoc, ← HX.out]; simp [wordB, HK1.out], rfl⟩
    · have q1 : ¬ (j : Int) < (n : Int) := by omega
      have hje : ts.take j = ts := List.take_of_length_le (by have := HC.out.2.1; omega)
      have HX2 : x.data.toList = blankHead ++ wordsB ts := by rw [HX.out, hje]
      obtain ⟨us, hu, hlk⟩ := blanks_all x ts HK.out.1 HX2
      have hA2 := scan_any x _ _ _ _ w1 (by omega) HB1.out.1.1.1 HB1.out.1.2.1
      rw [hu] at hA2
      have HL : Hid (like us ts) := hlk
      clear hu hlk HX2 hje HX
      go_wp2_with fail
      refine hA2.mono ?_
      rintro e w2 ⟨⟨v2, rfl, hown2, hlen2⟩, hb2⟩
      have HB2 : Hid (Two w2 aL aW ∧ Below w.heap.size w w2 ∧ Has w2 (.slice ao n cap) (ts.map toZ) ∧ Has w2 v2 (us.map toZ)) := ⟨HB1.out.1.below hb2, HB1.out.2.1.trans (hb2.mono HB1.out.2.1.size), HB1.out.2.2.1.below hb2, has_of_owns hown2⟩
      clear hA2 hown2 hlen2 hb2
      go_wp2_with fail
      refine (alive_two aL aW _ HB2.out.1).mono ?_
      rintro e w3 ⟨rfl, hb3⟩
      have HB3 : Hid (Below w.heap.size w w3 ∧ Has w3 (.slice ao n cap) (ts.map toZ) ∧ Has w3 v2 (us.map toZ)) := ⟨HB2.out.2.1.trans (hb3.mono HB2.out.2.1.size), HB2.out.2.2.1.below hb3, HB2.out.2.2.2.below hb3⟩
      clear hb3
      go_wp2_with fail
      have hS := like_any (.slice ao n cap) v2 (ts.map toZ) (us.map toZ) w3 (by rw [List.length_map]; have := HC.out.2.1; omega) HB3.out.2.1 HB3.out.2.2 (like_toZ HL.out).1 (like_toZ HL.out).2
      refine hS.mono ?_
      clear hS
      rintro e w5 ⟨rfl, hb5⟩
      have HB5 : Hid (Below w.heap.size w w5) := HB3.out.1.trans (hb5.mono HB3.out.1.size)
      clear hb5
      go_wp2_with fail
      go_ret
      exact ⟨rfl, HB5.out⟩
set_option maxRecDepth 100000 in
set_option maxHeartbeats 2000000 in
theorem blanks_other (s : ByteArray) (aL aW : Addr) (w : World) (hm : s.size ≤ maxLen) (hE : Two w aL aW) (h : 4000 < s.size ∨ ∀ ts, scanF s (s.size + 1) 0 1 0 [] ≠ .inl ts) :
    Calls Tryd.prog 6 #[.string s] w fun e w' => e = .returned (.bool true) ∧ Below w.heap.size w w' := by
  have hA : Calls Tryd.prog 8 #[.string s] w fun e w' => Below w.heap.size w w' ∧ ((∃ v, e = .returned (.tuple #[v, .nilIface]) ∧ 4000 < s.size) ∨ ∃ b, e = .returned (.tuple #[.slice none 0 0, .iface 46 (.pointer (some ⟨b, 0, none⟩))])) := by
    by_cases hs : s.size ≤ 65536
    · refine (scan_any s _ _ _ _ w hs hE.1.1 hE.2.1).mono ?_
      rintro e w' ⟨hout, hb⟩
      refine ⟨hb, ?_⟩
      generalize hR : scanF s (s.size + 1) 0 1 0 [] = R at hout
      rcases R with ts | ⟨k, l, c⟩
      · obtain ⟨v, rfl, _⟩ := hout
        exact .inl ⟨v, rfl, h.resolve_right fun h2 => h2 ts hR⟩
      · obtain ⟨b, rfl, _⟩ := hout
        exact .inr ⟨b, rfl⟩
    · refine (scan_long s _ _ w (by omega) hm hE.1.1).mono ?_
      rintro e w' ⟨b, rfl, _, _, hb⟩
      exact ⟨hb, .inr ⟨b, rfl⟩⟩
  have HE : Hid (Two w aL aW) := hE
  unfold maxLen at hm
  clear hE h
  go_enter Tryd.func6, Tryd.ntmps6
  go_wp2_with fail
  refine hA.mono ?_
  rintro e w1 ⟨hb1, ⟨v, rfl, h4⟩ | ⟨b, rfl⟩⟩
  · have HB1 : Hid (Two w1 aL aW ∧ Below w.heap.size w w1) := ⟨HE.out.below hb1, hb1⟩
    clear hb1 hA HE
    have h5 : (4000 : Int) < (s.size : Int) := by omega
    go_wp2_with fail
    refine (alive_two aL aW _ HB1.out.1).mono ?_
    rintro e w2 ⟨rfl, hb2⟩
    have HB2 : Hid (Below w.heap.size w w2) := HB1.out.2.trans (hb2.mono HB1.out.2.size)
    clear hb2
    go_wp2_with fail
    go_ret
    exact ⟨rfl, HB2.out⟩
  · have HB1 : Hid (Two w1 aL aW ∧ Below w.heap.size w w1) := ⟨HE.out.below hb1, hb1⟩
    clear hb1 hA HE
    go_wp2_with fail
    refine (alive_two aL aW _ HB1.out.1).mono ?_
    rintro e w2 ⟨rfl, hb2⟩
    have HB2 : Hid (Below w.heap.size w w2) := HB1.out.2.trans (hb2.mono HB1.out.2.size)
    clear hb2
    go_wp2_with fail
    go_ret
    exact ⟨rfl, HB2.out⟩
theorem lawBlanks_any (s : ByteArray) (aL aW : Addr) (w : World) (hm : s.size ≤ maxLen) (hE : Two w aL aW) :
    Calls Tryd.prog 6 #[.string s] w fun e w' => e = .returned (.bool true) ∧ Below w.heap.size w w' := by
  by_cases hs : s.size ≤ 4000
  · cases hn : scanF s (s.size + 1) 0 1 0 [] with
    | inl ts => exact blanks_ok s ts aL aW w hs hE hn
    | inr x => exact blanks_other s aL aW w hm hE (.inr fun ts h => by rw [hn] at h; cases h)
  · exact blanks_other s aL aW w hm hE (.inl (by omega))
end Go.Proofs.YtebeimjgppidcaaDoor
