/- The statement LexisPlaces on a text that is scanned: it returns true. -/
import Derived.Test.YtpefldpmdhajfaaDoorPlaces0
import Derived.Test.YtpefldpmdhajfaaDoorHasOf
import Derived.Test.YtpefldpmdhajfaaDoorLong
namespace Go.Proofs.YtpefldpmdhajfaaDoor
open Go.RowKit
theorem cast_nil (w : World) : (Instr.typeAssert .nilIface 29 32 true).run Tryd.prog w = .ok (.tuple #[.pointer none, .bool false]) w := by kernel_rfl
theorem up_toZ (ts : List Tok) (k : Nat) (t : Tok) (h : ts[k]? = some t) : ((ts.map up).map toZ)[k]? = some ⟨t.kind, t.text, (t.line : Int) + 1, t.col⟩ := by
  rw [List.getElem?_map, List.getElem?_map, h]
  simp [toZ, up]
theorem toZ_at (ts : List Tok) (k : Nat) (t : Tok) (h : ts[k]? = some t) : (ts.map toZ)[k]? = some ⟨t.kind, t.text, t.line, t.col⟩ := by
  rw [List.getElem?_map, h]; rfl
theorem has_form {w : World} {v : Value} {zs : List ZTok} (h : Has w v zs) : ∃ ao b o cap, v = .slice ao zs.length cap ∧ (0 < zs.length → ao = some ⟨b, o, none⟩) ∧ ∀ k z, zs[k]? = some z →
    w.cell? ⟨b, o + k * 4, none⟩ = some (.int .i64 z.kind) ∧ w.cell? ⟨b, o + k * 4 + 1, none⟩ = some (.string z.text) ∧ w.cell? ⟨b, o + k * 4 + 2, none⟩ = some (.int .i64 z.line) ∧ w.cell? ⟨b, o + k * 4 + 3, none⟩ = some (.int .i64 z.col) := h
theorem text_size (s : ByteArray) (p e : Nat) (h1 : p ≤ e) (h2 : e ≤ s.size) : (s.extract p e).size = e - p := by rw [ByteArray.size_extract]; omega
/-- What the loop knows of a word. -/
structure WordAt (s : ByteArray) (t : Tok) (f p : Nat) : Prop where
  beg : Begins s.data.toList f
  line : nls s.data.toList f + 1 = t.line
  le : f ≤ p
  sz : p ≤ s.size
  col : t.col = p - f + 1
  txt : t.kind = 1 ∨ (t.kind ≠ 1 ∧ p + t.text.size ≤ s.size ∧ s.extract p (p + t.text.size) = t.text)
theorem word_at {s : ByteArray} {t : Tok} (h : Stands s t) : ∃ f p, WordAt s t f p := by
  obtain ⟨f, p, h1, h2, h3, h4, h5, h6⟩ := h
  refine ⟨f, p, h1, h2, h3, h4, h5, ?_⟩
  rcases h6 with h | ⟨e, h, he1, he2, ht⟩
  · exact .inl h
  · have hs := text_size s p e he1 he2
    rw [← ht] at hs
    refine .inr ⟨h, by omega, ?_⟩
    rw [hs, show p + (e - p) = e by omega, ht]
theorem nls_le (l : List UInt8) (p : Nat) : nls l p ≤ p := by
  unfold nls
  exact Nat.le_trans List.countP_le_length (by simp; omega)
theorem begins_le {l : List UInt8} {r f : Nat} (hb : Begins l r) (h : nls l r ≤ nls l f) : r ≤ f := by
  rcases Nat.lt_or_ge f r with h1 | h1
  · have := begins_nls hb h1; omega
  · exact h1
set_option maxRecDepth 100000 in
set_option maxHeartbeats 4000000 in
theorem places_ok (s : ByteArray) (ts : List Tok) (aA aL aI aW : Addr) (w : World) (hs : s.size ≤ 60000) (hE : Errs w aA aL aI aW) (hn : scanF s (s.size + 1) 0 1 0 [] = .inl ts) :
    Calls Tryd.prog 4 #[.string s] w fun e w' => e = .returned (.bool true) ∧ Below w.heap.size w w' := by
  have hA := scan_any s _ _ _ _ w (by omega) hE.2.1.1 hE.2.2.2.1.1
  have hB := fun W (hE : Errs W aA aL aI aW) => scan_any (aheadB ++ s) _ _ _ _ W (by rw [ahead_size]; omega) hE.2.1.1 hE.2.2.2.1.1
  obtain ⟨lm, hst⟩ := scan_stand_all s ts hn
  simp only [scan_ahead_all, hn, upR] at hB
  rw [hn] at hA
  have HE : Hid (Errs w aA aL aI aW) := hE
  have HS : Hid ((∀ t ∈ ts, ∃ f p, WordAt s t f p) ∧ ts.Pairwise (fun a b => a.line ≤ b.line)) := ⟨fun t ht => word_at (hst.1 t ht).1, hst.2⟩
  clear hE hn hst
  have h6 : ¬ (60000 : Int) < (s.size : Int) := by omega
  have y := cast_nil
  go_enter Tryd.func4, Tryd.ntmps4
  go_wp2_with fail
  refine hA.mono ?_
  rintro e w1 ⟨⟨v, rfl, hown, hlen⟩, hb1⟩
  have HB1 : Hid (Errs w1 aA aL aI aW ∧ Below w.heap.size w w1 ∧ Has w1 v (ts.map toZ) ∧ ts.length ≤ 2 * s.size + 1) := ⟨HE.out.below hb1, hb1, has_of_owns hown, hlen⟩
  clear hb1 hA hown hlen HE
  go_wp2_with fail
  refine (hB w1 HB1.out.1).mono ?_
  rintro e w2 ⟨⟨v2, rfl, hown2, _⟩, hb2⟩
  have HB2 : Hid (Errs w2 aA aL aI aW ∧ Below w.heap.size w w2 ∧ Has w2 v (ts.map toZ) ∧ Has w2 v2 ((ts.map up).map toZ) ∧ ts.length ≤ 2 * s.size + 1) := ⟨HB1.out.1.below hb2, HB1.out.2.1.trans (hb2.mono HB1.out.2.1.size), HB1.out.2.2.1.below hb2, has_of_owns hown2, HB1.out.2.2.2⟩
  clear hb2 hB hown2 HB1
  obtain ⟨ao, b, o, cap, hv, ha, hc⟩ := has_form HB2.out.2.2.1
  obtain ⟨ao', b', o', cap', hv', ha', hc'⟩ := has_form HB2.out.2.2.2.1
  simp only [List.length_map] at hv hv' ha ha'
  obtain ⟨n, hN⟩ : ∃ n, n = ts.length := ⟨_, rfl⟩
  rw [← hN] at hv hv' ha ha'
  have hn9 : n ≤ 120001 := by have := HB2.out.2.2.2.2; omega
  subst hv
  subst hv'
  have HC : Hid ((0 < n → ao = some ⟨b, o, none⟩) ∧ (0 < n → ao' = some ⟨b', o', none⟩) ∧ n = ts.length ∧ (∀ k z, (ts.map toZ)[k]? = some z → w2.cell? ⟨b, o + k * 4, none⟩ = some (.int .i64 z.kind) ∧ w2.cell? ⟨b, o + k * 4 + 1, none⟩ = some (.string z.text) ∧ w2.cell? ⟨b, o + k * 4 + 2, none⟩ = some (.int .i64 z.line) ∧ w2.cell? ⟨b, o + k * 4 + 3, none⟩ = some (.int .i64 z.col)) ∧
      (∀ k z, ((ts.map up).map toZ)[k]? = some z → w2.cell? ⟨b', o' + k * 4, none⟩ = some (.int .i64 z.kind) ∧ w2.cell? ⟨b', o' + k * 4 + 1, none⟩ = some (.string z.text) ∧ w2.cell? ⟨b', o' + k * 4 + 2, none⟩ = some (.int .i64 z.line) ∧ w2.cell? ⟨b', o' + k * 4 + 3, none⟩ = some (.int .i64 z.col))) := ⟨ha, ha', hN, hc, hc'⟩
  clear ha ha' hN hc hc'
  have q : ((n : Int) != (n : Int)) = false := by simp
  go_wp2_with fail
  go_loopg [11, 12, 13] n (fun g fv lv i wr => ∃ (j fr q : Nat), g = n - j ∧ j ≤ n ∧ i = .int .i64 j ∧ fv = .int .i64 fr ∧ lv = .int .i64 ((nls s.data.toList fr + 1 : Nat) : Int) ∧ Begins s.data.toList fr ∧ (∀ (k : Nat) (t : Tok), j ≤ k → ts[k]? = some t → nls s.data.toList fr + 1 ≤ t.line) ∧ wr = w2.drewN q)
  case atStart => exact ⟨0, 0, 0, rfl, Nat.zero_le _, rfl, rfl, by rw [nls_zero]; rfl, .inl rfl, fun k t _ hk => by
    obtain ⟨f, p, hw⟩ := HS.out.1 t (List.mem_of_getElem? hk)
    rw [nls_zero, ← hw.line]; omega, rfl⟩
  case round =>
    obtain ⟨j, fr, q', rfl, hj, rfl, rfl, rfl, hbg, hln, rfl⟩ := hrel
    have HR : Hid (Begins s.data.toList fr ∧ (∀ (k : Nat) (t : Tok), j ≤ k → ts[k]? = some t → nls s.data.toList fr + 1 ≤ t.line)) := ⟨hbg, hln⟩
    clear hbg hln
    by_cases hlt : j < n
    · obtain ⟨t, ht⟩ : ∃ t, ts[j]? = some t := ⟨ts[j]'(by have := HC.out.2.2.1; omega), List.getElem?_eq_getElem _⟩
      obtain ⟨f, p, hw⟩ := HS.out.1 t (List.mem_of_getElem? ht)
      obtain ⟨c0, c1, c2, c3⟩ := HC.out.2.2.2.1 j _ (toZ_at ts j t ht)
      obtain ⟨d0, d1, d2, d3⟩ := HC.out.2.2.2.2 j _ (up_toZ ts j t ht)
      obtain rfl := HC.out.1 (by omega)
      obtain rfl := HC.out.2.1 (by omega)
      have HT : Hid (ts[j]? = some t ∧ WordAt s t f p) := ⟨ht, hw⟩
      have hfr : fr ≤ f := begins_le HR.out.1 (by have h1 := HR.out.2 j t (Nat.le_refl _) ht; have h2 := hw.line; omega)
      have hfp := hw.le
      have hps := hw.sz
      have hcl := hw.col
      have hll := hw.line
      have hlf := nls_le s.data.toList f
      clear ht hw
      obtain ⟨K, T, Ln, C⟩ := t
      simp only at hcl hll c0 c1 c2 c3 d0 d1 d2 d3
      have q0 : (0 : Int) ≤ (j : Int) := by omega
      have q1 : (j : Int) < (n : Int) := by omega
      have hLn : Ln ≤ 60001 := by omega
      have hC9 : C ≤ 60001 := by omega
      have HQ : Hid (nls s.data.toList f + 1 = Ln ∧ C = p - f + 1) := ⟨hll, hcl⟩
      clear hcl hll
      go_wp2_with fail
      go_loopg [11, 12] (s.size + 1 - fr) (fun g fv lv wr => ∃ r : Nat, g = s.size + 1 - r ∧ r ≤ f ∧ fv = .int .i64 r ∧ lv = .int .i64 ((nls s.data.toList r + 1 : Nat) : Int) ∧ wr = w2.drewN q')
      case atStart => exact ⟨fr, rfl, hfr, rfl, rfl, rfl⟩
      case round =>
        obtain ⟨r, rfl, hr, rfl, rfl, rfl⟩ := hrel
        have hlr := nls_mono s.data.toList r f hr
        by_cases hlt2 : nls s.data.toList r + 1 < Ln
        · have hrf : r < f := by
            rcases Nat.lt_or_ge r f with h | h
            · exact h
            · obtain rfl : r = f := by omega
              have := HQ.out.1; omega
          have hrs : r < s.size := by omega
          have hb := byte_range s r hrs
          have e0 : decide (((nls s.data.toList r + 1 : Nat) : Int) < (Ln : Int)) = true := by simp; omega
          have e00 : decide ((nls s.data.toList r : Int) + 1 < (Ln : Int)) = true := by simp; omega
          have e2 : (r : Int) < (s.size : Int) := by omega
          have e3 : (0 : Int) ≤ (r : Int) := by omega
          have hns := nls_succ s.data.toList r (by simpa using hrs)
          rw [list_at s r hrs] at hns
          have hnr := nls_le s.data.toList r
          by_cases h10 : s[r].toNat = 10
          · have e1 : ((s[r].toNat : Int) == 10) = true := by rw [h10]; rfl
            rw [if_pos h10] at hns
            have HN : Hid (nls s.data.toList (r + 1) = nls s.data.toList r + 1) := hns
            clear hns h10
            generalize nls s.data.toList r = m at *
            go_wp2_with fail
            go_roundg (s.size + 1 - (r + 1))
            case measure => omega
            case rel => exact ⟨r + 1, rfl, by omega, by go_num, by rw [HN.out]; go_num, rfl⟩
          · have e1 : ((s[r].toNat : Int) == 10) = false := by simp; omega
            rw [if_neg h10] at hns
            have HN : Hid (nls s.data.toList (r + 1) = nls s.data.toList r) := hns
            clear hns h10
            generalize nls s.data.toList r = m at *
            go_wp2_with fail
            go_roundg (s.size + 1 - (r + 1))
            case measure => omega
            case rel => exact ⟨r + 1, rfl, by omega, by go_num, by rw [HN.out], rfl⟩
        · obtain rfl : r = f := by
            rcases Nat.lt_or_ge r f with h | h
            · have h1 := begins_nls HT.out.2.beg h
              have := HQ.out.1; omega
            · omega
          rw [HQ.out.1]
          have e0 : decide ((Ln : Int) < (Ln : Int)) = false := by simp
          have e4 : (r : Int) + (C : Int) - 1 = (p : Int) := by have := HQ.out.2; omega
          have e5 : decide ((p : Int) < 0) = false := by simp
          have e6 : ((Ln : Int) + 1 != (Ln : Int) + 1) = false := by simp
          have e7 : ((C : Int) != (C : Int)) = false := by simp
          have e8 : ((Ln : Int) != (Ln : Int)) = false := by simp
          have HNX : Hid (Begins s.data.toList r ∧ (∀ (k : Nat) (t : Tok), j + 1 ≤ k → ts[k]? = some t → nls s.data.toList r + 1 ≤ t.line)) := ⟨HT.out.2.beg, fun k t hk htk => by
            rw [HQ.out.1]
            obtain ⟨hj', ej⟩ := List.getElem?_eq_some_iff.1 HT.out.1
            obtain ⟨hk', ek⟩ := List.getElem?_eq_some_iff.1 htk
            have h1 := List.pairwise_iff_getElem.1 HS.out.2 j k hj' hk' (by omega)
            rw [ej, ek] at h1
            exact h1⟩
          clear hlt2 hlr
          by_cases hK : K = 1
          · have e9 : ((K : Int) == 1) = true := by rw [hK]; rfl
            clear hK
            go_wp2_with fail
            go_quiet (fail)
            go_wp2
            go_roundg (n - (j + 1))
            case measure => omega
            case rel => exact ⟨j + 1, r, _, rfl, by omega, by go_num, rfl, by rw [HQ.out.1], HNX.out.1, HNX.out.2, by first | rfl | exact World.drewN_drewN _ _ _⟩
          · have e9 : ((K : Int) == 1) = false := by simp; omega
            obtain ⟨_, hT1, hT2⟩ := HT.out.2.txt.resolve_left hK
            simp only at hT1 hT2
            have f1 : decide ((s.size : Int) < (p : Int) + (T.size : Int)) = false := by simp; omega
            have f2 : (0 : Int) ≤ (p : Int) := by omega
            have f3 : (p : Int) ≤ (p : Int) + (T.size : Int) := by omega
            have f4 : (p : Int) + (T.size : Int) ≤ (s.size : Int) := by omega
            clear hK
            go_wp2_with fail
            go_quiet (fail)
            go_wp2_with fail
            go_quiet (fail)
            go_wp2
            go_roundg (n - (j + 1))
            case measure => omega
            case rel => exact ⟨j + 1, r, _, rfl, by omega, by go_num, rfl, by rw [HQ.out.1], HNX.out.1, HNX.out.2, by first | rfl | (rw [World.drewN_drewN]; exact World.drewN_drewN _ _ _) | exact World.drewN_drewN _ _ _⟩
    · have q1 : ¬ (j : Int) < (n : Int) := by omega
      go_wp2_with fail
      refine (alive_any _ _ _ _ _ (show (w2.drewN q').cell? ⟨0, 0, none⟩ = _ from HB2.out.1.2.1.1) (show (w2.drewN q').cell? ⟨1, 0, none⟩ = _ from HB2.out.1.2.2.2.1.1)).mono ?_
      rintro e w9 ⟨rfl, hb9⟩
      have HB9 : Hid (Below w.heap.size w w9) := (below_drewN HB2.out.2.1 q').trans (hb9.mono (below_drewN HB2.out.2.1 q').size)
      clear hb9
      go_wp2_with fail
      go_ret
      exact ⟨rfl, HB9.out⟩
end Go.Proofs.YtpefldpmdhajfaaDoor
