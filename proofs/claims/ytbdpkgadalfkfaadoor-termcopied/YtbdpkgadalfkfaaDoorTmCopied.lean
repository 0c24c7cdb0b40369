/- The statement TermCopied as a call: on any list it returns true, and nothing that was there has turned. -/
import Derived.Test.YtbdpkgadalfkfaaDoorTmSameS
import Derived.Test.YtbdpkgadalfkfaaDoorTmBack0
namespace Go.Proofs.YtbdpkgadalfkfaaDoor
open Go.RowKit Go.Maps
/-- Two stores of the call's own, apart from each other. -/
structure Two3 (w0 w : World) (b b2 : Nat) (L M : List Tm) (F G : Nat → Prop) : Prop where
  s : StoB w b L F
  o : StoB w b2 M G
  us : ∀ i, F i → w0.heap.size ≤ i
  uo : ∀ i, G i → w0.heap.size ≤ i
  ap : ∀ i, F i → ¬ G i
  good : Tm.Good L
  bl : Below w0.heap.size w0 w
theorem Two3.below {w0 w w' : World} {b b2 : Nat} {L M : List Tm} {F G : Nat → Prop} (h : Two3 w0 w b b2 L M F G) (hb : Below w.heap.size w w') : Two3 w0 w' b b2 L M F G :=
  ⟨h.s.below hb, h.o.below hb, h.us, h.uo, h.ap, h.good, h.bl.trans (hb.mono h.bl.size)⟩
theorem Two3.put1 {w0 w w' : World} {b b2 : Nat} {L L' M : List Tm} {F F' G : Nat → Prop} {t : Tm} (h : Two3 w0 w b b2 L M F G) (ht : t.may L.length = true) (hL : L' = L ∨ L' = L ++ [t]) (h1 : StoB w' b L' F') (h2 : Kept F w w') (h3 : ∀ i, F' i → F i ∨ w.heap.size ≤ i) : Two3 w0 w' b b2 L' M F' G := by
  refine ⟨h1, h.o.kept h2 (fun i hi hf => h.ap i hf hi), fun i hi => ?_, h.uo, fun i hi hg => ?_, ?_, h.bl.trans (h2.below h.bl.size h.us)⟩
  · rcases h3 i hi with e | e
    · exact h.us i e
    · have := h.bl.size; omega
  · rcases h3 i hi with e | e
    · exact h.ap i e hg
    · have := h.o.foot_lt hg; omega
  · rcases hL with rfl | rfl
    · exact h.good
    · exact h.good.snoc ht
theorem Two3.put2 {w0 w w' : World} {b b2 : Nat} {L M M' : List Tm} {F G G' : Nat → Prop} (h : Two3 w0 w b b2 L M F G) (h1 : StoB w' b2 M' G') (h2 : Kept G w w') (h3 : ∀ i, G' i → G i ∨ w.heap.size ≤ i) : Two3 w0 w' b b2 L M' F G' := by
  refine ⟨h.s.kept h2 (fun i hi hg => h.ap i hi hg), h1, h.us, fun i hi => ?_, fun i hf hi => ?_, h.good, h.bl.trans (h2.below h.bl.size h.uo)⟩
  · rcases h3 i hi with e | e
    · exact h.uo i e
    · have := h.bl.size; omega
  · rcases h3 i hi with e | e
    · exact h.ap i hf e
    · have := h.s.foot_lt hf; omega
theorem own_hand {w w' : World} {b : Nat} {M : List Tm} {G : Nat → Prop} {t : Tm} {v1 v2 : Value} (hS : StoB w b M G) (h1 : OwnI w' w.heap.size v1 t.names) (h2 : OwnP w' w.heap.size v2 t.pairs) : Hand w' G t v1 v2 :=
  ⟨h1.has, h2.has, fun _ i hi hg => by have a := (h1.lt i hi).1; have b := hS.foot_lt hg; omega, fun _ i hi hg => by have a := (h2.lt i hi).1; have b := hS.foot_lt hg; omega⟩
theorem take_at {L : List Tm} {n i : Nat} {t : Tm} (h : (L.take n)[i]? = some t) : L[i]? = some t := by
  have hl := (List.getElem?_eq_some_iff.1 h).1
  rw [List.length_take] at hl
  rwa [List.getElem?_take_of_lt (by omega)] at h
/-- A copy has the same terms by the same numbers. -/
theorem num_copy {L : List Tm} (hG : Tm.Good L) (nd : ∀ (i j : Nat) (t : Tm), L[i]? = some t → L[j]? = some t → i = j) {n : Nat} (hn : n ≤ L.length) : ∀ (d z : Nat), z ≤ d → z < n → Tm.num L (L.take n) z = some z := by
  intro d
  induction d with
  | zero =>
    intro z hz hzn
    obtain rfl : z = 0 := by omega
    have ht : L[0]? = some (L[0]'(by omega)) := List.getElem?_eq_getElem _
    have hp : (L[0]'(by omega)).parts = [] := by
      cases e : (L[0]'(by omega)).parts with
      | nil => rfl
      | cons p r => have := good_parts hG ht p (by rw [e]; simp); omega
    rw [num_of hG ht, hp, if_pos (by rfl : ([].all fun p : Int => (Tm.num L (L.take n) p.toNat).isSome) = true), moved_congr (g := fun z => z) (fun p h => by rw [hp] at h; simp at h), moved_id]
    exact find_yes (fun i j h1 h2 => nd i j _ (take_at h1) (take_at h2)) (by rw [List.getElem?_take_of_lt hzn]; exact ht)
  | succ d ih =>
    intro z hz hzn
    have ht : L[z]? = some (L[z]'(by omega)) := List.getElem?_eq_getElem _
    have hp : ∀ p ∈ (L[z]'(by omega)).parts, Tm.num L (L.take n) p.toNat = some p.toNat := fun p hp => ih p.toNat (by have := good_parts hG ht p hp; omega) (by have := good_parts hG ht p hp; omega)
    rw [num_of hG ht, if_pos (by rw [List.all_eq_true]; exact fun p hq => by rw [hp p hq]; rfl), moved_congr (g := fun z => z) (fun p hq => by simp only [hp p hq]; unfold Tm.val; have := good_parts hG ht p hq; simp; omega), moved_id]
    exact find_yes (fun i j h1 h2 => nd i j _ (take_at h1) (take_at h2)) (by rw [List.getElem?_take_of_lt hzn]; exact ht)
/-- One term more is copied. -/
theorem copy_step {L M' : List Tm} {j k : Nat} {t : Tm} (nd : ∀ (i j : Nat) (t : Tm), L[i]? = some t → L[j]? = some t → i = j) (ht : L[j]? = some t) (hk : M'[k]? = some t) (hMm : M'.length = max (L.take (max j 1)).length (k + 1)) (hMo : M' = L.take (max j 1) ∨ M' = L.take (max j 1) ++ [t]) (hml : (L.take (max j 1)).length = max j 1) (nd' : ∀ i j : Nat, M'[i]? = some t → M'[j]? = some t → i = j) : k = j ∧ M' = L.take (max (j + 1) 1) := by
  rcases hMo with rfl | rfl
  · have hkj := nd k j t (take_at hk) ht
    subst hkj
    refine ⟨rfl, ?_⟩
    have : k < max k 1 := by have := (List.getElem?_eq_some_iff.1 hk).1; omega
    rw [show max k 1 = max (k + 1) 1 by omega]
  · rw [List.length_append, hml] at hMm
    simp at hMm
    have hke : k = max j 1 := by omega
    by_cases hj0 : j = 0
    · exfalso
      subst hj0
      have e0 : (L.take (max 0 1) ++ [t])[0]? = some t := by
        rw [List.getElem?_append_left (by rw [hml]; omega), List.getElem?_take_of_lt (by omega)]
        exact ht
      have := nd' 0 k e0 hk
      omega
    · have : max j 1 = j := by omega
      rw [this] at hke ⊢
      refine ⟨hke, ?_⟩
      rw [show max (j + 1) 1 = j + 1 by omega, take_succ_of ht]
theorem copied_long (ao : Option Addr) (n cap : Nat) (w : World) (hn : 150 < n) (hm : n ≤ maxLen) :
    Calls Tryd.prog 6 #[.slice ao n cap] w fun r w' => r = .returned (.bool true) ∧ Below w.heap.size w w' := by
  unfold maxLen at hm
  have h1 : (150 : Int) < (n : Int) := by omega
  go_enter Tryd.func6, Tryd.ntmps6
  go_wp2_with (go_at_call 7; refine (alive3 _).mono ?_; rintro r w' ⟨rfl, hb⟩)
  go_ret
  exact ⟨rfl, hb⟩
set_option maxRecDepth 100000 in
set_option maxHeartbeats 4000000 in
theorem copied_short (v : Value) (l : List Tm) (aA : Addr) (w : World) (hl : l.length ≤ 150) (hT : HasT w v l) (hE : w.cell? ⟨0, 0, none⟩ = some (.iface 130 (.pointer (some aA)))) :
    Calls Tryd.prog 6 #[v] w fun r w' => r = .returned (.bool true) ∧ Below w.heap.size w w' := by
  obtain ⟨ao, cap, rfl, hO⟩ := hT
  obtain ⟨n, hn⟩ : ∃ n, n = l.length := ⟨_, rfl⟩
  rw [← hn] at hl ⊢
  have h1 : ¬ (150 : Int) < (n : Int) := by omega
  have HO : Hid _ := And.intro hO (And.intro hn hE)
  clear hO hn hE
  go_enter Tryd.func6, Tryd.ntmps6
  go_wp2_with fail
  refine (newA w).mono ?_
  rintro r w1 ⟨rfl, F1, hS1, hF1, hb1, hG1⟩
  have H1 : Hid _ := And.intro hS1 (And.intro hF1 (And.intro hb1 hG1))
  clear hS1 hF1 hb1 hG1
  go_wp2_with fail
  refine (newA w1).mono ?_
  rintro r w2 ⟨rfl, F2, hS2, hF2, hb2, hG2⟩
  have hT2 : Two3 w w2 w.heap.size w1.heap.size _ _ F1 F2 := ⟨H1.out.1.below hb2, hS2, H1.out.2.1, fun i hi => Nat.le_trans H1.out.2.2.1.size (hF2 i hi), fun i hf hg => by have := H1.out.1.foot_lt hf; have := hF2 i hg; omega, H1.out.2.2.2, H1.out.2.2.1.trans (hb2.mono H1.out.2.2.1.size)⟩
  obtain ⟨b2, hbb⟩ : ∃ b2, b2 = w1.heap.size := ⟨_, rfl⟩
  rw [← hbb] at hT2 ⊢
  have HT : Hid _ := hT2
  clear hT2 hS2 hF2 hb2 hG2 hbb H1
  go_wp2_with fail
  go_loopg [5] n (fun q iv wr => ∃ (i : Nat) (L : List Tm) (F : Nat → Prop), q = n - i ∧ i ≤ n ∧ iv = .int .i64 i ∧ L.length ≤ i + 1 ∧ L[0]? = some ⟨1, 0, 0, 0, [], []⟩ ∧ Two3 w wr w.heap.size b2 L [⟨1, 0, 0, 0, [], []⟩] F F2)
  case atStart => exact ⟨0, _, _, rfl, Nat.zero_le _, rfl, by simp, rfl, HT.out⟩
  case round =>
    obtain ⟨i, L, F, rfl, hi, rfl, hLl, hL0, hT3⟩ := hrel
    clear HT
    by_cases hlt : i < n
    · obtain ⟨t, ht⟩ : ∃ t, l[i]? = some t := ⟨l[i]'(by have := HO.out.2.1; omega), List.getElem?_eq_getElem _⟩
      obtain ⟨g, o, vn, vp, h1T⟩ := HO.out.1 i t ht
      obtain ⟨rfl⟩ := h1T.ad
      have h2T := h1T.below hT3.bl
      obtain ⟨x0, x1, x2, x3, x4, x5⟩ := h2T.row
      obtain ⟨an, cn, rfl, _⟩ := _root_.id h2T.n
      obtain ⟨ap, cp, rfl, _⟩ := _root_.id h2T.p
      have q0 : (0 : Int) ≤ (i : Int) := by omega
      have q1 : (i : Int) < (n : Int) := by omega
      have HK : Hid _ := And.intro hT3 (And.intro h1T (And.intro h2T hL0))
      clear hT3 h1T h2T ht hL0
      cases hmay : t.may L.length with
      | false =>
        have hP := put_bad w.heap.size L F t (.slice an t.names.length cn) (.slice ap t.pairs.length cp) 130 (.pointer (some aA)) wr HK.out.1.s HK.out.2.2.1.n HK.out.2.2.1.p HK.out.2.1.nl HK.out.2.1.pl hmay (cell_up HO.out.2.2 HK.out.1.bl)
        unfold tmV at hP
        have HP : Hid _ := hP
        clear hP
        go_wp2_with fail
        refine Calls.mono HP.out ?_
        rintro r3 w3 ⟨⟨gf, rfl, _, _⟩, hb3⟩
        have H3 : Hid _ := HK.out.1.below hb3
        clear hb3
        go_wp2_with fail
        go_roundg (n - (i + 1))
        case measure => omega
        case rel => exact ⟨i + 1, L, F, rfl, by omega, by go_num, by omega, HK.out.2.2.2, H3.out⟩
      | true =>
        have hP := put_ok w.heap.size L F t (.slice an t.names.length cn) (.slice ap t.pairs.length cp) wr HK.out.1.s (HK.out.2.1.hand HK.out.1.us HK.out.1.bl) hmay (by omega)
        unfold tmV at hP
        have HP : Hid _ := hP
        clear hP
        go_wp2_with fail
        refine Calls.mono HP.out ?_
        rintro r3 w3 ⟨k, L', F', rfl, hk, hkl, hLm, hLo, g1, g2, g3⟩
        have H3 : Hid _ := HK.out.1.put1 hmay hLo g1 g2 g3
        have HL0 : Hid (L'[0]? = some ⟨1, 0, 0, 0, [], []⟩) := (by
          rcases hLo with rfl | rfl
          · exact HK.out.2.2.2
          · rw [List.getElem?_append_left (List.getElem?_eq_some_iff.1 HK.out.2.2.2).1]; exact HK.out.2.2.2 : L'[0]? = some ⟨1, 0, 0, 0, [], []⟩)
        clear g1 g2 g3 HP hk hLo
        go_wp2_with fail
        go_roundg (n - (i + 1))
        case measure => omega
        case rel => exact ⟨i + 1, L', F', rfl, by omega, by go_num, by omega, HL0.out, H3.out⟩
    · obtain rfl : i = n := by omega
      have q1 : ¬ (i : Int) < (i : Int) := by omega
      have hLn := (List.getElem?_eq_some_iff.1 hL0).1
      have hL1 : L.take 1 = [⟨1, 0, 0, 0, [], []⟩] := by
        cases L with
        | nil => simp at hLn
        | cons a r => simp at hL0; subst hL0; simp
      obtain ⟨N, hN⟩ : ∃ N, N = L.length := ⟨_, rfl⟩
      have H4 : Hid _ := And.intro hT3 (And.intro hL1 (And.intro hL0 hN))
      have hNs : N ≤ 151 := by omega
      have hN1 : 1 ≤ N := by omega
      clear hT3 hL1 hL0 hLn hN hLl
      go_wp2_with fail
      go_loopg [6] N (fun q iv wr => ∃ (j : Nat) (G : Nat → Prop), q = N - j ∧ j ≤ N ∧ iv = .int .i64 j ∧ Two3 w wr w.heap.size b2 L (L.take (max j 1)) F G)
      case atStart => exact ⟨0, F2, rfl, Nat.zero_le _, rfl, by rw [show max 0 1 = 1 from rfl, H4.out.2.1]; exact H4.out.1⟩
      case round =>
        obtain ⟨j, G, rfl, hj, rfl, hT5⟩ := hrel
        obtain ⟨ax, cx, hcx⟩ := hT5.s.cell
        have hZ := tsize_any w.heap.size ax L.length cx wr hcx
        rw [← H4.out.2.2.2] at hZ
        have HZ : Hid _ := hZ
        clear hZ hcx
        by_cases hlt2 : j < N
        · obtain ⟨t, ht⟩ : ∃ t, L[j]? = some t := ⟨L[j]'(by have := H4.out.2.2.2; omega), List.getElem?_eq_getElem _⟩
          have hGt := get_yes w.heap.size L F j t wr hT5.s ht
          have q3 : (j : Int) < (N : Int) := by omega
          have H5 : Hid _ := And.intro hT5 (And.intro hGt ht)
          clear hT5 hGt ht
          go_wp2_with fail
          refine Calls.mono HZ.out ?_
          rintro r6 w6 ⟨rfl, hw⟩
          obtain rfl := hw.symm
          go_wp2_with fail
          refine H5.out.2.1.mono ?_
          rintro r7 w7 ⟨v1, v2, rfl, hO1, hO2, hb7⟩
          obtain ⟨ao1, cap1, rfl⟩ := row_shape hO1
          obtain ⟨ao2, cap2, rfl⟩ := row_shape hO2
          unfold tmV
          have H7 : Hid _ := And.intro (H5.out.1.below hb7) (own_hand H5.out.1.o hO1 hO2)
          clear hO1 hO2 hb7
          go_wp2_with fail
          obtain ⟨W8, hW8⟩ : ∃ W8, W8 = w7.alloc (.cells #[.int .i64 t.kind, .int .i64 t.label, .int .i64 t.a, .int .i64 t.b, .slice ao1 t.names.length cap1, .slice ao2 t.pairs.length cap2] 39) := ⟨_, rfl⟩
          have hb8 : Below w7.heap.size w7 W8 := by rw [hW8]; exact (Below.refl _ _).alloc (Nat.le_refl _) _
          rw [← hW8]
          have H8 : Hid _ := And.intro (H7.out.1.below hb8) (H7.out.2.below hb8)
          clear hb8 hW8 H7
          have hLN := H4.out.2.2.2
          have hml : (L.take (max j 1)).length = max j 1 := by rw [List.length_take]; omega
          have hmay : t.may (L.take (max j 1)).length = true := by
            rw [hml]
            by_cases h0 : j = 0
            · subst h0
              have := H5.out.2.2
              rw [H4.out.2.2.1] at this
              cases this
              decide
            · rw [show max j 1 = j by omega]
              exact H8.out.1.good j t H5.out.2.2
          have hP := put_ok b2 (L.take (max j 1)) G t (.slice ao1 t.names.length cap1) (.slice ao2 t.pairs.length cap2) W8 H8.out.1.o H8.out.2 hmay (by omega)
          unfold tmV at hP
          have HP : Hid _ := And.intro hP (And.intro hml hLN)
          clear hP hml hLN hmay
          refine HP.out.1.mono ?_
          rintro r9 w9 ⟨k, M', G', rfl, hk, hkl, hMm, hMo, g1, g2, g3⟩
          have hT9 := H8.out.1.put2 g1 g2 g3
          obtain ⟨rfl, rfl⟩ : k = j ∧ M' = L.take (max (j + 1) 1) := copy_step (fun i j t h1 h2 => H5.out.1.s.nodup h1 h2) H5.out.2.2 hk hMm hMo HP.out.2.1 (fun i j h1 h2 => hT9.o.nodup h1 h2)
          have hSm := same_yes w.heap.size b2 L (L.take (max (k + 1) 1)) F G' k k w9 hT9.s hT9.o hT9.good (by have := HP.out.2.2; omega) (by rw [List.length_take]; have := HP.out.2.2; omega)
          rw [num_copy hT9.good (fun i j t h1 h2 => hT9.s.nodup h1 h2) (by have := HP.out.2.2; omega) k k (Nat.le_refl _) (by omega)] at hSm
          have e9 : (some k == some k) = true := by simp
          rw [e9] at hSm
          have k3 : ((k : Int) != (k : Int)) = false := by simp
          have H9 : Hid _ := And.intro hT9 hSm
          clear hT9 hSm g1 g2 g3 HP hk hkl hMm hMo e9
          go_wp2_with fail
          refine H9.out.2.mono ?_
          rintro r10 w10 ⟨rfl, hb10⟩
          have H10 : Hid _ := H9.out.1.below hb10
          clear hb10
          go_wp2_with fail
          go_roundg (N - (k + 1))
          case measure => omega
          case rel => exact ⟨k + 1, G', rfl, by omega, by go_num, H10.out⟩
        · obtain rfl : j = N := by omega
          have q3 : ¬ (j : Int) < (j : Int) := by omega
          have H5 : Hid _ := hT5
          clear hT5
          go_wp2_with fail
          refine Calls.mono HZ.out ?_
          rintro r6 w6 ⟨rfl, hw⟩
          obtain rfl := hw.symm
          go_wp2_with fail
          refine (alive3 _).mono ?_
          rintro r7 w7 ⟨rfl, hb7⟩
          have hT7 := H5.out.below hb7
          obtain ⟨ay, cy, hcy⟩ := hT7.s.cell
          obtain ⟨az, cz, hcz⟩ := hT7.o.cell
          have hZ1 := tsize_any w.heap.size ay L.length cy w7 hcy
          have hZ2 := tsize_any b2 az (L.take (max j 1)).length cz w7 hcz
          rw [List.length_take, ← H4.out.2.2.2, show min (max j 1) j = j by omega] at hZ2
          rw [← H4.out.2.2.2] at hZ1
          have HZ2 : Hid _ := And.intro hZ1 (And.intro hZ2 hT7.bl)
          clear hZ1 hZ2 hcy hcz hT7 hb7
          have k3 : ((j : Int) == (j : Int)) = true := by simp
          go_wp2_with fail
          refine HZ2.out.2.1.mono ?_
          rintro r8 w8 ⟨rfl, hw⟩
          obtain rfl := hw.symm
          go_wp2_with fail
          refine HZ2.out.1.mono ?_
          rintro r9 w9 ⟨rfl, hw⟩
          obtain rfl := hw.symm
          go_wp2_with fail
          go_ret
          exact ⟨rfl, HZ2.out.2.2⟩
theorem copied_any (v : Value) (l : List Tm) (aA : Addr) (w : World) (hm : l.length ≤ maxLen) (hT : HasT w v l) (hE : w.cell? ⟨0, 0, none⟩ = some (.iface 130 (.pointer (some aA)))) :
    Calls Tryd.prog 6 #[v] w fun r w' => r = .returned (.bool true) ∧ Below w.heap.size w w' := by
  by_cases hl : l.length ≤ 150
  · exact copied_short v l aA w hl hT hE
  · obtain ⟨ao, cap, rfl, _⟩ := hT
    exact copied_long ao l.length cap w (by omega) hm
end Go.Proofs.YtbdpkgadalfkfaaDoor
