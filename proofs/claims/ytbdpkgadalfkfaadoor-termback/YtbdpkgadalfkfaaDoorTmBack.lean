/- The statement TermBack as a call: on any list it returns true, and nothing that was there has turned. -/
import Derived.Test.YtbdpkgadalfkfaaDoorTmBack0
import Derived.Laws.BitsLemmas
import Derived.Deep.DeepCutAuto
namespace Go.Proofs.YtbdpkgadalfkfaaDoor
open Go.RowKit Go.Maps
attribute [local go_sem ↓] Go.wp_at_zero Go.wp_at_succ
set_option maxRecDepth 100000 in
set_option maxHeartbeats 1600000 in
theorem lawBack_long (ao : Option Addr) (n cap : Nat) (w : World) (hn : 150 < n) (hm : n ≤ maxLen) :
    Calls Tryd.prog 5 #[.slice ao n cap] w fun r w' => r = .returned (.bool true) ∧ Below w.heap.size w w' := by
  unfold maxLen at hm
  have h1 : (150 : Int) < (n : Int) := by omega
  go_enter Tryd.func5, Tryd.ntmps5
  go_wp2_with (go_at_call 7; refine (alive3 _).mono ?_; rintro r w' ⟨rfl, hb⟩)
  go_ret
  exact ⟨rfl, hb⟩
/-- The numbers of the parts are below that of the whole. -/
theorem back_kinds {L L' : List Tm} {t : Tm} {k : Nat} (hmay : t.may L.length = true) (hkl : k ≤ L.length) (hk : L'[k]? = some t) (hG : Tm.Good L) (hL : L' = L ∨ L' = L ++ [t]) : t.kind = 7 ∨ t.kind = 1 ∨ ((t.kind != 7) = true ∧ (t.kind != 1) = true ∧ t.a < (k : Int) ∧ t.b < (k : Int)) := by
  have hm : t.may k = true := by
    rcases hL with rfl | rfl
    · exact hG k t hk
    · exact (hG.snoc hmay) k t hk
  by_cases h7 : t.kind = 7
  · exact .inl h7
  by_cases h1 : t.kind = 1
  · exact .inr (.inl h1)
  refine .inr (.inr ⟨by simpa using h7, by simpa using h1, ?_⟩)
  simp only [Tm.may, Bool.and_eq_true] at hm
  obtain ⟨hr, hz⟩ := hm
  simp only [Tm.rest, Bool.and_eq_true, Bool.or_eq_true, beq_iff_eq, bne_iff_ne] at hz
  obtain ⟨⟨⟨⟨z1, z2⟩, z3⟩, z4⟩, z5⟩ := hz
  unfold Tm.right at hr
  rw [if_neg h1] at hr
  split at hr
  · rename_i hk
    simp only [Bool.and_eq_true, has_iff] at hr
    omega
  split at hr
  · simp only [Bool.and_eq_true, has_iff] at hr
    omega
  split at hr
  · simp only [Bool.and_eq_true, has_iff] at hr
    omega
  split at hr
  · simp only [Bool.and_eq_true, has_iff] at hr
    omega
  cases hr
set_option maxRecDepth 100000 in
set_option maxHeartbeats 16000000 in
theorem lawBack_short (v : Value) (l : List Tm) (aA : Addr) (w : World) (hl : l.length ≤ 150) (hT : HasT w v l) (hE : w.cell? ⟨0, 0, none⟩ = some (.iface 130 (.pointer (some aA)))) :
    Calls Tryd.prog 5 #[v] w fun r w' => r = .returned (.bool true) ∧ Below w.heap.size w w' := by
  obtain ⟨ao, cap, rfl, hO⟩ := hT
  obtain ⟨n, hn⟩ : ∃ n, n = l.length := ⟨_, rfl⟩
  rw [← hn] at hl ⊢
  have h1 : ¬ (150 : Int) < (n : Int) := by omega
  have HO : Hid _ := And.intro hO (And.intro hn hE)
  clear hO hn hE
  go_enter Tryd.func5, Tryd.ntmps5
  go_wp2_with fail
  refine (newA w).mono ?_
  rintro r w1 ⟨rfl, F1, hS1, hF1, hb1, hG1⟩
  have H1 : Hid _ := And.intro hS1 (And.intro hF1 (And.intro hb1 hG1))
  clear hS1 hF1 hb1 hG1
  have hmk := make_ints n (by omega)
  go_wp2_with fail
  clear hmk
  have HB : Hid _ := bk_start n H1.out.1 H1.out.2.1 H1.out.2.2.2 H1.out.2.2.1
  obtain ⟨gi, hgi⟩ : ∃ gi, gi = w1.heap.size := ⟨_, rfl⟩
  rw [← hgi] at HB ⊢
  clear hgi
  go_loopg [5] n (fun q iv wr => ∃ (i : Nat) (L : List Tm) (F : Nat → Prop) (xs : List Int), q = n - i ∧ i ≤ n ∧ iv = .int .i64 i ∧ xs.length = n ∧ L.length ≤ i + 1 ∧ Told3 L l xs i ∧ Bk w wr w.heap.size gi L F xs)
  case atStart => exact ⟨0, _, _, _, rfl, Nat.zero_le _, rfl, by simp, by simp, fun q t h => by omega, HB.out⟩
  case round =>
    obtain ⟨i, L, F, xs, rfl, hi, rfl, hxl, hLl, hTo, hBk⟩ := hrel
    clear HB H1
    by_cases hlt : i < n
    · obtain ⟨t, ht⟩ : ∃ t, l[i]? = some t := ⟨l[i]'(by have := HO.out.2.1; omega), List.getElem?_eq_getElem _⟩
      obtain ⟨g, o, vn, vp, h1T⟩ := HO.out.1 i t ht
      obtain ⟨rfl⟩ := h1T.ad
      have h2T := h1T.below hBk.bl
      obtain ⟨x0, x1, x2, x3, x4, x5⟩ := h2T.row
      obtain ⟨an, cn, rfl, _⟩ := _root_.id h2T.n
      obtain ⟨ap, cp, rfl, _⟩ := _root_.id h2T.p
      obtain ⟨ax, cx, hc⟩ := hBk.s.cell
      have hZ := tsize_any w.heap.size ax L.length cx wr hc
      have q0 : (0 : Int) ≤ (i : Int) := by omega
      have q1 : (i : Int) < (n : Int) := by omega
      have HK : Hid _ := And.intro hBk (And.intro hTo (And.intro ht h1T))
      have HZ : Hid _ := hZ
      clear hBk hTo ht h1T h2T hc hZ
      cases hmay : t.may L.length with
      | false =>
        have hP := put_bad w.heap.size L F t (.slice an t.names.length cn) (.slice ap t.pairs.length cp) 130 (.pointer (some aA)) wr HK.out.1.s (HK.out.2.2.2.below HK.out.1.bl).n (HK.out.2.2.2.below HK.out.1.bl).p HK.out.2.2.2.nl HK.out.2.2.2.pl hmay (cell_up HO.out.2.2 HK.out.1.bl)
        unfold tmV at hP
        have HP : Hid _ := hP
        clear hP
        go_wp2_with fail
        refine Calls.mono HZ.out ?_
        rintro r2 w2 ⟨rfl, hw⟩
        obtain rfl := hw.symm
        go_wp2_with fail
        refine Calls.mono HP.out ?_
        rintro r3 w3 ⟨⟨gf, rfl, hTF, hgf⟩, hb3⟩
        have hB3 := HK.out.1.below hb3
        have cI := hB3.cell (i := i) (x := xs[i]'(by omega)) (List.getElem?_eq_getElem (by omega))
        have cF := hB3.free i
        have hlt9 := HK.out.1.lt
        have H3 : Hid _ := And.intro (hB3.set i 0) (And.intro ((set_other w3 gi i gf (.int .i64 0) (by omega)).trans hTF) ((hB3.set i 0).set i (-1)))
        clear hB3 hb3 HP x0 x1 x2 x3 x4 x5 HZ hTF
        unfold tFaultV
        go_wp2_with fail
        obtain ⟨W3, hW3⟩ : ∃ W3, W3 = w3.setCell ⟨gi, i, none⟩ (.int .i64 0) := ⟨_, rfl⟩
        rw [← hW3]
        rw [← hW3] at H3
        clear hW3 cI cF
        have hC := code_arg3 gf aA W3 (cell_up HO.out.2.2 H3.out.1.bl) (tb_cell H3.out.2.1 3)
        refine hC.mono ?_
        rintro r4 w4 ⟨rfl, hw⟩
        obtain rfl := hw.symm
        clear hC
        obtain ⟨ax4, cx4, hc4⟩ := H3.out.1.s.cell
        have hZ4 := tsize_any w.heap.size ax4 L.length cx4 W3 hc4
        have HZ4 : Hid _ := hZ4
        clear hZ4 hc4
        have k3 : ((L.length : Int) != (L.length : Int)) = false := by simp
        have cI := H3.out.1.cell (i := i) (set_at (by omega) 0)
        have cF := H3.out.1.free i
        go_wp2_with fail
        refine Calls.mono HZ4.out ?_
        rintro r5 w5 ⟨rfl, hw⟩
        obtain rfl := hw.symm
        go_wp2_with fail
        go_roundg (n - (i + 1))
        case measure => omega
        case rel => exact ⟨i + 1, L, F, (xs.set i 0).set i (-1), rfl, by omega, by go_num, by rw [List.length_set, List.length_set]; exact hxl, by omega, ((HK.out.2.1.set 0).set (-1)).next (fun s hs => .inl (set_at (by rw [List.length_set]; omega) _)), H3.out.2.2⟩
      | true =>
        have hP := put_ok w.heap.size L F t (.slice an t.names.length cn) (.slice ap t.pairs.length cp) wr HK.out.1.s (HK.out.2.2.2.hand HK.out.1.up HK.out.1.bl) hmay (by omega)
        unfold tmV at hP
        have HP : Hid _ := hP
        clear hP
        go_wp2_with fail
        refine Calls.mono HZ.out ?_
        rintro r2 w2 ⟨rfl, hw⟩
        obtain rfl := hw.symm
        go_wp2_with fail
        refine Calls.mono HP.out ?_
        rintro r3 w3 ⟨k, L', F', rfl, hk, hkl, hLm, hLo, g1, g2, g3⟩
        have hB3 := HK.out.1.putok hmay hLo g1 g2 g3
        have cI := hB3.cell (i := i) (x := xs[i]'(by omega)) (List.getElem?_eq_getElem (by omega))
        have cF := hB3.free i
        have H3 : Hid _ := And.intro (hB3.set i (k : Int)) (And.intro hk (And.intro hLo ((HK.out.2.1.ok hLo).set (k : Int))))
        clear hB3 g1 g2 g3 HP x0 x1 x2 x3 x4 x5 HZ
        go_wp2_with fail
        obtain ⟨W3, hW3⟩ : ∃ W3, W3 = w3.setCell ⟨gi, i, none⟩ (.int .i64 k) := ⟨_, rfl⟩
        rw [← hW3]
        rw [← hW3] at H3
        clear hW3 cI cF
        refine (get_yes w.heap.size L' F' k t W3 H3.out.1.s hk).mono ?_
        rintro r4 w4 ⟨v1, v2, rfl, hO1, hO2, hb4⟩
        obtain ⟨ao1, cap1, rfl⟩ := row_shape hO1
        obtain ⟨ao2, cap2, rfl⟩ := row_shape hO2
        have H4 : Hid _ := And.intro (H3.out.1.below hb4) (And.intro hO1 hO2)
        clear hO1 hO2 hb4
        unfold tmV
        go_wp2_with fail
        obtain ⟨W5, hW5⟩ : ∃ W5, W5 = w4.alloc (.cells #[.int .i64 t.kind, .int .i64 t.label, .int .i64 t.a, .int .i64 t.b, .slice ao1 t.names.length cap1, .slice ao2 t.pairs.length cap2] 39) := ⟨_, rfl⟩
        have hb5 : Below w4.heap.size w4 W5 := by rw [hW5]; exact (Below.refl _ _).alloc (Nat.le_refl _) _
        have hX5 : W5.heap[w4.heap.size]? = some (.cells #[.int .i64 t.kind, .int .i64 t.label, .int .i64 t.a, .int .i64 t.b, .slice ao1 t.names.length cap1, .slice ao2 t.pairs.length cap2] 39 (0, 0)) := by rw [hW5]; exact (MapKept.heap_alloc w4 _).1
        rw [← hW5]
        have hB5 := H4.out.1.below hb5
        have hn5 : OwnI W5 W3.heap.size (.slice ao1 t.names.length cap1) t.names := trow_at H4.out.2.1 fun k hk => hb5.block k (H4.out.2.1.lt k hk).2
        have hp5 : OwnP W5 W3.heap.size (.slice ao2 t.pairs.length cap2) t.pairs := trow_at H4.out.2.2 fun k hk => hb5.block k (H4.out.2.2.lt k hk).2
        have h5T := HK.out.2.2.2.below hB5.bl
        obtain ⟨y0, y1, y2, y3, y4, y5, yf⟩ := six6 hX5
        obtain ⟨x0, x1, x2, x3, x4, x5⟩ := h5T.row
        have wf := may_wf (by omega) hmay
        have hST := (fun W (hb : Below W5.heap.size W5 W) => sameTerm_b t t _ _ _ _ W (hn5.has.below hb) (hp5.has.below hb) (h5T.n.below hb) (h5T.p.below hb) (by have := wf.nl; omega) (by have := wf.pl; omega) (by have := wf.nl; omega) (by have := wf.pl; omega))
        rw [same_self] at hST
        unfold tmV at hST
        have HST : Hid _ := hST
        have H5 : Hid _ := And.intro hB5 (And.intro h5T.row hX5)
        clear hST hn5 hp5 h5T hB5 hX5 hb5 hW5 yf H4
        have k1 : decide ((L.length : Int) < (k : Int)) = false := by simp; omega
        have k5 : decide (L.length < k) = false := by simp; omega
        have k6 : (k ≤ L.length) = True := by simp; omega
        have k4 : IntKind.i64.wrap ((k : Int) + 1) = (k : Int) + 1 := by rw [IntKind.wrap_i64]; omega
        have k2 : max (L.length : Int) ((k : Int) + 1) = (L'.length : Int) := by omega
        have k3 : ((L'.length : Int) != (L'.length : Int)) = false := by simp
        go_cut [85] (fun s85 wx => s85 = .bool false ∧ Bk w wx w.heap.size gi L' F' (xs.set i (k : Int)))
        case first =>
          go_region_held3 (fun w' => (w'.cell? ⟨w4.heap.size, 0, none⟩ = some (.int .i64 t.kind) ∧ w'.cell? ⟨w4.heap.size, 1, none⟩ = some (.int .i64 t.label) ∧ w'.cell? ⟨w4.heap.size, 2, none⟩ = some (.int .i64 t.a) ∧ w'.cell? ⟨w4.heap.size, 3, none⟩ = some (.int .i64 t.b) ∧ w'.cell? ⟨w4.heap.size, 4, none⟩ = some (.slice ao1 t.names.length cap1) ∧ w'.cell? ⟨w4.heap.size, 5, none⟩ = some (.slice ao2 t.pairs.length cap2)) ∧ w'.cell? ⟨g, o + i * 6, none⟩ = some (.int .i64 t.kind) ∧ w'.cell? ⟨g, o + i * 6 + 1, none⟩ = some (.int .i64 t.label) ∧ w'.cell? ⟨g, o + i * 6 + 2, none⟩ = some (.int .i64 t.a) ∧ w'.cell? ⟨g, o + i * 6 + 3, none⟩ = some (.int .i64 t.b) ∧ w'.cell? ⟨g, o + i * 6 + 4, none⟩ = some (.slice an t.names.length cn) ∧ w'.cell? ⟨g, o + i * 6 + 5, none⟩ = some (.slice ap t.pairs.length cp)) (go_keep)
            ((first
              | (go_at_call 13; refine (HST.out _ (by repeat (first | exact Below.refl _ _ | assumption | refine Below.drew ?_ | refine Below.setCell ?_ (by simp) _ | refine Below.alloc ?_ (by simp) _))).mono ?_; rintro r6 w6 ⟨rfl, hb6'⟩; have hb6 := below_of_drew3 hb6'; clear x0 x1 x2 x3 x4 x5 y0 y1 y2 y3 y4 y5; obtain ⟨y0, y1, y2, y3, y4, y5, _⟩ := six6 ((hb6.block _ (t_lt H5.out.2.2)).trans H5.out.2.2); obtain ⟨x0, x1, x2, x3, x4, x5⟩ := H5.out.2.1.below hb6; have H6 : Hid _ := H5.out.1.below hb6; clear hb6 hb6' HST)
              | (go_at_call 17; obtain ⟨ax6, cx6, hc6⟩ := H6.out.s.cell; refine (tsize_any w.heap.size ax6 L'.length cx6 _ (by exact hc6)).mono ?_; rintro r7 w7 ⟨rfl, hw⟩; obtain rfl := hw.symm; clear hc6)))
          all_goals (refine Met.intro ?_; apply_assumption; refine Met.intro ?_; apply_assumption; (repeat apply Exists.intro); refine ⟨?rel, rfl⟩; case rel => exact ⟨rfl, by first | exact H6.out | exact H6.out.below (below_drewN (Below.refl _ _) _)⟩)
        case rest =>
          obtain ⟨rfl, hB6⟩ := hcut
          clear HST x0 x1 x2 x3 x4 x5 y0 y1 y2 y3 y4 y5 k1 k2 k3 k4 k5 k6 H5
          have h6T := HK.out.2.2.2.below hB6.bl
          obtain ⟨x0, x1, x2, x3, x4, x5⟩ := h6T.row
          have H6 : Hid _ := And.intro hB6 h6T
          clear hB6 h6T
          go_upto_region 18 with fail
          go_cut [141] (fun s141 wx => s141 = .bool false ∧ wc = wx)
          case first =>
            rcases back_kinds hmay hkl hk HK.out.1.good hLo with e | e | ⟨e1, e2, e3, e4⟩
            · have e1 : (t.kind != 7) = false := by rw [e]; rfl
              clear e
              go_wp2_with fail
              all_goals (go_meet; case rel => exact ⟨rfl, rfl⟩)
            · have e1 : (t.kind != 7) = true := by rw [e]; rfl
              have e2 : (t.kind != 1) = false := by rw [e]; rfl
              clear e
              go_wp2_with fail
              all_goals (go_meet; case rel => exact ⟨rfl, rfl⟩)
            · have d1 : decide ((k : Int) ≤ t.a) = false := by simp; omega
              have d2 : decide ((k : Int) ≤ t.b) = false := by simp; omega
              go_wp2_with fail
              all_goals (go_meet; case rel => exact ⟨by first | rfl | simp_all, rfl⟩)
          case rest =>
            obtain ⟨rfl, rfl⟩ := hcut
            clear x0 x1 x2 x3 x4 x5
            go_wp2_with fail
            go_loopg [11] i (fun q jv wr => ∃ j : Nat, q = i - j ∧ j ≤ i ∧ jv = .int .i64 j ∧ Bk w wr w.heap.size gi L' F' (xs.set i (k : Int)))
            case atStart => exact ⟨0, rfl, Nat.zero_le _, rfl, H6.out.1⟩
            case round =>
              obtain ⟨j, rfl, hj, rfl, hBj⟩ := hrel
              clear H6
              by_cases hlt2 : j < i
              · obtain ⟨s, hs⟩ : ∃ s, l[j]? = some s := ⟨l[j]'(by have := HO.out.2.1; omega), List.getElem?_eq_getElem _⟩
                obtain ⟨g', o', un, up, h3T⟩ := HO.out.1 j s hs
                have hgo := h3T.ad
                injection hgo with hgo
                injection hgo with e1 e2
                subst e1; subst e2
                have h4T := h3T.below hBj.bl
                have h5T := HK.out.2.2.2.below hBj.bl
                obtain ⟨bn, dn, rfl, _⟩ := _root_.id h4T.n
                obtain ⟨bp, dp, rfl, _⟩ := _root_.id h4T.p
                obtain ⟨y0, y1, y2, y3, y4, y5⟩ := h4T.row
                obtain ⟨x0, x1, x2, x3, x4, x5⟩ := h5T.row
                obtain ⟨x, hx⟩ : ∃ x, (xs.set i (k : Int))[j]? = some x := ⟨(xs.set i (k : Int))[j]'(by rw [List.length_set]; omega), List.getElem?_eq_getElem _⟩
                have cJ := hBj.cell hx
                have q4 : (0 : Int) ≤ (j : Int) := by omega
                have q5 : (j : Int) < (n : Int) := by omega
                have q6 : (j : Int) < (i : Int) := by omega
                have hto := H3.out.2.2.2 j s hlt2 hs
                rw [hx] at hto
                have HJ : Hid _ := And.intro hBj (And.intro hx (And.intro h4T h5T))
                clear hBj hx h4T h5T h3T hs
                go_upto_region 23 with fail
                go_cut [169] (fun s169 wx => s169 = .bool false ∧ Bk w wx w.heap.size gi L' F' (xs.set i (k : Int)))
                case first =>
                  rcases hto with hto | ⟨kj, hto, hLj⟩
                  · have hto := Option.some.inj hto
                    subst hto
                    go_quiet (fail)
                    all_goals (go_wp2_with fail)
                    all_goals (go_meet; case rel => exact ⟨rfl, HJ.out.1.below (below_drewN (Below.refl _ _) _)⟩)
                  · have hto := Option.some.inj hto
                    subst hto
                    have swf := H3.out.1.s.wf s (List.mem_of_getElem? hLj)
                    have twf := may_wf (by omega) hmay
                    have hSJ := (fun W (hb : Below wr.heap.size wr W) => sameTerm_b s t _ _ _ _ W (HJ.out.2.2.1.n.below hb) (HJ.out.2.2.1.p.below hb) (HJ.out.2.2.2.n.below hb) (HJ.out.2.2.2.p.below hb) (by have := swf.nl; omega) (by have := swf.pl; omega) (by have := twf.nl; omega) (by have := twf.pl; omega))
                    unfold tmV at hSJ
                    have z1 : decide ((0 : Int) ≤ (kj : Int)) = true := by simp
                    by_cases hkk : kj = k
                    · subst hkk
                      rw [hLj] at hk
                      have hst := Option.some.inj hk
                      have e9 : s.same t = true := (same_iff s t).2 hst
                      rw [e9] at hSJ
                      have e8 : ((kj : Int) == (kj : Int)) = true := by simp
                      have HSJ : Hid _ := hSJ
                      clear hSJ hst e9 hk hLj
                      go_region_held3 (fun w' => w'.cell? ⟨gi, j, none⟩ = some (.int .i64 kj) ∧ (w'.cell? ⟨g, o + j * 6, none⟩ = some (.int .i64 s.kind) ∧ w'.cell? ⟨g, o + j * 6 + 1, none⟩ = some (.int .i64 s.label) ∧ w'.cell? ⟨g, o + j * 6 + 2, none⟩ = some (.int .i64 s.a) ∧ w'.cell? ⟨g, o + j * 6 + 3, none⟩ = some (.int .i64 s.b) ∧ w'.cell? ⟨g, o + j * 6 + 4, none⟩ = some (.slice bn s.names.length dn) ∧ w'.cell? ⟨g, o + j * 6 + 5, none⟩ = some (.slice bp s.pairs.length dp)) ∧ w'.cell? ⟨g, o + i * 6, none⟩ = some (.int .i64 t.kind) ∧ w'.cell? ⟨g, o + i * 6 + 1, none⟩ = some (.int .i64 t.label) ∧ w'.cell? ⟨g, o + i * 6 + 2, none⟩ = some (.int .i64 t.a) ∧ w'.cell? ⟨g, o + i * 6 + 3, none⟩ = some (.int .i64 t.b) ∧ w'.cell? ⟨g, o + i * 6 + 4, none⟩ = some (.slice an t.names.length cn) ∧ w'.cell? ⟨g, o + i * 6 + 5, none⟩ = some (.slice ap t.pairs.length cp)) (go_keep)
                        ((go_at_call 13; refine (HSJ.out _ (by repeat (first | exact Below.refl _ _ | assumption | refine Below.drew ?_ | refine Below.setCell ?_ (by simp) _ | refine Below.alloc ?_ (by simp) _))).mono ?_; rintro r8 w8 ⟨rfl, hb8'⟩; have hb8 := below_of_drew3 hb8'; clear cJ x0 x1 x2 x3 x4 x5 y0 y1 y2 y3 y4 y5; obtain ⟨y0, y1, y2, y3, y4, y5⟩ := HJ.out.2.2.1.row.below hb8; obtain ⟨x0, x1, x2, x3, x4, x5⟩ := HJ.out.2.2.2.row.below hb8; have cJ := (HJ.out.1.below hb8).cell HJ.out.2.1; have H8 : Hid _ := HJ.out.1.below hb8; clear hb8 hb8' HSJ))
                      all_goals (refine Met.intro ?_; apply_assumption; refine Met.intro ?_; apply_assumption; (repeat apply Exists.intro); refine ⟨?rel, rfl⟩; case rel => exact ⟨by simp, by first | exact H8.out | exact H8.out.below (below_drewN (Below.refl _ _) _)⟩)
                    · have hst : s ≠ t := fun e => hkk (H3.out.1.s.nodup (e ▸ hLj) hk)
                      rw [same_ne hst] at hSJ
                      have e8 : ((kj : Int) == (k : Int)) = false := by rw [beq_eq_false_iff_ne]; omega
                      have e7 : (kj == k) = false := by simpa using hkk
                      have HSJ : Hid _ := hSJ
                      clear hSJ hst hkk hLj
                      go_region_held3 (fun w' => w'.cell? ⟨gi, j, none⟩ = some (.int .i64 kj) ∧ (w'.cell? ⟨g, o + j * 6, none⟩ = some (.int .i64 s.kind) ∧ w'.cell? ⟨g, o + j * 6 + 1, none⟩ = some (.int .i64 s.label) ∧ w'.cell? ⟨g, o + j * 6 + 2, none⟩ = some (.int .i64 s.a) ∧ w'.cell? ⟨g, o + j * 6 + 3, none⟩ = some (.int .i64 s.b) ∧ w'.cell? ⟨g, o + j * 6 + 4, none⟩ = some (.slice bn s.names.length dn) ∧ w'.cell? ⟨g, o + j * 6 + 5, none⟩ = some (.slice bp s.pairs.length dp)) ∧ w'.cell? ⟨g, o + i * 6, none⟩ = some (.int .i64 t.kind) ∧ w'.cell? ⟨g, o + i * 6 + 1, none⟩ = some (.int .i64 t.label) ∧ w'.cell? ⟨g, o + i * 6 + 2, none⟩ = some (.int .i64 t.a) ∧ w'.cell? ⟨g, o + i * 6 + 3, none⟩ = some (.int .i64 t.b) ∧ w'.cell? ⟨g, o + i * 6 + 4, none⟩ = some (.slice an t.names.length cn) ∧ w'.cell? ⟨g, o + i * 6 + 5, none⟩ = some (.slice ap t.pairs.length cp)) (go_keep)
                        ((go_at_call 13; refine (HSJ.out _ (by repeat (first | exact Below.refl _ _ | assumption | refine Below.drew ?_ | refine Below.setCell ?_ (by simp) _ | refine Below.alloc ?_ (by simp) _))).mono ?_; rintro r8 w8 ⟨rfl, hb8'⟩; have hb8 := below_of_drew3 hb8'; clear cJ x0 x1 x2 x3 x4 x5 y0 y1 y2 y3 y4 y5; obtain ⟨y0, y1, y2, y3, y4, y5⟩ := HJ.out.2.2.1.row.below hb8; obtain ⟨x0, x1, x2, x3, x4, x5⟩ := HJ.out.2.2.2.row.below hb8; have cJ := (HJ.out.1.below hb8).cell HJ.out.2.1; have H8 : Hid _ := HJ.out.1.below hb8; clear hb8 hb8' HSJ))
                      all_goals (refine Met.intro ?_; apply_assumption; refine Met.intro ?_; apply_assumption; (repeat apply Exists.intro); refine ⟨?rel, rfl⟩; case rel => exact ⟨by simp, by first | exact H8.out | exact H8.out.below (below_drewN (Below.refl _ _) _)⟩)
                case rest =>
                  obtain ⟨rfl, hBc⟩ := hcut
                  clear x0 x1 x2 x3 x4 x5 y0 y1 y2 y3 y4 y5 cJ HJ
                  have HC : Hid _ := hBc
                  clear hBc
                  go_wp2_with fail
                  go_roundg (i - (j + 1))
                  case measure => omega
                  case rel => exact ⟨j + 1, rfl, by omega, by go_num, HC.out⟩
              · obtain rfl : j = i := by omega
                have q6 : ¬ (j : Int) < (j : Int) := by omega
                have HC : Hid _ := hBj
                clear hBj
                go_wp2_with fail
                go_roundg (n - (j + 1))
                case measure => omega
                case rel => exact ⟨j + 1, L', F', xs.set j (k : Int), rfl, by omega, by go_num, by rw [List.length_set]; exact hxl, by omega, H3.out.2.2.2.next (fun s hs => by rw [HK.out.2.2.1] at hs; cases hs; exact .inr ⟨k, set_at (by omega) _, H3.out.2.1⟩), HC.out⟩
    · obtain rfl : i = n := by omega
      have q1 : ¬ (i : Int) < (i : Int) := by omega
      have HK : Hid _ := hBk
      clear hBk hTo
      go_wp2_with (go_at_call 7; refine (alive3 _).mono ?_; rintro r w' ⟨rfl, hb⟩)
      go_ret
      exact ⟨rfl, HK.out.bl.trans (hb.mono HK.out.bl.size)⟩
theorem lawBack_any (v : Value) (l : List Tm) (aA : Addr) (w : World) (hm : l.length ≤ maxLen) (hT : HasT w v l) (hE : w.cell? ⟨0, 0, none⟩ = some (.iface 130 (.pointer (some aA)))) :
    Calls Tryd.prog 5 #[v] w fun r w' => r = .returned (.bool true) ∧ Below w.heap.size w w' := by
  by_cases hl : l.length ≤ 150
  · exact lawBack_short v l aA w hl hT hE
  · obtain ⟨ao, cap, rfl, _⟩ := hT
    exact lawBack_long ao l.length cap w (by omega) hm
end Go.Proofs.YtbdpkgadalfkfaaDoor
