/- Contract of the document's Same. -/
import Derived.Test.YtoamnhhegneegaaDoorRtSameP
import Derived.Test.YtoamnhhegneegaaDoorTmBack0
import Derived.Deep.DeepCutAuto
namespace Go.Proofs.YtoamnhhegneegaaDoor
open Go.RowKit Go.Maps
attribute [local go_sem ↓] Go.wp_at_zero Go.wp_at_succ
set_option maxRecDepth 100000 in
set_option maxHeartbeats 8000000 in
theorem rsameS_any (b b2 : Nat) (L M : List Tm) (F F2 : Nat → Prop) (id other : Nat) (w : World) (hS : RStoB w b L F) (hS2 : RStoB w b2 M F2) (hG : Tm.Good L) (nd : ∀ t (i j : Nat), M[i]? = some t → M[j]? = some t → i = j) (hid : id < L.length) :
    Calls Tryd.prog 14 #[.pointer (some ⟨b, 0, none⟩), .int .i64 id, .pointer (some ⟨b2, 0, none⟩), .int .i64 other] w fun r w' => r = .returned (.bool (Tm.num L M id == some other)) ∧ Below w.heap.size w w' := by
  have hbig := hS.big
  have hbig2 := hS2.big
  have hmk := make_ints (id + 1) (by omega) w
  have e1 : ((id + 1 : Nat) : Int) = (id : Int) + 1 := by omega
  rw [e1] at hmk
  have HS : Hid _ := And.intro hS (And.intro hS2 (And.intro hG nd))
  have h0 : Ra w (w.alloc (.cells (madeI (id + 1)) 3)) w.heap.size (List.replicate (id + 1) 0) := ⟨(Below.refl _ _).alloc (Nat.le_refl _) _, ⟨_, (MapKept.heap_alloc w _).1, madeI_eq _⟩, Nat.le_refl _⟩
  have HR0 : Hid _ := h0
  clear hS hS2 hG nd h0 e1
  go_enter Tryd.func14, Tryd.ntmps14
  go_wp2_with fail
  clear hmk
  go_loopg [10] (id + 1) (fun q iv wr => ∃ (i : Nat) (xs : List Int), q = id + 1 - i ∧ i ≤ id + 1 ∧ iv = .int .i64 i ∧ xs.length = id + 1 ∧ Nos L M xs i ∧ Ra w wr w.heap.size xs)
  case atStart => exact ⟨0, _, rfl, Nat.zero_le _, rfl, by simp, fun q h => by omega, HR0.out⟩
  case round =>
    obtain ⟨i, xs, rfl, hi, rfl, hxl, hNo, hRa⟩ := hrel
    clear HR0
    by_cases hlt : i ≤ id
    · obtain ⟨t, ht⟩ : ∃ t, L[i]? = some t := ⟨L[i]'(by omega), List.getElem?_eq_getElem _⟩
      obtain ⟨g, cap, vn, vp, hA⟩ := HS.out.1.at ht
      obtain ⟨c0, x0, x1, x2, x3, x4, x5, hn0, hp0⟩ := hA
      have c0 := cell_up c0 hRa.bl
      have x0 := cell_up x0 hRa.bl
      have x1 := cell_up x1 hRa.bl
      have x2 := cell_up x2 hRa.bl
      have x3 := cell_up x3 hRa.bl
      have x4 := cell_up x4 hRa.bl
      have x5 := cell_up x5 hRa.bl
      obtain ⟨an, cn, rfl, _⟩ := _root_.id hn0
      obtain ⟨ap, cp, rfl, _⟩ := _root_.id hp0
      have q0 : (0 : Int) ≤ (i : Int) := by omega
      have q1 : (i : Int) < (L.length : Int) := by omega
      have q2 : (i : Int) ≤ (id : Int) := by omega
      have q3 : (i : Int) < (id : Int) + 1 := by omega
      have hpt := good_parts HS.out.2.2.1 ht
      have hnm := num_moved (M := M) HS.out.2.2.1 ht
      have hbd := HS.out.1.bd t (List.mem_of_getElem? ht)
      obtain ⟨W0, hW0⟩ : ∃ W0, W0 = wr.alloc (.cells #[.int .i64 t.kind, .int .i64 t.label, .int .i64 t.a, .int .i64 t.b, .slice an t.names.length cn, .slice ap t.pairs.length cp] 39) := ⟨_, rfl⟩
      have hb0 : Below wr.heap.size wr W0 := by rw [hW0]; exact (Below.refl _ _).alloc (Nat.le_refl _) _
      have hR0 := hRa.below hb0
      have hX0 : W0.heap[wr.heap.size]? = some (.cells #[.int .i64 t.kind, .int .i64 t.label, .int .i64 t.a, .int .i64 t.b, .slice an t.names.length cn, .slice ap t.pairs.length cp] 39 (0, 0)) := by rw [hW0]; exact (MapKept.heap_alloc wr _).1
      have cI := hR0.cell (i := i) (x := xs[i]'(by omega)) (List.getElem?_eq_getElem _)
      have cF := hR0.free i
      rw [hW0] at cI cF
      have hgl := hRa.lt
      have hR1 := hR0.set i (-1)
      have hX1 := (set_other W0 w.heap.size i wr.heap.size (.int .i64 (-1)) (by omega)).trans hX0
      have hB : w.heap.size ≤ wr.heap.size := hRa.bl.size
      have HA : Hid (Nos L M xs i ∧ HasI w (.slice an t.names.length cn) t.names ∧ HasP w (.slice ap t.pairs.length cp) t.pairs ∧ t.Bd) := ⟨hNo, hn0, hp0, hbd⟩
      have HX : Hid _ := And.intro hR1 (And.intro hX1 hW0)
      have HP : Hid _ := And.intro hpt hnm
      clear hR0 hX0 hR1 hX1 hb0 hW0 hRa hNo hn0 hp0 hbd hpt hnm ht
      go_upto_region 6 with fail
      rw [← HX.out.2.2] at cI cF ⊢
      go_upto_region 7 with fail
      obtain ⟨W6, hW6⟩ : ∃ W6, W6 = W0.setCell ⟨w.heap.size, i, none⟩ (.int .i64 (-1)) := ⟨_, rfl⟩
      rw [← hW6]
      have hR6 := HX.out.1
      have hX6 := HX.out.2.1
      rw [← hW6] at hR6 hX6
      obtain ⟨y0, y1, y2, y3, y4, y5, yf⟩ := six6 hX6
      have H6 : Hid _ := And.intro hR6 hX6
      clear hR6 hX6 hW6 HX x0 x1 x2 x3 x4 x5 c0 cI cF
      obtain ⟨s, hs⟩ : ∃ s, s = t.moved fun p => Tm.sg (Tm.num L M p.toNat) := ⟨_, rfl⟩
      have hnm := HP.out.2
      rw [← hs] at hnm
      by_cases k34 : t.kind = 3 ∨ t.kind = 4
      · have htw : t.two = true := by unfold Tm.two; rcases k34 with e | e <;> simp [e]
        have hpp : t.parts = [t.a, t.b] := by unfold Tm.parts; rw [if_neg (by omega), if_pos k34]
        have hpt := HP.out.1
        rw [hpp] at hpt
        have ha := hpt t.a (by simp)
        have hb := hpt t.b (by simp)
        obtain ⟨ma, hma⟩ : ∃ ma : Nat, t.a = ma := ⟨t.a.toNat, by omega⟩
        obtain ⟨mb, hmb⟩ : ∃ mb : Nat, t.b = mb := ⟨t.b.toNat, by omega⟩
        have hsa : s.a = Tm.sg (Tm.num L M ma) := by rw [hs]; simp [Tm.moved, htw, hma]
        have hsb : s.b = Tm.sg (Tm.num L M mb) := by rw [hs]; simp [Tm.moved, htw, hmb]
        have hsz : W6.heap[wr.heap.size]? = some (.cells #[.int .i64 t.kind, .int .i64 t.label, .int .i64 (ma : Int), .int .i64 (mb : Int), .slice an t.names.length cn, .slice ap t.pairs.length cp] 39 (0, 0)) := by rw [← hma, ← hmb]; exact H6.out.2
        have cA := H6.out.1.cell (i := ma) (x := Tm.sg (Tm.num L M ma)) (by rw [List.getElem?_set_ne (by omega)]; exact HA.out.1 ma (by omega))
        have cB := H6.out.1.cell (i := mb) (x := Tm.sg (Tm.num L M mb)) (by rw [List.getElem?_set_ne (by omega)]; exact HA.out.1 mb (by omega))
        have yf2 := yf 2
        have yf3 := yf 3
        rw [hma] at y2
        rw [hmb] at y3
        have p0 : (0 : Int) ≤ (ma : Int) := by omega
        have p1 : (ma : Int) < (id : Int) + 1 := by omega
        have p2 : (0 : Int) ≤ (mb : Int) := by omega
        have p3 : (mb : Int) < (id : Int) + 1 := by omega
        have hkk : (t.kind == 3) = true ∨ ((t.kind == 3) = false ∧ (t.kind == 4) = true) := by
          rcases k34 with e | e
          · exact .inl (by rw [e]; rfl)
          · exact .inr ⟨by rw [e]; rfl, by rw [e]; rfl⟩
        have HQ : Hid _ := And.intro hsz (And.intro hsa (And.intro hsb (And.intro hs hnm)))
        clear hsz hsa hsb hs hnm hpt hpp htw k34 ha hb hma hmb yf
        rcases hkk with e3 | ⟨e3, e4⟩
        all_goals
          go_upto_region 10 with fail
          go_region
          go_upto_region 15 with fail
          obtain ⟨WB, hWB⟩ : ∃ WB, WB = ((W6.setCell ⟨wr.heap.size, 2, none⟩ (.int .i64 (Tm.sg (Tm.num L M ma)))).setCell ⟨wr.heap.size, 3, none⟩ (.int .i64 (Tm.sg (Tm.num L M mb)))).drew := ⟨_, rfl⟩
          rw [← hWB]
          have hXb : WB.heap[wr.heap.size]? = some (.cells #[.int .i64 s.kind, .int .i64 s.label, .int .i64 s.a, .int .i64 s.b, .slice an t.names.length cn, .slice ap t.pairs.length cp] 39 (0, 0)) := by
            have h2 := heap_setCell_same _ _ 3 _ _ (.int .i64 (Tm.sg (Tm.num L M mb))) (heap_setCell_same _ _ 2 _ _ (.int .i64 (Tm.sg (Tm.num L M ma))) HQ.out.1)
            have ek : s.kind = t.kind := by rw [HQ.out.2.2.2.1]; rfl
            have el : s.label = t.label := by rw [HQ.out.2.2.2.1]; rfl
            rw [HQ.out.2.1, HQ.out.2.2.1, ek, el, hWB]
            exact h2
          have hRb : Ra w WB w.heap.size (xs.set i (-1)) := by
            rw [hWB]
            exact ((H6.out.1.other wr.heap.size 2 _ hB (by omega)).other wr.heap.size 3 _ hB (by omega)).below ((Below.refl _ _).drew)
          have HB : Hid _ := And.intro hXb (And.intro hRb (And.intro (show s.names = t.names by rw [HQ.out.2.2.2.1]; rfl) (And.intro (show s.pairs = t.pairs by rw [HQ.out.2.2.2.1]; rfl) HQ.out.2.2.2.2)))
          clear hXb hRb hWB HQ H6 y0 y1 y2 y3 y4 y5 yf2 yf3 cA cB
          -- the box holds s; HB: its block, the numbers, where s comes from
          obtain ⟨y0, y1, y2, y3, y4, y5, _⟩ := six6 HB.out.1
          have hb9 := HB.out.2.1.bl
          obtain ⟨ao2, cap2, hc2⟩ := (HS.out.2.1.below hb9).cell
          have hnW : HasI WB (.slice an t.names.length cn) s.names := by rw [HB.out.2.2.1]; exact HA.out.2.1.below hb9
          have hpW : HasP WB (.slice ap t.pairs.length cp) s.pairs := by rw [HB.out.2.2.2.1]; exact HA.out.2.2.1.below hb9
          have hM := rmay_any b2 ao2 M.length cap2 s (.slice an t.names.length cn) (.slice ap t.pairs.length cp) WB hc2 hnW hpW (by rw [HB.out.2.2.1]; have := HA.out.2.2.2.nl; omega) (by rw [HB.out.2.2.2.1]; have := HA.out.2.2.2.pl; omega)
          unfold tmV at hM
          cases hmay : s.may M.length with
          | false =>
            rw [hmay] at hM
            have HM : Hid _ := hM
            have HN : Hid _ := HB.out.2.2.2.2.1 hmay
            clear hM hnW hpW hc2 hb9
            go_wp2_with fail
            refine Calls.mono HM.out ?_
            rintro r8 w8 ⟨rfl, hb8⟩
            have H8 : Hid (Ra w w8 w.heap.size (xs.set i (-1))) := HB.out.2.1.below hb8
            clear hb8 HM y0 y1 y2 y3 y4 y5
            go_wp2_with fail
            go_roundg (id + 1 - (i + 1))
            case measure => omega
            case rel => exact ⟨i + 1, xs.set i (-1), rfl, by omega, by go_num, by rw [List.length_set]; exact hxl, by have h9 := HA.out.1.next (M := M) (by omega : i < xs.length); rw [HN.out] at h9; exact h9, H8.out⟩
          | true =>
            rw [hmay] at hM
            have HM : Hid _ := hM
            have HN : Hid _ := HB.out.2.2.2.2.2 hmay
            have hF : ∀ W, Below WB.heap.size WB W → Calls Tryd.prog 32 #[.pointer (some ⟨b2, 0, none⟩), tmV s (.slice an t.names.length cn) (.slice ap t.pairs.length cp)] W fun r w' => ((∃ k : Nat, r = .returned (.int .i64 k) ∧ M[k]? = some s) ∨ (r = .returned (.int .i64 (-1)) ∧ s ∉ M)) ∧ Below W.heap.size W w' := fun W hb => rfind_any b2 M F2 s _ _ W (HS.out.2.1.below (hb9.trans (hb.mono hb9.size))) (hnW.below hb) (hpW.below hb) (may_bd (by omega) hmay)
            unfold tmV at hF
            have HF : Hid _ := hF
            clear hM hnW hpW hc2 hb9 hF
            go_wp2_with fail
            refine Calls.mono HM.out ?_
            rintro r8 w8 ⟨rfl, hb8⟩
            have h8 := HB.out.2.1.below hb8
            clear y0 y1 y2 y3 y4 y5
            obtain ⟨y0, y1, y2, y3, y4, y5, _⟩ := six6 ((hb8.block _ (t_lt HB.out.1)).trans HB.out.1)
            have H8 : Hid _ := And.intro h8 (HF.out w8 hb8)
            clear hb8 HM h8 HF
            go_wp2_with fail
            refine Calls.mono H8.out.2 ?_
            rintro r9 w9 ⟨hr, hb9⟩
            have h9 : Ra w w9 w.heap.size (xs.set i (-1)) := H8.out.1.below hb9
            have cI := h9.cell (i := i) (x := -1) (by rw [List.getElem?_set_self (by omega)])
            have cF := h9.free i
            have H9 : Hid _ := h9
            clear h9 hb9 H8 y0 y1 y2 y3 y4 y5
            rcases hr with ⟨k, rfl, hk⟩ | ⟨rfl, hk⟩
            · have HK : Hid (Tm.num L M i = some k) := HN.out.trans (find_yes (fun i j h1 h2 => HS.out.2.2.2 _ i j h1 h2) hk)
              clear hk
              go_wp2_with fail
              go_roundg (id + 1 - (i + 1))
              case measure => omega
              case rel => exact ⟨i + 1, xs.set i (k : Int), rfl, by omega, by go_num, by rw [List.length_set]; exact hxl, by have h9 := HA.out.1.next (M := M) (by omega : i < xs.length); rw [HK.out] at h9; exact h9, by have h7 := H9.out.set i (k : Int); rw [List.set_set] at h7; exact h7⟩
            · have HK : Hid (Tm.num L M i = none) := HN.out.trans (find_no hk)
              clear hk
              go_wp2_with fail
              go_roundg (id + 1 - (i + 1))
              case measure => omega
              case rel => exact ⟨i + 1, xs.set i (-1), rfl, by omega, by go_num, by rw [List.length_set]; exact hxl, by have h9 := HA.out.1.next (M := M) (by omega : i < xs.length); rw [HK.out] at h9; exact h9, by have h7 := H9.out.set i (-1); rw [List.set_set] at h7; exact h7⟩
      have n3 : (t.kind == 3) = false := by rw [beq_eq_false_iff_ne]; omega
      have n4 : (t.kind == 4) = false := by rw [beq_eq_false_iff_ne]; omega
      have htw : t.two = false := by unfold Tm.two; rw [n3, n4]; rfl
      by_cases k256 : t.kind = 2 ∨ t.kind = 5 ∨ t.kind = 6
      · have hon : t.one = true := by unfold Tm.one; rcases k256 with e | e | e <;> simp [e]
        have hpp : t.parts = [t.a] := by unfold Tm.parts; rw [if_pos k256]
        have hpt := HP.out.1
        rw [hpp] at hpt
        have ha := hpt t.a (by simp)
        obtain ⟨ma, hma⟩ : ∃ ma : Nat, t.a = ma := ⟨t.a.toNat, by omega⟩
        have hsa : s.a = Tm.sg (Tm.num L M ma) := by rw [hs]; simp [Tm.moved, hon, hma]
        have hsb : s.b = t.b := by rw [hs]; simp [Tm.moved, htw]
        have hsz : W6.heap[wr.heap.size]? = some (.cells #[.int .i64 t.kind, .int .i64 t.label, .int .i64 (ma : Int), .int .i64 t.b, .slice an t.names.length cn, .slice ap t.pairs.length cp] 39 (0, 0)) := by rw [← hma]; exact H6.out.2
        have cA := H6.out.1.cell (i := ma) (x := Tm.sg (Tm.num L M ma)) (by rw [List.getElem?_set_ne (by omega)]; exact HA.out.1 ma (by omega))
        have yf2 := yf 2
        rw [hma] at y2
        have p0 : (0 : Int) ≤ (ma : Int) := by omega
        have p1 : (ma : Int) < (id : Int) + 1 := by omega
        have hkk : (t.kind == 2) = true ∨ ((t.kind == 2) = false ∧ (t.kind == 5) = true) ∨ ((t.kind == 2) = false ∧ (t.kind == 5) = false ∧ (t.kind == 6) = true) := by
          rcases k256 with e | e | e
          · exact .inl (by rw [e]; rfl)
          · exact .inr (.inl ⟨by rw [e]; rfl, by rw [e]; rfl⟩)
          · exact .inr (.inr ⟨by rw [e]; rfl, by rw [e]; rfl, by rw [e]; rfl⟩)
        have HQ : Hid _ := And.intro hsz (And.intro hsa (And.intro hsb (And.intro hs hnm)))
        clear hsz hsa hsb hs hnm hpt hpp htw hon k34 k256 ha hma yf
        rcases hkk with e2 | ⟨e2, e5⟩ | ⟨e2, e5, e6⟩
        all_goals
          go_upto_region 15 with fail
          obtain ⟨WB, hWB⟩ : ∃ WB, WB = W6.setCell ⟨wr.heap.size, 2, none⟩ (.int .i64 (Tm.sg (Tm.num L M ma))) := ⟨_, rfl⟩
          rw [← hWB]
          have hXb : WB.heap[wr.heap.size]? = some (.cells #[.int .i64 s.kind, .int .i64 s.label, .int .i64 s.a, .int .i64 s.b, .slice an t.names.length cn, .slice ap t.pairs.length cp] 39 (0, 0)) := by
            have h2 := heap_setCell_same _ _ 2 _ _ (.int .i64 (Tm.sg (Tm.num L M ma))) HQ.out.1
            have ek : s.kind = t.kind := by rw [HQ.out.2.2.2.1]; rfl
            have el : s.label = t.label := by rw [HQ.out.2.2.2.1]; rfl
            rw [HQ.out.2.1, HQ.out.2.2.1, ek, el, hWB]
            exact h2
          have hRb : Ra w WB w.heap.size (xs.set i (-1)) := by
            rw [hWB]
            exact H6.out.1.other wr.heap.size 2 _ hB (by omega)
          have HB : Hid _ := And.intro hXb (And.intro hRb (And.intro (show s.names = t.names by rw [HQ.out.2.2.2.1]; rfl) (And.intro (show s.pairs = t.pairs by rw [HQ.out.2.2.2.1]; rfl) HQ.out.2.2.2.2)))
          clear hXb hRb hWB HQ H6 y0 y1 y2 y3 y4 y5 yf2 cA
          -- the box holds s; HB: its block, the numbers, where s comes from
          obtain ⟨y0, y1, y2, y3, y4, y5, _⟩ := six6 HB.out.1
          have hb9 := HB.out.2.1.bl
          obtain ⟨ao2, cap2, hc2⟩ := (HS.out.2.1.below hb9).cell
          have hnW : HasI WB (.slice an t.names.length cn) s.names := by rw [HB.out.2.2.1]; exact HA.out.2.1.below hb9
          have hpW : HasP WB (.slice ap t.pairs.length cp) s.pairs := by rw [HB.out.2.2.2.1]; exact HA.out.2.2.1.below hb9
          have hM := rmay_any b2 ao2 M.length cap2 s (.slice an t.names.length cn) (.slice ap t.pairs.length cp) WB hc2 hnW hpW (by rw [HB.out.2.2.1]; have := HA.out.2.2.2.nl; omega) (by rw [HB.out.2.2.2.1]; have := HA.out.2.2.2.pl; omega)
          unfold tmV at hM
          cases hmay : s.may M.length with
          | false =>
            rw [hmay] at hM
            have HM : Hid _ := hM
            have HN : Hid _ := HB.out.2.2.2.2.1 hmay
            clear hM hnW hpW hc2 hb9
            go_wp2_with fail
            refine Calls.mono HM.out ?_
            rintro r8 w8 ⟨rfl, hb8⟩
            have H8 : Hid (Ra w w8 w.heap.size (xs.set i (-1))) := HB.out.2.1.below hb8
            clear hb8 HM y0 y1 y2 y3 y4 y5
            go_wp2_with fail
            go_roundg (id + 1 - (i + 1))
            case measure => omega
            case rel => exact ⟨i + 1, xs.set i (-1), rfl, by omega, by go_num, by rw [List.length_set]; exact hxl, by have h9 := HA.out.1.next (M := M) (by omega : i < xs.length); rw [HN.out] at h9; exact h9, H8.out⟩
          | true =>
            rw [hmay] at hM
            have HM : Hid _ := hM
            have HN : Hid _ := HB.out.2.2.2.2.2 hmay
            have hF : ∀ W, Below WB.heap.size WB W → Calls Tryd.prog 32 #[.pointer (some ⟨b2, 0, none⟩), tmV s (.slice an t.names.length cn) (.slice ap t.pairs.length cp)] W fun r w' => ((∃ k : Nat, r = .returned (.int .i64 k) ∧ M[k]? = some s) ∨ (r = .returned (.int .i64 (-1)) ∧ s ∉ M)) ∧ Below W.heap.size W w' := fun W hb => rfind_any b2 M F2 s _ _ W (HS.out.2.1.below (hb9.trans (hb.mono hb9.size))) (hnW.below hb) (hpW.below hb) (may_bd (by omega) hmay)
            unfold tmV at hF
            have HF : Hid _ := hF
            clear hM hnW hpW hc2 hb9 hF
            go_wp2_with fail
            refine Calls.mono HM.out ?_
            rintro r8 w8 ⟨rfl, hb8⟩
            have h8 := HB.out.2.1.below hb8
            clear y0 y1 y2 y3 y4 y5
            obtain ⟨y0, y1, y2, y3, y4, y5, _⟩ := six6 ((hb8.block _ (t_lt HB.out.1)).trans HB.out.1)
            have H8 : Hid _ := And.intro h8 (HF.out w8 hb8)
            clear hb8 HM h8 HF
            go_wp2_with fail
            refine Calls.mono H8.out.2 ?_
            rintro r9 w9 ⟨hr, hb9⟩
            have h9 : Ra w w9 w.heap.size (xs.set i (-1)) := H8.out.1.below hb9
            have cI := h9.cell (i := i) (x := -1) (by rw [List.getElem?_set_self (by omega)])
            have cF := h9.free i
            have H9 : Hid _ := h9
            clear h9 hb9 H8 y0 y1 y2 y3 y4 y5
            rcases hr with ⟨k, rfl, hk⟩ | ⟨rfl, hk⟩
            · have HK : Hid (Tm.num L M i = some k) := HN.out.trans (find_yes (fun i j h1 h2 => HS.out.2.2.2 _ i j h1 h2) hk)
              clear hk
              go_wp2_with fail
              go_roundg (id + 1 - (i + 1))
              case measure => omega
              case rel => exact ⟨i + 1, xs.set i (k : Int), rfl, by omega, by go_num, by rw [List.length_set]; exact hxl, by have h9 := HA.out.1.next (M := M) (by omega : i < xs.length); rw [HK.out] at h9; exact h9, by have h7 := H9.out.set i (k : Int); rw [List.set_set] at h7; exact h7⟩
            · have HK : Hid (Tm.num L M i = none) := HN.out.trans (find_no hk)
              clear hk
              go_wp2_with fail
              go_roundg (id + 1 - (i + 1))
              case measure => omega
              case rel => exact ⟨i + 1, xs.set i (-1), rfl, by omega, by go_num, by rw [List.length_set]; exact hxl, by have h9 := HA.out.1.next (M := M) (by omega : i < xs.length); rw [HK.out] at h9; exact h9, by have h7 := H9.out.set i (-1); rw [List.set_set] at h7; exact h7⟩
      · have n2 : (t.kind == 2) = false := by rw [beq_eq_false_iff_ne]; omega
        have n5 : (t.kind == 5) = false := by rw [beq_eq_false_iff_ne]; omega
        have n6 : (t.kind == 6) = false := by rw [beq_eq_false_iff_ne]; omega
        have hon : t.one = false := by unfold Tm.one; rw [n2, n5, n6]; rfl
        have hst : s = t := by
          rw [hs]
          obtain ⟨k, l, a, b, ns, ps⟩ := t
          simp only [Tm.moved, htw, hon]
          rfl
        have hXs : W6.heap[wr.heap.size]? = some (.cells #[.int .i64 s.kind, .int .i64 s.label, .int .i64 s.a, .int .i64 s.b, .slice an t.names.length cn, .slice ap t.pairs.length cp] 39 (0, 0)) := by rw [hst]; exact H6.out.2
        have HB : Hid _ := And.intro hXs (And.intro H6.out.1 (And.intro (show s.names = t.names by rw [hst]) (And.intro (show s.pairs = t.pairs by rw [hst]) hnm)))
        obtain ⟨WB, rfl⟩ : ∃ WB, WB = W6 := ⟨_, rfl⟩
        clear hs hnm htw hon k34 k256 H6 yf hst hXs
        go_upto_region 15 with fail
        clear y0 y1 y2 y3 y4 y5
        -- the box holds s; HB: its block, the numbers, where s comes from
        obtain ⟨y0, y1, y2, y3, y4, y5, _⟩ := six6 HB.out.1
        have hb9 := HB.out.2.1.bl
        obtain ⟨ao2, cap2, hc2⟩ := (HS.out.2.1.below hb9).cell
        have hnW : HasI WB (.slice an t.names.length cn) s.names := by rw [HB.out.2.2.1]; exact HA.out.2.1.below hb9
        have hpW : HasP WB (.slice ap t.pairs.length cp) s.pairs := by rw [HB.out.2.2.2.1]; exact HA.out.2.2.1.below hb9
        have hM := rmay_any b2 ao2 M.length cap2 s (.slice an t.names.length cn) (.slice ap t.pairs.length cp) WB hc2 hnW hpW (by rw [HB.out.2.2.1]; have := HA.out.2.2.2.nl; omega) (by rw [HB.out.2.2.2.1]; have := HA.out.2.2.2.pl; omega)
        unfold tmV at hM
        cases hmay : s.may M.length with
        | false =>
          rw [hmay] at hM
          have HM : Hid _ := hM
          have HN : Hid _ := HB.out.2.2.2.2.1 hmay
          clear hM hnW hpW hc2 hb9
          go_wp2_with fail
          refine Calls.mono HM.out ?_
          rintro r8 w8 ⟨rfl, hb8⟩
          have H8 : Hid (Ra w w8 w.heap.size (xs.set i (-1))) := HB.out.2.1.below hb8
          clear hb8 HM y0 y1 y2 y3 y4 y5
          go_wp2_with fail
          go_roundg (id + 1 - (i + 1))
          case measure => omega
          case rel => exact ⟨i + 1, xs.set i (-1), rfl, by omega, by go_num, by rw [List.length_set]; exact hxl, by have h9 := HA.out.1.next (M := M) (by omega : i < xs.length); rw [HN.out] at h9; exact h9, H8.out⟩
        | true =>
          rw [hmay] at hM
          have HM : Hid _ := hM
          have HN : Hid _ := HB.out.2.2.2.2.2 hmay
          have hF : ∀ W, Below WB.heap.size WB W → Calls Tryd.prog 32 #[.pointer (some ⟨b2, 0, none⟩), tmV s (.slice an t.names.length cn) (.slice ap t.pairs.length cp)] W fun r w' => ((∃ k : Nat, r = .returned (.int .i64 k) ∧ M[k]? = some s) ∨ (r = .returned (.int .i64 (-1)) ∧ s ∉ M)) ∧ Below W.heap.size W w' := fun W hb => rfind_any b2 M F2 s _ _ W (HS.out.2.1.below (hb9.trans (hb.mono hb9.size))) (hnW.below hb) (hpW.below hb) (may_bd (by omega) hmay)
          unfold tmV at hF
          have HF : Hid _ := hF
          clear hM hnW hpW hc2 hb9 hF
          go_wp2_with fail
          refine Calls.mono HM.out ?_
          rintro r8 w8 ⟨rfl, hb8⟩
          have h8 := HB.out.2.1.below hb8
          clear y0 y1 y2 y3 y4 y5
          obtain ⟨y0, y1, y2, y3, y4, y5, _⟩ := six6 ((hb8.block _ (t_lt HB.out.1)).trans HB.out.1)
          have H8 : Hid _ := And.intro h8 (HF.out w8 hb8)
          clear hb8 HM h8 HF
          go_wp2_with fail
          refine Calls.mono H8.out.2 ?_
          rintro r9 w9 ⟨hr, hb9⟩
          have h9 : Ra w w9 w.heap.size (xs.set i (-1)) := H8.out.1.below hb9
          have cI := h9.cell (i := i) (x := -1) (by rw [List.getElem?_set_self (by omega)])
          have cF := h9.free i
          have H9 : Hid _ := h9
          clear h9 hb9 H8 y0 y1 y2 y3 y4 y5
          rcases hr with ⟨k, rfl, hk⟩ | ⟨rfl, hk⟩
          · have HK : Hid (Tm.num L M i = some k) := HN.out.trans (find_yes (fun i j h1 h2 => HS.out.2.2.2 _ i j h1 h2) hk)
            clear hk
            go_wp2_with fail
            go_roundg (id + 1 - (i + 1))
            case measure => omega
            case rel => exact ⟨i + 1, xs.set i (k : Int), rfl, by omega, by go_num, by rw [List.length_set]; exact hxl, by have h9 := HA.out.1.next (M := M) (by omega : i < xs.length); rw [HK.out] at h9; exact h9, by have h7 := H9.out.set i (k : Int); rw [List.set_set] at h7; exact h7⟩
          · have HK : Hid (Tm.num L M i = none) := HN.out.trans (find_no hk)
            clear hk
            go_wp2_with fail
            go_roundg (id + 1 - (i + 1))
            case measure => omega
            case rel => exact ⟨i + 1, xs.set i (-1), rfl, by omega, by go_num, by rw [List.length_set]; exact hxl, by have h9 := HA.out.1.next (M := M) (by omega : i < xs.length); rw [HK.out] at h9; exact h9, by have h7 := H9.out.set i (-1); rw [List.set_set] at h7; exact h7⟩
    · obtain rfl : i = id + 1 := by omega
      have q2 : ¬ (((id + 1 : Nat) : Int) ≤ (id : Int)) := by omega
      have cI := hRa.cell (hNo id (by omega))
      have q3 : (0 : Int) ≤ (id : Int) := by omega
      have q4 : (id : Int) < (id : Int) + 1 := by omega
      have HB : Hid _ := hRa.bl
      have HE : Hid _ := sg_eq (Tm.num L M id) other
      clear hRa hNo
      go_wp2_with fail
      go_ret
      exact ⟨congrArg (fun z => Ending.returned (Value.bool z)) HE.out, HB.out⟩
end Go.Proofs.YtoamnhhegneegaaDoor
