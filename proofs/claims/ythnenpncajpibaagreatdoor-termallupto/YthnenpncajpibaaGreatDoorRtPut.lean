/- Contracts of the document's Put. -/
import Derived.Test.YthnenpncajpibaaGreatDoorRtPut0
import Derived.Deep.DeepCutAuto
namespace Go.Proofs.YthnenpncajpibaaGreatDoor
open Go.RowKit Go.Maps
attribute [local go_sem ↓] Go.wp_at_zero Go.wp_at_succ
set_option maxRecDepth 100000 in
set_option maxHeartbeats 1600000 in
/-- Put of what may not be put. -/
theorem rput_bad (b : Nat) (L : List Tm) (F : Nat → Prop) (t : Tm) (vn vp : Value) (w : World) (hS : RStoB w b L F) (hn : HasI w vn t.names) (hp : HasP w vp t.pairs) (ln : t.names.length ≤ 1000000000000000) (lp : t.pairs.length ≤ 1000000000000000) (hmay : t.may L.length = false) :
    Calls Tryz.prog 23 #[.pointer (some ⟨b, 0, none⟩), tmV t vn vp] w fun r w' => r = .returned (.int .i64 (-1)) ∧ Below w.heap.size w w' := by
  obtain ⟨ao, cap, hc⟩ := hS.cell
  obtain ⟨W, hW⟩ : ∃ W, W = w.alloc (.cells #[.int .i64 t.kind, .int .i64 t.label, .int .i64 t.a, .int .i64 t.b, vn, vp] 35) := ⟨_, rfl⟩
  have hb : Below w.heap.size w W := by rw [hW]; exact (Below.refl _ _).alloc (Nat.le_refl _) _
  have hM := rmay_any b ao L.length cap t vn vp W (cell_up hc hb) (hn.below hb) (hp.below hb) ln lp
  rw [hmay] at hM
  unfold tmV at hM ⊢
  obtain ⟨an, cn, rfl, _⟩ := hn
  obtain ⟨ap, cp, rfl, _⟩ := hp
  have HM : Hid _ := And.intro hM (And.intro hb hW)
  clear hM hb hW hc
  go_enter Tryz.func23, Tryz.ntmps23
  go_wp2_with fail
  rw [← HM.out.2.2]
  refine HM.out.1.mono ?_
  rintro r w1 ⟨rfl, hb1⟩
  have HB : Hid _ := HM.out.2.1.trans (hb1.mono HM.out.2.1.size)
  clear hb1
  go_wp2_with fail
  go_ret
  exact ⟨rfl, HB.out⟩
set_option maxRecDepth 100000 in
set_option maxHeartbeats 1600000 in
/-- Put of a term that is there. -/
theorem rput_old (b : Nat) (L : List Tm) (F : Nat → Prop) (t : Tm) (vn vp : Value) (w : World) (hS : RStoB w b L F) (hn : HasI w vn t.names) (hp : HasP w vp t.pairs) (hmay : t.may L.length = true) (hin : t ∈ L) :
    Calls Tryz.prog 23 #[.pointer (some ⟨b, 0, none⟩), tmV t vn vp] w fun r w' => (∃ k : Nat, r = .returned (.int .i64 k) ∧ L[k]? = some t) ∧ Below w.heap.size w w' := by
  obtain ⟨ao, cap, hc⟩ := hS.cell
  have hbd := may_bd (by have := hS.big; omega) hmay
  obtain ⟨W, hW⟩ : ∃ W, W = w.alloc (.cells #[.int .i64 t.kind, .int .i64 t.label, .int .i64 t.a, .int .i64 t.b, vn, vp] 35) := ⟨_, rfl⟩
  have hb : Below w.heap.size w W := by rw [hW]; exact (Below.refl _ _).alloc (Nat.le_refl _) _
  have hX : W.heap[w.heap.size]? = some (.cells #[.int .i64 t.kind, .int .i64 t.label, .int .i64 t.a, .int .i64 t.b, vn, vp] 35 (0, 0)) := by rw [hW]; exact (MapKept.heap_alloc w _).1
  have hM := rmay_any b ao L.length cap t vn vp W (cell_up hc hb) (hn.below hb) (hp.below hb) (by have := hbd.nl; omega) (by have := hbd.pl; omega)
  have hF : ∀ W', Below w.heap.size w W' → Calls Tryz.prog 84 #[.pointer (some ⟨b, 0, none⟩), tmV t vn vp] W' fun r w' => ((∃ k : Nat, r = .returned (.int .i64 k) ∧ L[k]? = some t) ∨ (r = .returned (.int .i64 (-1)) ∧ t ∉ L)) ∧ Below W'.heap.size W' w' := fun W' h => rfind_any b L F t vn vp W' (hS.below h) (hn.below h) (hp.below h) hbd
  rw [hmay] at hM
  unfold tmV at hM hF ⊢
  obtain ⟨an, cn, rfl, _⟩ := hn
  obtain ⟨ap, cp, rfl, _⟩ := hp
  have HM : Hid _ := And.intro hM (And.intro hb (And.intro hW (And.intro hX hF)))
  clear hM hb hW hX hF hc
  go_enter Tryz.func23, Tryz.ntmps23
  go_wp2_with fail
  rw [← HM.out.2.2.1]
  refine HM.out.1.mono ?_
  rintro r w1 ⟨rfl, hb1⟩
  obtain ⟨x0, x1, x2, x3, x4, x5, xf⟩ := six6 ((hb1.block _ (t_lt HM.out.2.2.2.1)).trans HM.out.2.2.2.1)
  have HB : Hid _ := HM.out.2.1.trans (hb1.mono HM.out.2.1.size)
  clear hb1
  go_wp2_with fail
  refine (HM.out.2.2.2.2 _ HB.out).mono ?_
  rintro r w2 ⟨h, hb2⟩
  rcases h with ⟨k, rfl, hk⟩ | ⟨rfl, hno⟩
  · have q0 : (0 : Int) ≤ (k : Int) := by omega
    have HK : Hid _ := And.intro hk hb2
    clear hk hb2
    go_wp2_with fail
    go_ret
    exact ⟨⟨k, rfl, HK.out.1⟩, HB.out.trans (HK.out.2.mono HB.out.size)⟩
  · exact absurd hin hno
set_option linter.unusedSimpArgs false in
set_option maxRecDepth 100000 in
set_option maxHeartbeats 3200000 in
/-- Put of a new term. -/
theorem rput_new (b : Nat) (L : List Tm) (F : Nat → Prop) (t : Tm) (vn vp : Value) (w : World) (hS : RStoB w b L F) (hn : HasI w vn t.names) (hp : HasP w vp t.pairs) (hmay : t.may L.length = true) (hnew : t ∉ L) (hlen : L.length < 100000) :
    Calls Tryz.prog 23 #[.pointer (some ⟨b, 0, none⟩), tmV t vn vp] w fun r w' => r = .returned (.int .i64 L.length) ∧ ∃ F', RStoB w' b (L ++ [t]) F' ∧ Kept F w w' ∧ (∀ i, F' i → F i ∨ w.heap.size ≤ i) := by
  obtain ⟨ao, cap, hc⟩ := hS.cell
  have hbd := may_bd (by have := hS.big; omega) hmay
  obtain ⟨i0, hi0, hz0, hz1, hz2⟩ := info_parts Tryz.infoI3
  obtain ⟨j0, hj0, hy0, hy1, hy2⟩ := info_parts Tryz.infoP3
  obtain ⟨k0, hk0, hv0, hv1, hv2⟩ := info_parts Tryz.infoT
  obtain ⟨W, hW⟩ : ∃ W, W = w.alloc (.cells #[.int .i64 t.kind, .int .i64 t.label, .int .i64 t.a, .int .i64 t.b, vn, vp] 35) := ⟨_, rfl⟩
  have hb : Below w.heap.size w W := by rw [hW]; exact (Below.refl _ _).alloc (Nat.le_refl _) _
  have hX : W.heap[w.heap.size]? = some (.cells #[.int .i64 t.kind, .int .i64 t.label, .int .i64 t.a, .int .i64 t.b, vn, vp] 35 (0, 0)) := by rw [hW]; exact (MapKept.heap_alloc w _).1
  have hM := rmay_any b ao L.length cap t vn vp W (cell_up hc hb) (hn.below hb) (hp.below hb) (by have := hbd.nl; omega) (by have := hbd.pl; omega)
  have hF : ∀ W', Below w.heap.size w W' → Calls Tryz.prog 84 #[.pointer (some ⟨b, 0, none⟩), tmV t vn vp] W' fun r w' => ((∃ k : Nat, r = .returned (.int .i64 k) ∧ L[k]? = some t) ∨ (r = .returned (.int .i64 (-1)) ∧ t ∉ L)) ∧ Below W'.heap.size W' w' := fun W' h => rfind_any b L F t vn vp W' (hS.below h) (hn.below h) (hp.below h) hbd
  rw [hmay] at hM
  unfold tmV at hM hF ⊢
  have HN : Hid _ := And.intro hn (And.intro hp (And.intro hbd (And.intro hS hnew)))
  obtain ⟨an, cn, rfl, _⟩ := id hn
  obtain ⟨ap, cp, rfl, _⟩ := id hp
  have ln : t.names.length ≤ maxLen := by have := hbd.nl; unfold maxLen; omega
  have ln8 : t.names.length * 8 ≤ 140737488355328 := by have := hbd.nl; omega
  have lp : t.pairs.length ≤ maxLen := by have := hbd.pl; unfold maxLen; omega
  have lp16 : t.pairs.length * 16 ≤ 140737488355328 := by have := hbd.pl; omega
  have HM : Hid _ := And.intro hM (And.intro hb (And.intro hW (And.intro hX hF)))
  clear hM hb hW hX hF hc hn hp hbd hS hnew
  go_enter Tryz.func23, Tryz.ntmps23
  go_wp2_with fail
  rw [← HM.out.2.2.1]
  refine HM.out.1.mono ?_
  rintro r w1 ⟨rfl, hb1⟩
  have hX1 := (hb1.block _ (t_lt HM.out.2.2.2.1)).trans HM.out.2.2.2.1
  obtain ⟨x0, x1, x2, x3, x4, x5, xf⟩ := six6 hX1
  have HB : Hid _ := And.intro (HM.out.2.1.trans (hb1.mono HM.out.2.1.size)) hX1
  clear hb1 hX1
  go_wp2_with fail
  refine (HM.out.2.2.2.2 _ HB.out.1).mono ?_
  rintro r w2 ⟨h, hb2⟩
  rcases h with ⟨k, rfl, hk⟩ | ⟨rfl, _⟩
  · exact absurd (List.mem_of_getElem? hk) HN.out.2.2.2.2
  have hX2 := (hb2.block _ (t_lt HB.out.2)).trans HB.out.2
  have hB2 := HB.out.1.trans (hb2.mono HB.out.1.size)
  have hcI := hasI_copy (HN.out.1.below hB2)
  have hPw := HN.out.2.1.below hB2
  have H2 : Hid _ := And.intro hB2 (And.intro hX2 (And.intro hcI hPw))
  clear x0 x1 x2 x3 x4 x5 xf
  obtain ⟨x0, x1, x2, x3, x4, x5, xf⟩ := six6 hX2
  clear hb2 hX2 hB2 hcI hPw
  have hlB : w.heap.size < w2.heap.size := t_lt H2.out.2.1
  go_wp2_with (first | (at_builtin; refine wpList_copy_at _ rfl _ _ 29 rfl w2.heap.size 3 i0 (.int .i64 0) 1 8 Tryz.underlying29 hi0 hz0 hz1 hz2 rfl (by decide) rfl an t.names.length cn (iC t.names) rfl H2.out.2.2.1.1 (iC_length _) H2.out.2.2.1.2 (iC_one _) ln ln8 (Nat.le_refl _) ?_; intro v1 w3 hown1 hgrow1 hat1; obtain ⟨ao1, cap1, rfl⟩ := row_shape hown1; have g1 := tgrown0 hgrow1; clear x0 x1 x2 x3 x4 x5 xf; obtain ⟨x0, x1, x2, x3, x4, x5, xf⟩ := six6 ((g1.block _ hlB).trans H2.out.2.1); have hO1 : OwnI w3 w2.heap.size (.slice ao1 t.names.length cap1) t.names := hown1; have hlB3 : w.heap.size < w3.heap.size := Nat.lt_of_lt_of_le hlB g1.size; have hB4 : Below w.heap.size w (w3.setCell ⟨w.heap.size, 4, none⟩ (.slice ao1 t.names.length cap1)) := (H2.out.1.trans (g1.mono H2.out.1.size)).setCell (Nat.le_refl _) _; have hcP := hasP_copy (HN.out.2.1.below hB4); have hle : w2.heap.size ≤ (w3.setCell ⟨w.heap.size, 4, none⟩ (.slice ao1 t.names.length cap1)).heap.size := (by rw [set_size]; exact g1.size); have H3 : Hid _ := And.intro g1 (And.intro hO1 (And.intro hcP hle)); clear hown1 hgrow1 hat1 hO1 g1 hB4 hcP hle) | (at_builtin; refine wpList_copy_at _ rfl _ _ 33 rfl w2.heap.size 75 j0 (.agg #[.int .i64 0, .int .i64 0]) 2 16 Tryz.underlying33 hj0 hy0 hy1 hy2 rfl (by decide) rfl ap t.pairs.length cp (pC t.pairs) rfl H3.out.2.2.1.1 (pC_length _) H3.out.2.2.1.2 (pC_one _) lp lp16 H3.out.2.2.2 ?_; intro v2 w5 hown2 hgrow2 hat2; obtain ⟨ao2, cap2, rfl⟩ := row_shape hown2; have hO2 : OwnP w5 w2.heap.size (.slice ao2 t.pairs.length cap2) t.pairs := hown2; have hR := rbox_fin H2.out.2.1 H2.out.1 (Nat.le_refl _) H3.out.1 H3.out.2.1 (tgrown0 hgrow2) hO2; clear x0 x1 x2 x3 x4 x5 xf; obtain ⟨x0, x1, x2, x3, x4, x5, xf⟩ := six6 (rbox_five H2.out.2.1 H3.out.1 (tgrown0 hgrow2)); have hlB5 : w.heap.size < w5.heap.size := (by have := (tgrown0 hgrow2).size; rw [set_size] at this; omega); have H5 : Hid _ := hR; clear hown2 hgrow2 hat2 hO2 hR))
  obtain ⟨W6, hW6⟩ : ∃ W6, W6 = w5.setCell ⟨w.heap.size, 5, none⟩ (.slice ao2 t.pairs.length cap2) := ⟨_, rfl⟩
  rw [← hW6] at H5 ⊢
  clear hW6 x0 x1 x2 x3 x4 x5 xf hlB hlB3 hlB5
  obtain ⟨cs, vt, rs, vs, hS0, hF0⟩ := HN.out.2.2.2.1
  have h6 := hS0.below H5.out.bl
  obtain ⟨avt, cvt, rfl⟩ := row_shape hS0.row
  have HS : Hid _ := And.intro hS0 (And.intro hF0 h6)
  obtain ⟨x0, x1, x2, x3, x4, x5, xf⟩ := six6 H5.out.box
  obtain ⟨hc0, hch, hcf⟩ := h6.cells
  have hbl := t_lt h6.cell
  have H6 : Hid _ := And.intro (H5.out.below (w5 := W6.drew) ((Below.refl _ _).drew)) (h6.below (w' := W6.drew) ((Below.refl _ _).drew))
  have hml : L.length + 1 ≤ maxLen := by unfold maxLen; omega
  have hby : (L.length + 1) * 80 ≤ 140737488355328 := by omega
  clear hS0 hF0 h6 hch H2 H3 HM HB
  go_cut [31] (fun s31 wx => ∃ gg cap' w7, RAp W6.drew w7 (.slice avt L.length cvt) L vs t (.slice ao1 t.names.length cap1) (.slice ao2 t.pairs.length cap2) (.slice (some ⟨gg, 0, none⟩) (L.length + 1) cap') ∧ wx = w7.setCell ⟨b, 0, none⟩ (.slice (some ⟨gg, 0, none⟩) (L.length + 1) cap'))
  case first =>
    go_region_law
      ((first
        | (refine step_append_lies _ (by rfl) _ _ _ (by rfl) 0 35 k0 _ 6 80 Tryz.underlying22 hk0 hv0 hv1 hv2 rfl (Nat.succ_pos 5) (.slice avt L.length cvt) L.length (rowC L vs) (by rfl) (H6.out.2.row.alloc _)
            ⟨W6.heap.size, 0, none⟩ 1 1 [.int .i64 t.kind, .int .i64 t.label, .int .i64 t.a, .int .i64 t.b, .slice ao1 t.names.length cap1, .slice ao2 t.pairs.length cap2] (by rfl) (by rfl) (World.news_of_block (cs := #[.int .i64 t.kind, .int .i64 t.label, .int .i64 t.a, .int .i64 t.b, .slice ao1 t.names.length cap1, .slice ao2 t.pairs.length cap2]) (t := 35) (fr := (0, 0)) (heap_alloc_new W6.drew _)) (six_one _ _ _ _ _ _ _ _ _ _)
            Nat.one_pos hml hby (Nat.zero_le _) (W6.heap.size + 1) (by simp) ?_; intro gg cap' w7 hown7 hgrow hat hlt7; have hA7 : RAp W6.drew w7 (.slice avt L.length cvt) L vs t (.slice ao1 t.names.length cap1) (.slice ao2 t.pairs.length cap2) (.slice (some ⟨gg, 0, none⟩) (L.length + 1) cap') := ⟨hown7, hgrow, hat.imp (fun h => h.symm) (fun h => by simp [Value.ownBlock, h])⟩; clear hc0 hcf; have hB7 := hA7.cell H6.out.2; have hcf := blk_free hB7; have hc0 := cell0_of hB7 HS.out.1.c0; have hbl7 := t_lt hB7; have H7 : Hid _ := hA7; clear hA7 hB7 hown7 hgrow hat hlt7)
        | fail))
    all_goals (refine Met.intro ?_; apply_assumption; refine Met.intro ?_; apply_assumption; (repeat apply Exists.intro); refine ⟨?rel, rfl⟩; case rel => exact ⟨_, _, _, H7.out, rfl⟩)
  case rest =>
    obtain ⟨gg, cap', w7, hA7, hwc⟩ := hcut
    have hD := rsto_mid HS.out.1 H6.out.1 hA7 HN.out.2.2.1 hlen
    have hDk : Kept (RFoot b (.slice avt L.length cvt) rs vs) w _ := rsto_kept (b := b) (rs := rs) H6.out.1 hA7
    have hDx := (hA7.foot HS.out.1 H6.out.1 (Nat.le_refl _)).trans H6.out.1.box
    rw [← hwc] at hD hDk hDx
    have hDl := hD.lists L.length t (.slice ao1 t.names.length cap1, .slice ao2 t.pairs.length cap2) (by simp) (by rw [← HS.out.1.len]; simp)
    have hh := Tm.hash_lt t
    have hU : ∀ W', Below wc.heap.size wc W' → Calls Tryz.prog 85 #[.agg #[.int .i64 t.kind, .int .i64 t.label, .int .i64 t.a, .int .i64 t.b, .slice ao1 t.names.length cap1, .slice ao2 t.pairs.length cap2]] W' fun r w' => r = .returned (.int .i64 t.hash) ∧ Below W'.heap.size W' w' := fun W' h => rsum_any t _ _ W' (hDl.1.has.below h) (hDl.2.has.below h) HN.out.2.2.1
    have HU : Hid _ := hU
    have HD : Hid _ := And.intro hD (And.intro hDx (And.intro hDk (And.intro hA7 hwc)))
    clear x0 x1 x2 x3 x4 x5 xf hc0 hcf hbl H5
    obtain ⟨x0, x1, x2, x3, x4, x5, xf⟩ := six6 hDx
    obtain ⟨hc0, hch, hcf⟩ := hD.cells
    have hr0 := hch _ hh
    obtain ⟨ar, cr, hrs⟩ := row_shape (hD.rows _ hh)
    obtain ⟨nr, hnr⟩ : ∃ nr, nr = (Tm.idx L t.hash).length := ⟨_, rfl⟩
    rw [← hnr] at hrs
    have hlr := Tm.idx_len L t.hash
    rw [← hnr] at hlr
    have hR : ∀ W', Below wc.heap.size wc W' → W'.ownsRow 0 3 1 (.slice ar nr cr) nr (iC (Tm.idx L t.hash)) := fun W' h => by
      have := (hD.below h).rows _ hh
      unfold OwnI at this
      rw [hrs, ← hnr] at this
      exact this
    have HR : Hid _ := hR
    rw [hrs, Nat.add_comm] at hr0
    have q0 : (0 : Int) ≤ (t.hash : Int) := by omega
    have q1 : (t.hash : Int) < 512 := by omega
    have hml2 : nr + 1 ≤ maxLen := by unfold maxLen; omega
    have hby2 : (nr + 1) * 8 ≤ 140737488355328 := by omega
    have hbl := t_lt hD.cell
    have HRS : Hid _ := hrs
    have hwr : IntKind.i64.wrap (L.length : Int) = (L.length : Int) := by rw [IntKind.wrap_i64]; omega
    have hBc := t_lt HD.out.2.1
    clear hD hDk hDx hDl hU hA7 hwc hch hR hrs hnr
    go_upto_region 9 with fail
    have hne : w.heap.size ≠ b := by have := t_lt HS.out.1.cell; omega
    have hne' : b ≠ w.heap.size := fun e => hne e.symm
    go_cut [51] (fun s51 wx => ∃ (w9 : World) (g2 c2 : Nat) (w10 : World), (Below wc.heap.size wc w9 ∧ RInt w9 w10 b (cs.setIfInBounds 0 (.slice (some ⟨gg, 0, none⟩) (L.length + 1) cap')) (.slice ar nr cr) L t (.slice (some ⟨g2, 0, none⟩) (nr + 1) c2)) ∧ wx = w10.setCell ⟨b, 1 + t.hash, none⟩ (.slice (some ⟨g2, 0, none⟩) (nr + 1) c2))
    case first =>
      refine wp_region_held_drew (S := (fun w' => w'.cell? ⟨w.heap.size, 0, none⟩ = some (.int .i64 t.kind) ∧ w'.cell? ⟨w.heap.size, 1, none⟩ = some (.int .i64 t.label) ∧ w'.cell? ⟨w.heap.size, 2, none⟩ = some (.int .i64 t.a) ∧ w'.cell? ⟨w.heap.size, 3, none⟩ = some (.int .i64 t.b) ∧ w'.cell? ⟨w.heap.size, 4, none⟩ = some (.slice ao1 t.names.length cap1) ∧ w'.cell? ⟨w.heap.size, 5, none⟩ = some (.slice ao2 t.pairs.length cap2) ∧ w'.cell? ⟨b, 0, none⟩ = some (.slice (some ⟨gg, 0, none⟩) (L.length + 1) cap'))) (by kernel_rfl) ?_ (fun hHeld => ?_)
      · exact ⟨x0, x1, x2, x3, x4, x5, hc0⟩
      refine wpAnyH_take (i := 0) (oi := _) (v := ?_) rfl (by kernel_rfl) (by kernel_rfl) (by kernel_rfl) (fun _ _ _ h => h) (Or.inl ⟨by rfl, ?_⟩) (by assumption) ?_
      rotate_left
      · (intro w hSw; (try dsimp only at hSw); go_simp; (try with_reducible rfl))
      (try simp only [Act.put, List.setIfInBounds_toArray, List.set_cons_zero, List.set_cons_succ])
      refine wpAnyH_take (i := 1) (oi := _) (v := ?_) rfl (by kernel_rfl) (by kernel_rfl) (by kernel_rfl) (fun _ _ _ h => h) (Or.inl ⟨by rfl, ?_⟩) (by assumption) ?_
      rotate_left
      · (intro w hSw; (try dsimp only at hSw); go_simp; (try with_reducible rfl))
      (try simp only [Act.put, List.setIfInBounds_toArray, List.set_cons_zero, List.set_cons_succ])
      refine wpAnyH_take (i := 3) (oi := _) (v := ?_) rfl (by kernel_rfl) (by kernel_rfl) (by kernel_rfl) (fun _ _ _ h => h) (Or.inl ⟨by rfl, ?_⟩) (by assumption) ?_
      rotate_left
      · (intro w hSw; (try dsimp only at hSw); go_simp; (try with_reducible rfl))
      (try simp only [Act.put, List.setIfInBounds_toArray, List.set_cons_zero, List.set_cons_succ])
      refine wpAnyH_take (i := 4) (oi := _) (v := ?_) rfl (by kernel_rfl) (by kernel_rfl) (by kernel_rfl) (fun _ _ _ h => h) (Or.inl ⟨by rfl, ?_⟩) (by assumption) ?_
      rotate_left
      · (intro w hSw; (try dsimp only at hSw); go_simp; (try with_reducible rfl))
      (try simp only [Act.put, List.setIfInBounds_toArray, List.set_cons_zero, List.set_cons_succ])
      refine wpAnyH_take (i := 6) (oi := _) (v := ?_) rfl (by kernel_rfl) (by kernel_rfl) (by kernel_rfl) (fun _ _ _ h => h) (Or.inl ⟨by rfl, ?_⟩) (by assumption) ?_
      rotate_left
      · (intro w hSw; (try dsimp only at hSw); go_simp; (try with_reducible rfl))
      (try simp only [Act.put, List.setIfInBounds_toArray, List.set_cons_zero, List.set_cons_succ])
      refine wpAnyH_take (i := 7) (oi := _) (v := ?_) rfl (by kernel_rfl) (by kernel_rfl) (by kernel_rfl) (fun _ _ _ h => h) (Or.inl ⟨by rfl, ?_⟩) (by assumption) ?_
      rotate_left
      · (intro w hSw; (try dsimp only at hSw); go_simp; (try with_reducible rfl))
      (try simp only [Act.put, List.setIfInBounds_toArray, List.set_cons_zero, List.set_cons_succ])
      refine wpAnyH_take (i := 10) (oi := _) (v := ?_) rfl (by kernel_rfl) (by kernel_rfl) (by kernel_rfl) (fun _ _ _ h => h) (Or.inl ⟨by rfl, ?_⟩) (by assumption) ?_
      rotate_left
      · (intro w hSw; (try dsimp only at hSw); go_simp; (try with_reducible rfl))
      (try simp only [Act.put, List.setIfInBounds_toArray, List.set_cons_zero, List.set_cons_succ])
      refine wpAnyH_take (i := 11) (oi := _) (v := ?_) rfl (by kernel_rfl) (by kernel_rfl) (by kernel_rfl) (fun _ _ _ h => h) (Or.inl ⟨by rfl, ?_⟩) (by assumption) ?_
      rotate_left
      · (intro w hSw; (try dsimp only at hSw); go_simp; (try with_reducible rfl))
      (try simp only [Act.put, List.setIfInBounds_toArray, List.set_cons_zero, List.set_cons_succ])
      refine wpAnyH_take (i := 12) (oi := _) (v := ?_) rfl (by kernel_rfl) (by kernel_rfl) (by kernel_rfl) (fun _ _ _ h => h) (Or.inl ⟨by rfl, ?_⟩) (by assumption) ?_
      rotate_left
      · (intro w hSw; (try dsimp only at hSw); go_simp; (try with_reducible rfl))
      (try simp only [Act.put, List.setIfInBounds_toArray, List.set_cons_zero, List.set_cons_succ])
      refine wpAnyH_take (i := 13) (oi := _) (v := ?_) rfl (by kernel_rfl) (by kernel_rfl) (by kernel_rfl) (fun _ _ _ h => h) (Or.inl ⟨by rfl, ?_⟩) (by assumption) ?_
      rotate_left
      · (intro w hSw; (try dsimp only at hSw); go_simp; (try with_reducible rfl))
      (try simp only [Act.put, List.setIfInBounds_toArray, List.set_cons_zero, List.set_cons_succ])
      refine wpAnyH_take (i := 14) (oi := _) (v := ?_) rfl (by kernel_rfl) (by kernel_rfl) (by kernel_rfl) (fun _ _ _ h => h) (Or.inl ⟨by rfl, ?_⟩) (by assumption) ?_
      rotate_left
      · (intro w hSw; (try dsimp only at hSw); go_simp; (try with_reducible rfl))
      (try simp only [Act.put, List.setIfInBounds_toArray, List.set_cons_zero, List.set_cons_succ])
      refine wpAnyH_take (i := 15) (oi := _) (v := ?_) rfl (by kernel_rfl) (by kernel_rfl) (by kernel_rfl) (fun _ _ _ h => h) (Or.inl ⟨by rfl, ?_⟩) (by assumption) ?_
      rotate_left
      · (intro w hSw; (try dsimp only at hSw); go_simp; (try with_reducible rfl))
      (try simp only [Act.put, List.setIfInBounds_toArray, List.set_cons_zero, List.set_cons_succ])
      refine wpAnyH_take (i := 18) (oi := _) (v := ?_) rfl (by kernel_rfl) (by kernel_rfl) (by kernel_rfl) (fun _ _ _ h => h) (Or.inl ⟨by rfl, ?_⟩) (by assumption) ?_
      rotate_left
      · (intro w hSw; (try dsimp only at hSw); go_simp; (try with_reducible rfl))
      (try simp only [Act.put, List.setIfInBounds_toArray, List.set_cons_zero, List.set_cons_succ])
      refine wpAnyH_take (i := 19) (oi := _) (v := ?_) rfl (by kernel_rfl) (by kernel_rfl) (by kernel_rfl) (fun _ _ _ h => h) (Or.inl ⟨by rfl, ?_⟩) (by assumption) ?_
      rotate_left
      · (intro w hSw; (try dsimp only at hSw); go_simp; (try with_reducible rfl))
      (try simp only [Act.put, List.setIfInBounds_toArray, List.set_cons_zero, List.set_cons_succ])
      refine wpAnyH_ready (rs := [2, 16]) (by kernel_rfl) (by simp) ?_
      refine AllReadyH.cons (o := _) rfl (fun K hK => ?_) ?_
      · (go_simp; go_at_call 85; refine (HU.out _ (by repeat (first | exact Below.refl _ _ | assumption | refine Below.drew ?_ | refine Below.alloc ?_ (by first | exact Nat.le_refl _ | omega | (simp <;> omega)) _))).mono ?_; rintro r8 w8 ⟨rfl, hb8'⟩; have hb8 : Below wc.heap.size wc w8 := Below.trans (by repeat (first | exact Below.refl _ _ | assumption | refine Below.drew ?_ | refine Below.alloc ?_ (by first | exact Nat.le_refl _ | omega | (simp <;> omega)) _)) (hb8'.mono (by first | exact Nat.le_refl _ | omega | (simp <;> omega))); have hz8 := hb8.size; have hk8 := cells_kept hb8'; have HK8 : Hid _ := hk8; have hbl8 : b < w8.heap.size := Nat.lt_of_lt_of_le hbl hz8; have hBc8 : w.heap.size < w8.heap.size := Nat.lt_of_lt_of_le hBc hz8; clear x0 x1 x2 x3 x4 x5 hc0 hr0; obtain ⟨x0, x1, x2, x3, x4, x5, _⟩ := six6 ((hb8.block _ (t_lt HD.out.2.1)).trans HD.out.2.1); obtain ⟨hc0, hch8, _⟩ := (HD.out.1.below hb8).cells; have hr0 := hch8 _ hh; rw [HRS.out, Nat.add_comm] at hr0; clear hch8 hb8' hk8)
        (try go_wp2_with fail)
        refine hK.out _ _ ?_ (fun hHeld => ?_)
        · ((try dsimp only); go_keep)
        clear hK K
        (try simp only [Act.put, List.setIfInBounds_toArray, List.set_cons_zero, List.set_cons_succ])
        refine wpAnyH_ready (rs := [5, 16]) (by kernel_rfl) (by simp) ?_
        refine AllReadyH.cons (o := _) rfl (fun K hK => ?_) ?_
        · (go_simp; go_at_call 85; refine (HU.out _ (by repeat (first | exact Below.refl _ _ | assumption | refine Below.drew ?_ | refine Below.alloc ?_ (by first | exact Nat.le_refl _ | omega | (simp <;> omega)) _))).mono ?_; rintro r9 w9 ⟨rfl, hb9'⟩; have hb9 : Below wc.heap.size wc w9 := Below.trans (by repeat (first | exact Below.refl _ _ | assumption | refine Below.drew ?_ | refine Below.alloc ?_ (by first | exact Nat.le_refl _ | omega | (simp <;> omega)) _)) (hb9'.mono (by first | exact Nat.le_refl _ | omega | (simp <;> omega))); have hz9 := hb9.size; have hk9 := cells_kept hb9'; have HK9 : Hid _ := hk9; have hbl9 : b < w9.heap.size := Nat.lt_of_lt_of_le hbl hz9; have hBc9 : w.heap.size < w9.heap.size := Nat.lt_of_lt_of_le hBc hz9; clear x0 x1 x2 x3 x4 x5 hc0 hr0; obtain ⟨x0, x1, x2, x3, x4, x5, _⟩ := six6 ((hb9.block _ (t_lt HD.out.2.1)).trans HD.out.2.1); obtain ⟨hc0, hch9, _⟩ := (HD.out.1.below hb9).cells; have hr0 := hch9 _ hh; rw [HRS.out, Nat.add_comm] at hr0; clear hch9 hb9' hk9)
          (try go_wp2_with fail)
          refine hK.out _ _ ?_ (fun hHeld => ?_)
          · ((try dsimp only); go_keep)
          clear hK K
          (try simp only [Act.put, List.setIfInBounds_toArray, List.set_cons_zero, List.set_cons_succ])
          refine wpAnyH_take (i := 8) (oi := _) (v := ?_) rfl (by kernel_rfl) (by kernel_rfl) (by kernel_rfl) (fun _ _ _ h => h) (Or.inl ⟨by rfl, ?_⟩) (by assumption) ?_
          rotate_left
          · (intro w hSw; (try dsimp only at hSw); go_simp; (try with_reducible rfl))
          (try simp only [Act.put, List.setIfInBounds_toArray, List.set_cons_zero, List.set_cons_succ])
          refine wpAnyH_ready (rs := [9, 16]) (by kernel_rfl) (by simp) ?_
          refine AllReadyH.cons (o := _) rfl (fun K hK => ?_) ?_
          · go_simp
            refine hK.out _ _ ?_ (fun hHeld => ?_)
            · ((try dsimp only); go_keep)
            clear hK K
            (try simp only [Act.put, List.setIfInBounds_toArray, List.set_cons_zero, List.set_cons_succ])
            refine wpAnyH_ready (rs := [16]) (by kernel_rfl) (by simp) ?_
            refine AllReadyH.cons (o := _) rfl (fun K hK => ?_) ?_
            · go_simp
              refine hK.out _ _ ?_ (fun hHeld => ?_)
              · ((try dsimp only); go_keep)
              clear hK K
              (try simp only [Act.put, List.setIfInBounds_toArray, List.set_cons_zero, List.set_cons_succ])
              refine wpAnyH_ready (rs := [17]) (by kernel_rfl) (by simp) ?_
              refine AllReadyH.cons (o := _) rfl (fun K hK => ?_) ?_
              · (refine step_append_lies _ (by rfl) _ _ _ (by rfl) 0 3 i0 _ 1 8 Tryz.underlying29 hi0 hz0 hz1 hz2 rfl (Nat.succ_pos 0) (.slice ar nr cr) nr (iC (Tm.idx L t.hash)) (by rfl) ((HR.out _ hb9).alloc _) ⟨w9.heap.size, 0, none⟩ 1 1 [.int .i64 L.length] (by rfl) (by rfl) (cell_one_new _ _ _) (one_one _) Nat.one_pos hml2 hby2 (Nat.zero_le _) (w9.alloc (.cells #[.int .i64 L.length] 3)).heap.size rfl ?_; intro g2 c2 w10 hown hgrow hat hlt10; have hbZ : Below wc.heap.size wc (w9.alloc (.cells #[.int .i64 L.length] 3)) := (by repeat (first | exact Below.refl _ _ | assumption | refine Below.drew ?_ | refine Below.alloc ?_ (by first | exact Nat.le_refl _ | omega | (simp <;> omega)) _)); have hA10 := rap_int hbZ HD.out.1 HRS.out hh hown hgrow hat; clear x0 x1 x2 x3 x4 x5 hc0 hr0; obtain ⟨x0, x1, x2, x3, x4, x5, _⟩ := six6 (rint_box hbZ HD.out.1 HRS.out hh hA10 HD.out.2.1); have hB10 := hA10.b; have hfr := blk_free hB10; have hc10 := cell0_of hB10 (HD.out.1.ch _ hh); have hc0 := cell0_of hB10 HD.out.1.c0; have hset := set_zero t.hash (.slice (some ⟨g2, 0, none⟩) (nr + 1) c2) hB10 HD.out.1.c0; rw [Nat.add_comm, HRS.out] at hc10; have HA : Hid _ := And.intro hbZ hA10; clear hA10 hB10 hown hgrow hat hlt10 hbZ)
                refine hK.out _ _ ?_ (fun hHeld => ?_)
                · ((try dsimp only); go_keep)
                clear hK K
                (try simp only [Act.put, List.setIfInBounds_toArray, List.set_cons_zero, List.set_cons_succ])
                refine wpAnyH_take (i := 20) (oi := _) (v := ?_) rfl (by kernel_rfl) (by kernel_rfl) (by kernel_rfl) (fun _ _ _ h => h) (Or.inl ⟨by rfl, ?_⟩) (by assumption) ?_
                rotate_left
                · (intro w hSw; (try dsimp only at hSw); go_simp; (try with_reducible rfl))
                (try simp only [Act.put, List.setIfInBounds_toArray, List.set_cons_zero, List.set_cons_succ])
                refine wpAnyH_ready (rs := [21]) (by kernel_rfl) (by simp) ?_
                refine AllReadyH.cons (o := _) rfl (fun K hK => ?_) ?_
                · go_simp
                  refine hK.out _ _ ?_ (fun hHeld => ?_)
                  · ((try dsimp only); go_keep)
                  clear hK K
                  (try simp only [Act.put, List.setIfInBounds_toArray, List.set_cons_zero, List.set_cons_succ])
                  refine wpAnyH_done (by kernel_rfl) ?_ _
                  (refine Met.intro ?_; apply_assumption; refine Met.intro ?_; apply_assumption; (repeat apply Exists.intro); refine ⟨?rel, rfl⟩; case rel => exact ⟨_, _, _, _, HA.out, rfl⟩)
                exact AllReadyH.nil
              exact AllReadyH.nil
            exact AllReadyH.nil
          refine AllReadyH.cons (o := _) rfl (fun K hK => ?_) ?_
          · go_simp
            refine hK.out _ _ ?_ (fun hHeld => ?_)
            · ((try dsimp only); go_keep)
            clear hK K
            (try simp only [Act.put, List.setIfInBounds_toArray, List.set_cons_zero, List.set_cons_succ])
            refine wpAnyH_ready (rs := [9]) (by kernel_rfl) (by simp) ?_
            refine AllReadyH.cons (o := _) rfl (fun K hK => ?_) ?_
            · go_simp
              refine hK.out _ _ ?_ (fun hHeld => ?_)
              · ((try dsimp only); go_keep)
              clear hK K
              (try simp only [Act.put, List.setIfInBounds_toArray, List.set_cons_zero, List.set_cons_succ])
              refine wpAnyH_ready (rs := [17]) (by kernel_rfl) (by simp) ?_
              refine AllReadyH.cons (o := _) rfl (fun K hK => ?_) ?_
              · (refine step_append_lies _ (by rfl) _ _ _ (by rfl) 0 3 i0 _ 1 8 Tryz.underlying29 hi0 hz0 hz1 hz2 rfl (Nat.succ_pos 0) (.slice ar nr cr) nr (iC (Tm.idx L t.hash)) (by rfl) ((HR.out _ hb9).alloc _) ⟨w9.heap.size, 0, none⟩ 1 1 [.int .i64 L.length] (by rfl) (by rfl) (cell_one_new _ _ _) (one_one _) Nat.one_pos hml2 hby2 (Nat.zero_le _) (w9.alloc (.cells #[.int .i64 L.length] 3)).heap.size rfl ?_; intro g2 c2 w10 hown hgrow hat hlt10; have hbZ : Below wc.heap.size wc (w9.alloc (.cells #[.int .i64 L.length] 3)) := (by repeat (first | exact Below.refl _ _ | assumption | refine Below.drew ?_ | refine Below.alloc ?_ (by first | exact Nat.le_refl _ | omega | (simp <;> omega)) _)); have hA10 := rap_int hbZ HD.out.1 HRS.out hh hown hgrow hat; clear x0 x1 x2 x3 x4 x5 hc0 hr0; obtain ⟨x0, x1, x2, x3, x4, x5, _⟩ := six6 (rint_box hbZ HD.out.1 HRS.out hh hA10 HD.out.2.1); have hB10 := hA10.b; have hfr := blk_free hB10; have hc10 := cell0_of hB10 (HD.out.1.ch _ hh); have hc0 := cell0_of hB10 HD.out.1.c0; have hset := set_zero t.hash (.slice (some ⟨g2, 0, none⟩) (nr + 1) c2) hB10 HD.out.1.c0; rw [Nat.add_comm, HRS.out] at hc10; have HA : Hid _ := And.intro hbZ hA10; clear hA10 hB10 hown hgrow hat hlt10 hbZ)
                refine hK.out _ _ ?_ (fun hHeld => ?_)
                · ((try dsimp only); go_keep)
                clear hK K
                (try simp only [Act.put, List.setIfInBounds_toArray, List.set_cons_zero, List.set_cons_succ])
                refine wpAnyH_take (i := 20) (oi := _) (v := ?_) rfl (by kernel_rfl) (by kernel_rfl) (by kernel_rfl) (fun _ _ _ h => h) (Or.inl ⟨by rfl, ?_⟩) (by assumption) ?_
                rotate_left
                · (intro w hSw; (try dsimp only at hSw); go_simp; (try with_reducible rfl))
                (try simp only [Act.put, List.setIfInBounds_toArray, List.set_cons_zero, List.set_cons_succ])
                refine wpAnyH_ready (rs := [21]) (by kernel_rfl) (by simp) ?_
                refine AllReadyH.cons (o := _) rfl (fun K hK => ?_) ?_
                · go_simp
                  refine hK.out _ _ ?_ (fun hHeld => ?_)
                  · ((try dsimp only); go_keep)
                  clear hK K
                  (try simp only [Act.put, List.setIfInBounds_toArray, List.set_cons_zero, List.set_cons_succ])
                  refine wpAnyH_done (by kernel_rfl) ?_ _
                  (refine Met.intro ?_; apply_assumption; refine Met.intro ?_; apply_assumption; (repeat apply Exists.intro); refine ⟨?rel, rfl⟩; case rel => exact ⟨_, _, _, _, HA.out, rfl⟩)
                exact AllReadyH.nil
              exact AllReadyH.nil
            exact AllReadyH.nil
          exact AllReadyH.nil
        refine AllReadyH.cons (o := _) rfl (fun K hK => ?_) ?_
        · go_simp
          refine hK.out _ _ ?_ (fun hHeld => ?_)
          · ((try dsimp only); go_keep)
          clear hK K
          (try simp only [Act.put, List.setIfInBounds_toArray, List.set_cons_zero, List.set_cons_succ])
          refine wpAnyH_ready (rs := [5]) (by kernel_rfl) (by simp) ?_
          refine AllReadyH.cons (o := _) rfl (fun K hK => ?_) ?_
          · (go_simp; go_at_call 85; refine (HU.out _ (by repeat (first | exact Below.refl _ _ | assumption | refine Below.drew ?_ | refine Below.alloc ?_ (by first | exact Nat.le_refl _ | omega | (simp <;> omega)) _))).mono ?_; rintro r9 w9 ⟨rfl, hb9'⟩; have hb9 : Below wc.heap.size wc w9 := Below.trans (by repeat (first | exact Below.refl _ _ | assumption | refine Below.drew ?_ | refine Below.alloc ?_ (by first | exact Nat.le_refl _ | omega | (simp <;> omega)) _)) (hb9'.mono (by first | exact Nat.le_refl _ | omega | (simp <;> omega))); have hz9 := hb9.size; have hk9 := cells_kept hb9'; have HK9 : Hid _ := hk9; have hbl9 : b < w9.heap.size := Nat.lt_of_lt_of_le hbl hz9; have hBc9 : w.heap.size < w9.heap.size := Nat.lt_of_lt_of_le hBc hz9; clear x0 x1 x2 x3 x4 x5 hc0 hr0; obtain ⟨x0, x1, x2, x3, x4, x5, _⟩ := six6 ((hb9.block _ (t_lt HD.out.2.1)).trans HD.out.2.1); obtain ⟨hc0, hch9, _⟩ := (HD.out.1.below hb9).cells; have hr0 := hch9 _ hh; rw [HRS.out, Nat.add_comm] at hr0; clear hch9 hb9' hk9)
            (try go_wp2_with fail)
            refine hK.out _ _ ?_ (fun hHeld => ?_)
            · ((try dsimp only); go_keep)
            clear hK K
            (try simp only [Act.put, List.setIfInBounds_toArray, List.set_cons_zero, List.set_cons_succ])
            refine wpAnyH_take (i := 8) (oi := _) (v := ?_) rfl (by kernel_rfl) (by kernel_rfl) (by kernel_rfl) (fun _ _ _ h => h) (Or.inl ⟨by rfl, ?_⟩) (by assumption) ?_
            rotate_left
            · (intro w hSw; (try dsimp only at hSw); go_simp; (try with_reducible rfl))
            (try simp only [Act.put, List.setIfInBounds_toArray, List.set_cons_zero, List.set_cons_succ])
            refine wpAnyH_ready (rs := [9]) (by kernel_rfl) (by simp) ?_
            refine AllReadyH.cons (o := _) rfl (fun K hK => ?_) ?_
            · go_simp
              refine hK.out _ _ ?_ (fun hHeld => ?_)
              · ((try dsimp only); go_keep)
              clear hK K
              (try simp only [Act.put, List.setIfInBounds_toArray, List.set_cons_zero, List.set_cons_succ])
              refine wpAnyH_ready (rs := [17]) (by kernel_rfl) (by simp) ?_
              refine AllReadyH.cons (o := _) rfl (fun K hK => ?_) ?_
              · (refine step_append_lies _ (by rfl) _ _ _ (by rfl) 0 3 i0 _ 1 8 Tryz.underlying29 hi0 hz0 hz1 hz2 rfl (Nat.succ_pos 0) (.slice ar nr cr) nr (iC (Tm.idx L t.hash)) (by rfl) (HR.out _ hb9) ⟨w8.heap.size, 0, none⟩ 1 1 [.int .i64 L.length] (by rfl) (by rfl) (news_one (HK9.out _ _ (by simp))) (one_one _) Nat.one_pos hml2 hby2 (Nat.zero_le _) w9.heap.size rfl ?_; intro g2 c2 w10 hown hgrow hat hlt10; have hbZ : Below wc.heap.size wc w9 := hb9; have hA10 := rap_int hbZ HD.out.1 HRS.out hh hown hgrow hat; clear x0 x1 x2 x3 x4 x5 hc0 hr0; obtain ⟨x0, x1, x2, x3, x4, x5, _⟩ := six6 (rint_box hbZ HD.out.1 HRS.out hh hA10 HD.out.2.1); have hB10 := hA10.b; have hfr := blk_free hB10; have hc10 := cell0_of hB10 (HD.out.1.ch _ hh); have hc0 := cell0_of hB10 HD.out.1.c0; have hset := set_zero t.hash (.slice (some ⟨g2, 0, none⟩) (nr + 1) c2) hB10 HD.out.1.c0; rw [Nat.add_comm, HRS.out] at hc10; have HA : Hid _ := And.intro hbZ hA10; clear hA10 hB10 hown hgrow hat hlt10 hbZ)
                refine hK.out _ _ ?_ (fun hHeld => ?_)
                · ((try dsimp only); go_keep)
                clear hK K
                (try simp only [Act.put, List.setIfInBounds_toArray, List.set_cons_zero, List.set_cons_succ])
                refine wpAnyH_take (i := 20) (oi := _) (v := ?_) rfl (by kernel_rfl) (by kernel_rfl) (by kernel_rfl) (fun _ _ _ h => h) (Or.inl ⟨by rfl, ?_⟩) (by assumption) ?_
                rotate_left
                · (intro w hSw; (try dsimp only at hSw); go_simp; (try with_reducible rfl))
                (try simp only [Act.put, List.setIfInBounds_toArray, List.set_cons_zero, List.set_cons_succ])
                refine wpAnyH_ready (rs := [21]) (by kernel_rfl) (by simp) ?_
                refine AllReadyH.cons (o := _) rfl (fun K hK => ?_) ?_
                · go_simp
                  refine hK.out _ _ ?_ (fun hHeld => ?_)
                  · ((try dsimp only); go_keep)
                  clear hK K
                  (try simp only [Act.put, List.setIfInBounds_toArray, List.set_cons_zero, List.set_cons_succ])
                  refine wpAnyH_done (by kernel_rfl) ?_ _
                  (refine Met.intro ?_; apply_assumption; refine Met.intro ?_; apply_assumption; (repeat apply Exists.intro); refine ⟨?rel, rfl⟩; case rel => exact ⟨_, _, _, _, HA.out, rfl⟩)
                exact AllReadyH.nil
              exact AllReadyH.nil
            exact AllReadyH.nil
          exact AllReadyH.nil
        exact AllReadyH.nil
      refine AllReadyH.cons (o := _) rfl (fun K hK => ?_) ?_
      · go_simp
        refine hK.out _ _ ?_ (fun hHeld => ?_)
        · ((try dsimp only); go_keep)
        clear hK K
        (try simp only [Act.put, List.setIfInBounds_toArray, List.set_cons_zero, List.set_cons_succ])
        refine wpAnyH_ready (rs := [2]) (by kernel_rfl) (by simp) ?_
        refine AllReadyH.cons (o := _) rfl (fun K hK => ?_) ?_
        · (go_simp; go_at_call 85; refine (HU.out _ (by repeat (first | exact Below.refl _ _ | assumption | refine Below.drew ?_ | refine Below.alloc ?_ (by first | exact Nat.le_refl _ | omega | (simp <;> omega)) _))).mono ?_; rintro r8 w8 ⟨rfl, hb8'⟩; have hb8 : Below wc.heap.size wc w8 := Below.trans (by repeat (first | exact Below.refl _ _ | assumption | refine Below.drew ?_ | refine Below.alloc ?_ (by first | exact Nat.le_refl _ | omega | (simp <;> omega)) _)) (hb8'.mono (by first | exact Nat.le_refl _ | omega | (simp <;> omega))); have hz8 := hb8.size; have hk8 := cells_kept hb8'; have HK8 : Hid _ := hk8; have hbl8 : b < w8.heap.size := Nat.lt_of_lt_of_le hbl hz8; have hBc8 : w.heap.size < w8.heap.size := Nat.lt_of_lt_of_le hBc hz8; clear x0 x1 x2 x3 x4 x5 hc0 hr0; obtain ⟨x0, x1, x2, x3, x4, x5, _⟩ := six6 ((hb8.block _ (t_lt HD.out.2.1)).trans HD.out.2.1); obtain ⟨hc0, hch8, _⟩ := (HD.out.1.below hb8).cells; have hr0 := hch8 _ hh; rw [HRS.out, Nat.add_comm] at hr0; clear hch8 hb8' hk8)
          (try go_wp2_with fail)
          refine hK.out _ _ ?_ (fun hHeld => ?_)
          · ((try dsimp only); go_keep)
          clear hK K
          (try simp only [Act.put, List.setIfInBounds_toArray, List.set_cons_zero, List.set_cons_succ])
          refine wpAnyH_ready (rs := [5]) (by kernel_rfl) (by simp) ?_
          refine AllReadyH.cons (o := _) rfl (fun K hK => ?_) ?_
          · (go_simp; go_at_call 85; refine (HU.out _ (by repeat (first | exact Below.refl _ _ | assumption | refine Below.drew ?_ | refine Below.alloc ?_ (by first | exact Nat.le_refl _ | omega | (simp <;> omega)) _))).mono ?_; rintro r9 w9 ⟨rfl, hb9'⟩; have hb9 : Below wc.heap.size wc w9 := Below.trans (by repeat (first | exact Below.refl _ _ | assumption | refine Below.drew ?_ | refine Below.alloc ?_ (by first | exact Nat.le_refl _ | omega | (simp <;> omega)) _)) (hb9'.mono (by first | exact Nat.le_refl _ | omega | (simp <;> omega))); have hz9 := hb9.size; have hk9 := cells_kept hb9'; have HK9 : Hid _ := hk9; have hbl9 : b < w9.heap.size := Nat.lt_of_lt_of_le hbl hz9; have hBc9 : w.heap.size < w9.heap.size := Nat.lt_of_lt_of_le hBc hz9; clear x0 x1 x2 x3 x4 x5 hc0 hr0; obtain ⟨x0, x1, x2, x3, x4, x5, _⟩ := six6 ((hb9.block _ (t_lt HD.out.2.1)).trans HD.out.2.1); obtain ⟨hc0, hch9, _⟩ := (HD.out.1.below hb9).cells; have hr0 := hch9 _ hh; rw [HRS.out, Nat.add_comm] at hr0; clear hch9 hb9' hk9)
            (try go_wp2_with fail)
            refine hK.out _ _ ?_ (fun hHeld => ?_)
            · ((try dsimp only); go_keep)
            clear hK K
            (try simp only [Act.put, List.setIfInBounds_toArray, List.set_cons_zero, List.set_cons_succ])
            refine wpAnyH_take (i := 8) (oi := _) (v := ?_) rfl (by kernel_rfl) (by kernel_rfl) (by kernel_rfl) (fun _ _ _ h => h) (Or.inl ⟨by rfl, ?_⟩) (by assumption) ?_
            rotate_left
            · (intro w hSw; (try dsimp only at hSw); go_simp; (try with_reducible rfl))
            (try simp only [Act.put, List.setIfInBounds_toArray, List.set_cons_zero, List.set_cons_succ])
            refine wpAnyH_ready (rs := [9]) (by kernel_rfl) (by simp) ?_
            refine AllReadyH.cons (o := _) rfl (fun K hK => ?_) ?_
            · go_simp
              refine hK.out _ _ ?_ (fun hHeld => ?_)
              · ((try dsimp only); go_keep)
              clear hK K
              (try simp only [Act.put, List.setIfInBounds_toArray, List.set_cons_zero, List.set_cons_succ])
              refine wpAnyH_ready (rs := [17]) (by kernel_rfl) (by simp) ?_
              refine AllReadyH.cons (o := _) rfl (fun K hK => ?_) ?_
              · (refine step_append_lies _ (by rfl) _ _ _ (by rfl) 0 3 i0 _ 1 8 Tryz.underlying29 hi0 hz0 hz1 hz2 rfl (Nat.succ_pos 0) (.slice ar nr cr) nr (iC (Tm.idx L t.hash)) (by rfl) (HR.out _ hb9) ⟨wc.heap.size, 0, none⟩ 1 1 [.int .i64 L.length] (by rfl) (by rfl) (news_one (HK9.out _ _ (HK8.out _ _ (by simp)))) (one_one _) Nat.one_pos hml2 hby2 (Nat.zero_le _) w9.heap.size rfl ?_; intro g2 c2 w10 hown hgrow hat hlt10; have hbZ : Below wc.heap.size wc w9 := hb9; have hA10 := rap_int hbZ HD.out.1 HRS.out hh hown hgrow hat; clear x0 x1 x2 x3 x4 x5 hc0 hr0; obtain ⟨x0, x1, x2, x3, x4, x5, _⟩ := six6 (rint_box hbZ HD.out.1 HRS.out hh hA10 HD.out.2.1); have hB10 := hA10.b; have hfr := blk_free hB10; have hc10 := cell0_of hB10 (HD.out.1.ch _ hh); have hc0 := cell0_of hB10 HD.out.1.c0; have hset := set_zero t.hash (.slice (some ⟨g2, 0, none⟩) (nr + 1) c2) hB10 HD.out.1.c0; rw [Nat.add_comm, HRS.out] at hc10; have HA : Hid _ := And.intro hbZ hA10; clear hA10 hB10 hown hgrow hat hlt10 hbZ)
                refine hK.out _ _ ?_ (fun hHeld => ?_)
                · ((try dsimp only); go_keep)
                clear hK K
                (try simp only [Act.put, List.setIfInBounds_toArray, List.set_cons_zero, List.set_cons_succ])
                refine wpAnyH_take (i := 20) (oi := _) (v := ?_) rfl (by kernel_rfl) (by kernel_rfl) (by kernel_rfl) (fun _ _ _ h => h) (Or.inl ⟨by rfl, ?_⟩) (by assumption) ?_
                rotate_left
                · (intro w hSw; (try dsimp only at hSw); go_simp; (try with_reducible rfl))
                (try simp only [Act.put, List.setIfInBounds_toArray, List.set_cons_zero, List.set_cons_succ])
                refine wpAnyH_ready (rs := [21]) (by kernel_rfl) (by simp) ?_
                refine AllReadyH.cons (o := _) rfl (fun K hK => ?_) ?_
                · go_simp
                  refine hK.out _ _ ?_ (fun hHeld => ?_)
                  · ((try dsimp only); go_keep)
                  clear hK K
                  (try simp only [Act.put, List.setIfInBounds_toArray, List.set_cons_zero, List.set_cons_succ])
                  refine wpAnyH_done (by kernel_rfl) ?_ _
                  (refine Met.intro ?_; apply_assumption; refine Met.intro ?_; apply_assumption; (repeat apply Exists.intro); refine ⟨?rel, rfl⟩; case rel => exact ⟨_, _, _, _, HA.out, rfl⟩)
                exact AllReadyH.nil
              exact AllReadyH.nil
            exact AllReadyH.nil
          exact AllReadyH.nil
        exact AllReadyH.nil
      exact AllReadyH.nil
    case rest =>
      obtain ⟨w9, g2, c2, w10, ⟨hb9, hI⟩, hwc⟩ := hcut
      have e9 : 1 + t.hash = t.hash + 1 := by omega
      rw [e9] at hwc
      have hFin := rsto_fin HD.out.1 hb9 hI.o (by rw [HRS.out]; exact hI.g) (by rw [HRS.out]; exact hI.a)
      rw [← hwc] at hFin
      have hft := foot_fin (b := b) (rs := rs) (v' := rs t.hash) (w7 := w9) H6.out.1 HD.out.2.2.2.1 (Nat.le_trans HD.out.2.2.1.size hb9.size) (.inl rfl)
      rw [upd_self] at hft
      have hK := HD.out.2.2.1.trans2 hFin.2 hft
      have hFt := foot_fin (b := b) (rs := rs) (v' := .slice (some ⟨g2, 0, none⟩) (nr + 1) c2) (w7 := w9) H6.out.1 HD.out.2.2.2.1 (Nat.le_trans HD.out.2.2.1.size hb9.size) (by rw [HRS.out]; exact hI.a)
      have HF : Hid _ := And.intro hFin.1 (And.intro hK hFt)
      clear hc0 hr0 hcf x0 x1 x2 x3 x4 x5 xf hwr
      obtain ⟨hc0, _, _⟩ := hFin.1.cells
      clear hFin hft hK hFt hb9 hI hwc e9
      go_wp2_with fail
      go_ret
      exact ⟨by simp, _, ⟨_, _, _, _, HF.out.1, rfl⟩, by rw [HS.out.2.1]; exact HF.out.2.1, by rw [HS.out.2.1]; exact HF.out.2.2⟩
end Go.Proofs.YthnenpncajpibaaGreatDoor
