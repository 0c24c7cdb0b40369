/- Texts of this claim, joined: RfPlba, RfPlbb, RfPlay, ErLaid. -/
import Derived.Test.YtpcndfffljmajaaGreatDoorPart15
import Derived.Test.YtpcndfffljmajaaGreatDoorPart3
import Derived.Test.YtpcndfffljmajaaGreatDoorRows
import Derived.Test.YtpcndfffljmajaaGreatDoorPart1
import Derived.Test.YtpcndfffljmajaaGreatDoorErCode
import Derived.ProofKit
import Derived.LaidMore
import Derived.Stop.LaidErr
/- Chapter 8's law: the play, ba. (Written by mkplay8.py.) -/
namespace Go.Proofs.YtpcndfffljmajaaGreatDoor
open Go.RowKit Go.Maps
attribute [local go_sem ↓] Go.wp_at_zero Go.wp_at_succ
set_option maxRecDepth 100000 in
set_option maxHeartbeats 16000000 in
theorem play_ba (n : Int) (v : Value) (zs : List Int) (vo : Value) (ops : List (Int × Int)) (each : Bool) (e : Nat → Addr) (w : World) (hv : HasI w v zs) (hi : I64s zs) (hO : HasO8 w vo ops) (hl : ops.length ≤ 400) (hE : Er 19 w e) (hR : EnvR w (e 1) (e 3)) (hn : n < 0 ∨ 1000 < n) (hc : zs.length ≤ 1000) :
    Calls Tryz.prog 5 #[.int .i64 n, v, vo, .bool each] w fun r w' => r = .returned (.bool true) ∧ Below w.heap.size w w' := by
  have hcm : zs.length ≤ 1100 := by omega
  have hvs := hv
  have hOs := hO
  obtain ⟨ao, cap, rfl, _⟩ := hvs
  obtain ⟨aop, capo, rfl, _⟩ := hOs
  obtain ⟨m, hm⟩ : ∃ m, m = zs.length := ⟨_, rfl⟩
  obtain ⟨K, hK⟩ : ∃ K, K = ops.length := ⟨_, rfl⟩
  have q1 : ¬ (400 : Int) < (K : Int) := by omega
  have q2 : ¬ (1100 : Int) < (m : Int) := by omega
  have HA : Hid _ := alive8 w
  have H0 : Hid (HasI w (.slice ao m cap) zs ∧ I64s zs ∧ HasO8 w (.slice aop K capo) ops ∧ Er 19 w e ∧ EnvR w (e 1) (e 3)) := (by rw [hm, hK]; exact ⟨hv, hi, hO, hE, hR⟩ : HasI w (.slice ao m cap) zs ∧ I64s zs ∧ HasO8 w (.slice aop K capo) ops ∧ Er 19 w e ∧ EnvR w (e 1) (e 3))
  have HN : Hid (m = zs.length ∧ K = ops.length) := ⟨hm, hK⟩
  rw [← hm, ← hK]
  clear hv hi hO hE hR hm hK
  go_enter Tryz.func5, Tryz.ntmps5
  go_wp2_with fail
  refine Calls.mono HA.out ?_
  rintro r wB ⟨rfl, hbB⟩
  have HB : Hid (Below w.heap.size w wB) := hbB
  clear hbB HA
  go_upto_region 6 with fail
  obtain ⟨w2, hw2⟩ : ∃ w2, w2 = wB.alloc (.cells #[.slice none 0 0, .slice none 0 0, .slice none 0 0, .slice none 0 0, .slice none 0 0, .slice none 0 0, .slice none 0 0, .slice none 0 0, .slice none 0 0, .slice none 0 0, .slice none 0 0, .slice none 0 0, .slice none 0 0, .slice none 0 0, .slice none 0 0, .slice none 0 0, .slice none 0 0, .slice none 0 0, .slice none 0 0, .slice none 0 0, .slice none 0 0, .slice none 0 0] 40) := ⟨_, rfl⟩
  rw [← hw2]
  have hbk : ∀ F, Bk wB w2 F := fun F => by rw [hw2]; exact Bk.new wB F
  have b2 : Below w.heap.size w w2 := HB.out.trans ((hbk fun _ => False).bw.mono HB.out.size)
  have HK : Hid (∀ F, Bk wB w2 F) := hbk
  clear hw2 hbk
  have HNew : Hid _ := new_bad8 n (e 1) (e 3) w2 (H0.out.2.2.2.2.below b2) hn
  go_wp2_with fail
  refine Calls.mono HNew.out ?_
  rintro r w3 ⟨xn, rfl, hC3, hb3⟩
  have b3 : Below w.heap.size w w3 := bel_step hb3 b2
  obtain ⟨bn, un, hxn, _, _⟩ := _root_.id hC3
  have H3 : Hid (Chain w3 0 0 (e 1) [refB] xn ∧ Below w2.heap.size w2 w3) := ⟨hC3, hb3⟩
  subst hxn
  clear hC3 hb3 HNew
  have HRn : Hid _ := rNew_bad n w3 hn
  go_wp2_with fail
  refine Calls.mono HRn.out ?_
  rintro r w4 ⟨rfl, hb4⟩
  have b4 : Below w.heap.size w w4 := bel_step hb4 b3
  have H4 : Hid (Below w3.heap.size w3 w4) := hb4
  clear hb4 HRn
  obtain ⟨w5, hw5⟩ : ∃ w5, w5 = w4.alloc (.cells #[.slice none 0 0, .slice none 0 0, .int .i64 0] 48) := ⟨_, rfl⟩
  have b45 : Below w4.heap.size w4 w5 := by rw [hw5]; exact (Below.refl _ _).alloc (Nat.le_refl _) _
  have hb12 : w5.heap[w4.heap.size]? = some (.cells #[.slice none 0 0, .slice none 0 0, .int .i64 0] 48 (0, 0)) := by rw [hw5]; exact (MapKept.heap_alloc w4 _).1
  have b5 : Below w.heap.size w w5 := bel_step b45 b4
  have H5 : Hid (Below w4.heap.size w4 w5 ∧ w5.heap[w4.heap.size]? = some (.cells #[.slice none 0 0, .slice none 0 0, .int .i64 0] 48 (0, 0))) := ⟨b45, hb12⟩
  have hOf := of_ok (.slice ao m cap) zs w5 (H0.out.1.below b5) H0.out.2.1 hc
  have HOf : Hid _ := hOf
  have HW5 : Hid _ := hw5
  clear hOf hw5 b45 hb12
  go_upto_region 8 with fail
  rw [← HW5.out]
  clear HW5
  go_wp2_with fail
  refine Calls.mono HOf.out ?_
  rintro r w6 ⟨pb, c6, E, rfl, hP6, hL6, hO6, hM6⟩
  have b6 : Below w.heap.size w w6 := bel_step hP6.bl b5
  have H6 : Hid (Pt w5 w6 pb c6 ∧ Lay c6 (Pst.of zs E) ∧ (Pst.of zs E).Ok ∧ ∀ y, y < zs.length → (Pst.of zs E).isM y = false) := ⟨hP6, hL6, hO6, hM6⟩
  have hRo := rOf_ok (.slice ao m cap) zs w6 (H0.out.1.below b6) hc
  have HRo : Hid _ := hRo
  clear hP6 hL6 hO6 hM6 HOf hRo
  go_wp2_with fail
  refine Calls.mono HRo.out ?_
  rintro r w7 ⟨Bb, Mb, vb, mb, rfl, hR7, hb7⟩
  obtain ⟨ab, kb, rfl, _⟩ := hR7.sB
  obtain ⟨am2, km2, rfl, _⟩ := hR7.sM
  have b7 : Below w.heap.size w w7 := bel_step hb7 b6
  have H7 : Hid (Rw w7 w6.heap.size Bb Mb (.slice ab zs.length kb) (.slice am2 zs.length km2) zs.length (cO zs) (fun _ => false) ∧ Below w6.heap.size w6 w7) := ⟨hR7, hb7⟩
  clear hR7 hb7 HRo
  obtain ⟨tg, htg⟩ : ∃ tg, tg = Sy.together zs := ⟨_, rfl⟩
  obtain ⟨zl, hzl⟩ : ∃ zl, zl = zs.length := ⟨_, rfl⟩
  rw [← htg, ← hzl]
  have Htg : Hid (tg = Sy.together zs ∧ zl = zs.length) := ⟨htg, hzl⟩
  clear htg hzl
  obtain ⟨w8, hw8⟩ : ∃ w8, w8 = w7.alloc (.cells #[.slice ab zl kb, .slice am2 zl km2, .int .i64 tg] 48) := ⟨_, rfl⟩
  have b78 : Below w7.heap.size w7 w8 := by rw [hw8]; exact (Below.refl _ _).alloc (Nat.le_refl _) _
  have hb16 : w8.heap[w7.heap.size]? = some (.cells #[.slice ab zl kb, .slice am2 zl km2, .int .i64 tg] 48 (0, 0)) := by rw [hw8]; exact (MapKept.heap_alloc w7 _).1
  have b8 : Below w.heap.size w w8 := bel_step b78 b7
  have hb12 := res_up b78 (res_up H7.out.2 (res_up H6.out.1.bl H5.out.2))
  have HBd : Hid _ := bad8 1 w8
  have H8 : Hid (Below w7.heap.size w7 w8 ∧ w8.heap[w7.heap.size]? = some (.cells #[.slice ab zl kb, .slice am2 zl km2, .int .i64 tg] 48 (0, 0)) ∧ w8.heap[w4.heap.size]? = some (.cells #[.slice none 0 0, .slice none 0 0, .int .i64 0] 48 (0, 0))) := ⟨b78, hb16, hb12⟩
  have HW8 : Hid _ := hw8
  clear hw8 b78 hb16 hb12
  go_upto_region 10 with fail
  rw [← HW8.out]
  clear HW8
  go_wp2_with fail
  refine Calls.mono HBd.out ?_
  rintro r w9 ⟨rfl, hb9⟩
  have b9 : Below w.heap.size w w9 := bel_step hb9 b8
  have H9 : Hid (Below w8.heap.size w8 w9) := hb9
  clear hb9 HBd
  obtain ⟨w10, hw10⟩ : ∃ w10, w10 = w9.alloc (.cells #[.int .i64 1, .int .i64 0, .int .i64 0, .string refB1] 54) := ⟨_, rfl⟩
  have b910 : Below w9.heap.size w9 w10 := by rw [hw10]; exact (Below.refl _ _).alloc (Nat.le_refl _) _
  have hx18 : w10.heap[w9.heap.size]? = some (.cells #[.int .i64 1, .int .i64 0, .int .i64 0, .string refB1] 54 (0, 0)) := by rw [hw10]; exact (MapKept.heap_alloc w9 _).1
  have b10 : Below w.heap.size w w10 := bel_step b910 b9
  have H10 : Hid (Below w9.heap.size w9 w10 ∧ w10.heap[w9.heap.size]? = some (.cells #[.int .i64 1, .int .i64 0, .int .i64 0, .string refB1] 54 (0, 0))) := ⟨b910, hx18⟩
  have HW10 : Hid _ := hw10
  have e0 := cell0_of (k := 0) hx18 rfl
  have e1 := cell0_of (k := 1) hx18 rfl
  have e2 := cell0_of (k := 2) hx18 rfl
  have e3 := cell0_of (k := 3) hx18 rfl
  clear hw10 b910 hx18
  go_upto_region 11 with fail
  rw [← HW10.out]
  clear HW10
  have HT : Hid _ := told8 1 (by decide) (by decide) (.iface 78 (.pointer (some ⟨bn, 0, none⟩))) e w10 (H0.out.2.2.2.1.below b10) (H3.out.1.below (bel_step H10.out.1 (bel_step H9.out (bel_step H8.out.1 (bel_step H7.out.2 (bel_step H6.out.1.bl (bel_step H5.out.1 H4.out)))))))
  go_wp2_with fail
  refine Calls.mono HT.out ?_
  rintro r w11 ⟨rfl, hbt⟩
  have b11 : Below w.heap.size w w11 := bel_step hbt b10
  have hx18 := res_up hbt H10.out.2
  have H10 : Hid (Below w9.heap.size w9 w11 ∧ w11.heap[w9.heap.size]? = some (.cells #[.int .i64 1, .int .i64 0, .int .i64 0, .string refB1] 54 (0, 0))) := ⟨bel_step hbt H10.out.1, hx18⟩
  clear hbt HT e0 e1 e2 e3
  have e0 := cell0_of (k := 0) hx18 rfl
  have e1 := cell0_of (k := 1) hx18 rfl
  have e2 := cell0_of (k := 2) hx18 rfl
  have e3 := cell0_of (k := 3) hx18 rfl
  clear hx18
  have b8T : Below w8.heap.size w8 w11 := bel_step H10.out.1 H9.out
  have hb12 := res_up b8T H8.out.2.2
  have hb16 := res_up b8T H8.out.2.1
  have a0 := cell0_of (k := 0) hb12 rfl
  have a1 := cell0_of (k := 1) hb12 rfl
  have a2 := cell0_of (k := 2) hb12 rfl
  have d0 := cell0_of (k := 0) hb16 rfl
  have d1 := cell0_of (k := 1) hb16 rfl
  have d2 := cell0_of (k := 2) hb16 rfl
  have f0 := blk_free hb12 0
  have f1 := blk_free hb12 1
  have f2 := blk_free hb12 2
  have f3 := blk_free hb16 0
  have f4 := blk_free hb16 1
  have f5 := blk_free hb16 2
  have l1 := t_lt hb12
  have l2 := t_lt hb16
  have l0 : w4.heap.size < w7.heap.size := by have := H5.out.1.size; have := t_lt H5.out.2; have := (H6.out.1.bl).size; have := (H7.out.2).size; omega
  have l3 : ¬ w4.heap.size = w11.heap.size := by omega
  have l4 : ¬ w7.heap.size = w11.heap.size := by omega
  have l5 : ¬ w11.heap.size = w4.heap.size := by omega
  have l6 : ¬ w11.heap.size = w7.heap.size := by omega
  have l7 : ¬ w4.heap.size = w7.heap.size := by omega
  have l8 : ¬ w7.heap.size = w4.heap.size := by omega
  clear e0 e1 e2 e3
  go_upto_region 17 with fail
  have bw2 := (HK.out fun _ => False).bw
  have bw5 : Below wB.heap.size wB w5 := bel_step H5.out.1 (bel_step (H4.out) (bel_step (H3.out.2) bw2))
  have b2T : Below w2.heap.size w2 w11 := bel_step b8T (bel_step H8.out.1 (bel_step (H7.out.2) (bel_step (H6.out.1.bl) (bel_step H5.out.1 (bel_step (H4.out) (H3.out.2))))))
  have bwT : Below wB.heap.size wB w11 := bel_step b2T bw2
  have s2 := bw2.size
  have s23 := (H3.out.2).size
  have s34 := (H4.out).size
  have s47 : w4.heap.size ≤ w7.heap.size := Nat.le_of_lt l0
  have s7T := l2
  obtain ⟨z1, k1⟩ := zero_again hb12
  obtain ⟨wS, hwS⟩ : ∃ wS, wS = ((w11.setCell ⟨w4.heap.size, 0, none⟩ (.slice none 0 0)).setCell ⟨w4.heap.size, 1, none⟩ (.slice none 0 0)).setCell ⟨w4.heap.size, 2, none⟩ (.int .i64 0) := ⟨_, rfl⟩
  rw [← hwS] at z1 k1 ⊢
  have sS : wS.heap.size = w11.heap.size := by rw [hwS]; simp
  have bwS : Below wB.heap.size wB wS := bwT.trans (k1.below bwT.size (fun i hi => by subst hi; omega))
  have b2S : Below w2.heap.size w2 wS := b2T.trans (k1.below b2T.size (fun i hi => by subst hi; omega))
  have z2 := (k1.block _ l2 (by omega)).trans hb16
  have hB := ((side_of bw5 H6.out.1 H6.out.2.1 H6.out.2.2.1 H6.out.2.2.2 H7.out.1 H7.out.2 (bel_step b8T H8.out.1)).kept k1 fun i hi => by subst hi; exact ⟨by omega, _, hb12⟩)
  have hA := side_zero bwS
  have hBl := hB.lt
  have bY : Below wS.heap.size wS (wS.alloc (.cells Tryz.zeroCells62 62)) := (Below.refl _ _).alloc (Nat.le_refl _) _
  have hS0 := Start.of (fun F => ((HK.out F).below b2S).below bY) hA (hB.below bY) (by omega) (fun h => absurd h (by simp [Pst.new]))
  have z1 := res_up bY z1
  have z2 := res_up bY z2
  rw [← Htg.out.2] at hS0
  obtain ⟨wY, hwY⟩ : ∃ wY, wY = (wS.alloc (.cells Tryz.zeroCells62 62)) := ⟨_, rfl⟩
  rw [← hwY] at hS0 z1 z2 ⊢
  rw [sS] at hS0
  have HS : Hid _ := hS0
  have HE : Hid (Er 19 wB e ∧ EnvR wB (e 1) (e 3)) := ⟨H0.out.2.2.2.1.below HB.out, H0.out.2.2.2.2.below HB.out⟩
  clear a0 a1 a2 d0 d1 d2 f0 f1 f2 f3 f4 f5 l3 l4 l5 l6 l7 l8
  have a0 := cell0_of (k := 0) z1 rfl
  have a1 := cell0_of (k := 1) z1 rfl
  have a2 := cell0_of (k := 2) z1 rfl
  have d0 := cell0_of (k := 0) z2 rfl
  have d1 := cell0_of (k := 1) z2 rfl
  have d2 := cell0_of (k := 2) z2 rfl
  have l1 := t_lt z1
  have l2 := t_lt z2
  have l3 : ¬ w4.heap.size = wY.heap.size := by omega
  have l4 : ¬ w7.heap.size = wY.heap.size := by omega
  have l5 : ¬ wY.heap.size = w4.heap.size := by omega
  have l6 : ¬ wY.heap.size = w7.heap.size := by omega
  clear hS0 z1 z2 hwY hwS sS bwS b2S bwT b2T bw2 bw5 s2 s23 s34 s47 s7T l0 hb12 hb16 b8T k1 b2 b3 b4 b5 b6 b7 b8 b9 b10 H3 H4 H5 H6 H7 H8 H9 H10 HK
  go_cut [19, 20] (fun s19 s20 wx => ∃ ga gb : Nat, s19 = .pointer (some ⟨ga, 0, none⟩) ∧ s20 = .pointer (some ⟨gb, 0, none⟩) ∧ PE wB wx ga gb)
  case first =>
    go_region
    all_goals go_wp2_with fail
    all_goals
      go_meet
      have h1 := HS.out.pe1
      have h2 := HS.out.pe2
      unfold bothV at h1 h2
      simp only [show (Pst.new 0).nb = 0 from rfl, Int.natCast_zero] at h1 h2
      rw [of_nb, ← Htg.out.1] at h1 h2
      first
        | exact ⟨_, _, rfl, rfl, h1⟩
        | exact ⟨_, _, rfl, rfl, h2⟩
        | exact ⟨_, _, rfl, rfl, h1.below (Below.refl _ _).drew⟩
        | exact ⟨_, _, rfl, rfl, h2.below (Below.refl _ _).drew⟩
  case rest =>
    obtain ⟨ga, gb, rfl, rfl, hPE⟩ := hcut
    have HP : Hid (PE wB wc ga gb) := hPE
    clear hPE HS a0 a1 a2 d0 d1 d2 l1 l2 l3 l4 l5 l6
    go_wp2_with fail
    go_loopg [21] K (fun q iv wr => ∃ i : Nat, q = K - i ∧ i ≤ K ∧ iv = .int .i64 i ∧ PE wB wr ga gb)
    case atStart => exact ⟨0, rfl, Nat.zero_le _, rfl, HP.out⟩
    case round =>
      obtain ⟨i, rfl, hi, rfl, hPE⟩ := hrel
      clear HP
      by_cases hlt : i < K
      · have p0 : (0 : Int) ≤ (i : Int) := by omega
        have p1 : (i : Int) < (K : Int) := by omega
        obtain ⟨⟨kz, z⟩, hp⟩ : ∃ p, ops[i]? = some p := ⟨_, List.getElem?_eq_getElem (by have := HN.out.2; omega)⟩
        obtain ⟨ao', cap', hsl, hall⟩ := H0.out.2.2.1
        injection hsl with e1 e2 e3
        obtain ⟨a, ha, y0, y1⟩ := hall i _ hp
        rw [← e1] at ha
        subst ha
        have hbw : Below w.heap.size w wr := bel_step' hPE.bl HB.out
        have z0 := y0
        have z1 := y1
        have hup : ∀ W, Below w.heap.size w W → W.cell? (a.add (i * 2)) = some (.int .i64 kz) ∧ W.cell? ⟨(a.add (i * 2)).block, (a.add (i * 2)).off + 1, none⟩ = some (.int .i64 z) := fun W hW => by
          have q1 := cellu z0 hW
          have q2 := cellu z1 hW
          refine ⟨q1, ?_⟩
          have q3 : W.cell? ((a.add (i * 2)).add 1) = some (.int .i64 z) := by rw [add_two8]; exact q2
          rw [← q3]; rfl
        obtain ⟨y0, y1⟩ := hup wr hbw
        have H1 : Hid _ := And.intro (step_any8 wB wr ga gb e kz z hPE HE.out.1 HE.out.2) hup
        clear z0 z1 hup hPE hbw hall hp e1 e2 e3
        go_wp2_with fail
        refine Calls.mono H1.out.1 ?_
        rintro r w1 ⟨rfl, hP1⟩
        have hb1 : Below w.heap.size w w1 := bel_step' hP1.bl HB.out
        clear y0 y1
        obtain ⟨y0, y1⟩ := H1.out.2 w1 hb1
        have H2 : Hid (PE wB w1 ga gb) := hP1
        clear hP1 hb1
        by_cases hpar : ((i : Int).tmod 2) = 0
        · have hpb : ((i : Int).tmod 2 == 0) = true := by simpa using hpar
          have hpb2 : ((i : Int) % 2 == 0) = true := by rw [← Int.tmod_eq_emod_of_nonneg p0]; exact hpb
          have hp2 : (i : Int) % 2 = 0 := by simpa using hpb2
          have HS2 : Hid _ := step_any8 wB w1 gb ga e kz z H2.out.swap HE.out.1 HE.out.2
          clear hpar
          go_wp2_with fail
          refine Calls.mono HS2.out ?_
          rintro r w2 ⟨rfl, hP2⟩
          have H3 : Hid (PE wB w2 ga gb) := hP2.swap
          clear hP2 HS2 H2 y0 y1
          cases each with
          | false =>
            go_wp2_with fail
            go_roundg (K - (i + 1))
            case measure => omega
            case rel => exact ⟨i + 1, rfl, by omega, by go_num, H3.out⟩
          | true =>
            have HL : Hid _ := looks_pe H3.out
            go_wp2_with fail
            refine Calls.mono HL.out ?_
            rintro r w3 ⟨rfl, hP3⟩
            have HL2 : Hid _ := looks_pe hP3.swap
            clear HL hP3 H3
            go_wp2_with fail
            refine Calls.mono HL2.out ?_
            rintro r w4 ⟨rfl, hP4⟩
            have H4 : Hid (PE wB w4 ga gb) := hP4.swap
            clear HL2 hP4
            go_wp2_with fail
            go_roundg (K - (i + 1))
            case measure => omega
            case rel => exact ⟨i + 1, rfl, by omega, by go_num, H4.out⟩
        · have hpb : ((i : Int).tmod 2 == 0) = false := by simpa using hpar
          have hpb2 : ((i : Int) % 2 == 0) = false := by rw [← Int.tmod_eq_emod_of_nonneg p0]; exact hpb
          have hp2 : ¬ (i : Int) % 2 = 0 := by simpa using hpb2
          clear hpar y0 y1
          cases each with
          | false =>
            go_wp2_with fail
            go_roundg (K - (i + 1))
            case measure => omega
            case rel => exact ⟨i + 1, rfl, by omega, by go_num, H2.out⟩
          | true =>
            have HL : Hid _ := looks_pe H2.out
            go_wp2_with fail
            refine Calls.mono HL.out ?_
            rintro r w3 ⟨rfl, hP3⟩
            have HL2 : Hid _ := looks_pe hP3.swap
            clear HL hP3
            go_wp2_with fail
            refine Calls.mono HL2.out ?_
            rintro r w4 ⟨rfl, hP4⟩
            have H4 : Hid (PE wB w4 ga gb) := hP4.swap
            clear HL2 hP4
            go_wp2_with fail
            go_roundg (K - (i + 1))
            case measure => omega
            case rel => exact ⟨i + 1, rfl, by omega, by go_num, H4.out⟩
      · obtain rfl : i = K := by omega
        have p1 : ¬ (i : Int) < (i : Int) := by omega
        have HL : Hid _ := looks_pe hPE
        clear hPE
        go_wp2_with fail
        refine Calls.mono HL.out ?_
        rintro r w3 ⟨rfl, hP3⟩
        have HL2 : Hid _ := looks_pe hP3.swap
        clear HL hP3
        go_wp2_with fail
        refine Calls.mono HL2.out ?_
        rintro r w4 ⟨rfl, hP4⟩
        have H4 : Hid _ := And.intro hP4.swap.apart (bel_step' hP4.bl HB.out)
        clear HL2 hP4
        cases each with
        | false =>
          go_wp2_with fail
          go_ret
          exact ⟨rfl, H4.out.2⟩
        | true =>
          go_wp2_with fail
          refine Calls.mono H4.out.1 ?_
          rintro r w6 ⟨rfl, hb6⟩
          have H6 : Hid (Below w.heap.size w w6) := bel_step' hb6 HB.out
          clear hb6
          go_wp2_with fail
          go_ret
          exact ⟨rfl, H6.out⟩
end Go.Proofs.YtpcndfffljmajaaGreatDoor
/- Chapter 8's law: the play, bb. (Written by mkplay8.py.) -/
namespace Go.Proofs.YtpcndfffljmajaaGreatDoor
open Go.RowKit Go.Maps
attribute [local go_sem ↓] Go.wp_at_zero Go.wp_at_succ
set_option maxRecDepth 100000 in
set_option maxHeartbeats 16000000 in
theorem play_bb (n : Int) (v : Value) (zs : List Int) (vo : Value) (ops : List (Int × Int)) (each : Bool) (e : Nat → Addr) (w : World) (hv : HasI w v zs) (hi : I64s zs) (hO : HasO8 w vo ops) (hl : ops.length ≤ 400) (hE : Er 19 w e) (hR : EnvR w (e 1) (e 3)) (hn : n < 0 ∨ 1000 < n) (hc : 1000 < zs.length ∧ zs.length ≤ 1100) :
    Calls Tryz.prog 5 #[.int .i64 n, v, vo, .bool each] w fun r w' => r = .returned (.bool true) ∧ Below w.heap.size w w' := by
  have hcm : zs.length ≤ 1100 := by omega
  have hvs := hv
  have hOs := hO
  obtain ⟨ao, cap, rfl, _⟩ := hvs
  obtain ⟨aop, capo, rfl, _⟩ := hOs
  obtain ⟨m, hm⟩ : ∃ m, m = zs.length := ⟨_, rfl⟩
  obtain ⟨K, hK⟩ : ∃ K, K = ops.length := ⟨_, rfl⟩
  have q1 : ¬ (400 : Int) < (K : Int) := by omega
  have q2 : ¬ (1100 : Int) < (m : Int) := by omega
  have HA : Hid _ := alive8 w
  have H0 : Hid (HasI w (.slice ao m cap) zs ∧ I64s zs ∧ HasO8 w (.slice aop K capo) ops ∧ Er 19 w e ∧ EnvR w (e 1) (e 3)) := (by rw [hm, hK]; exact ⟨hv, hi, hO, hE, hR⟩ : HasI w (.slice ao m cap) zs ∧ I64s zs ∧ HasO8 w (.slice aop K capo) ops ∧ Er 19 w e ∧ EnvR w (e 1) (e 3))
  have HN : Hid (m = zs.length ∧ K = ops.length) := ⟨hm, hK⟩
  rw [← hm, ← hK]
  clear hv hi hO hE hR hm hK
  go_enter Tryz.func5, Tryz.ntmps5
  go_wp2_with fail
  refine Calls.mono HA.out ?_
  rintro r wB ⟨rfl, hbB⟩
  have HB : Hid (Below w.heap.size w wB) := hbB
  clear hbB HA
  go_upto_region 6 with fail
  obtain ⟨w2, hw2⟩ : ∃ w2, w2 = wB.alloc (.cells #[.slice none 0 0, .slice none 0 0, .slice none 0 0, .slice none 0 0, .slice none 0 0, .slice none 0 0, .slice none 0 0, .slice none 0 0, .slice none 0 0, .slice none 0 0, .slice none 0 0, .slice none 0 0, .slice none 0 0, .slice none 0 0, .slice none 0 0, .slice none 0 0, .slice none 0 0, .slice none 0 0, .slice none 0 0, .slice none 0 0, .slice none 0 0, .slice none 0 0] 40) := ⟨_, rfl⟩
  rw [← hw2]
  have hbk : ∀ F, Bk wB w2 F := fun F => by rw [hw2]; exact Bk.new wB F
  have b2 : Below w.heap.size w w2 := HB.out.trans ((hbk fun _ => False).bw.mono HB.out.size)
  have HK : Hid (∀ F, Bk wB w2 F) := hbk
  clear hw2 hbk
  have HNew : Hid _ := new_bad8 n (e 1) (e 3) w2 (H0.out.2.2.2.2.below b2) hn
  go_wp2_with fail
  refine Calls.mono HNew.out ?_
  rintro r w3 ⟨xn, rfl, hC3, hb3⟩
  have b3 : Below w.heap.size w w3 := bel_step hb3 b2
  obtain ⟨bn, un, hxn, _, _⟩ := _root_.id hC3
  have H3 : Hid (Chain w3 0 0 (e 1) [refB] xn ∧ Below w2.heap.size w2 w3) := ⟨hC3, hb3⟩
  subst hxn
  clear hC3 hb3 HNew
  have HRn : Hid _ := rNew_bad n w3 hn
  go_wp2_with fail
  refine Calls.mono HRn.out ?_
  rintro r w4 ⟨rfl, hb4⟩
  have b4 : Below w.heap.size w w4 := bel_step hb4 b3
  have H4 : Hid (Below w3.heap.size w3 w4) := hb4
  clear hb4 HRn
  obtain ⟨w5, hw5⟩ : ∃ w5, w5 = w4.alloc (.cells #[.slice none 0 0, .slice none 0 0, .int .i64 0] 48) := ⟨_, rfl⟩
  have b45 : Below w4.heap.size w4 w5 := by rw [hw5]; exact (Below.refl _ _).alloc (Nat.le_refl _) _
  have hb12 : w5.heap[w4.heap.size]? = some (.cells #[.slice none 0 0, .slice none 0 0, .int .i64 0] 48 (0, 0)) := by rw [hw5]; exact (MapKept.heap_alloc w4 _).1
  have b5 : Below w.heap.size w w5 := bel_step b45 b4
  have H5 : Hid (Below w4.heap.size w4 w5 ∧ w5.heap[w4.heap.size]? = some (.cells #[.slice none 0 0, .slice none 0 0, .int .i64 0] 48 (0, 0))) := ⟨b45, hb12⟩
  have hOf := of_bad (.slice ao m cap) zs (e 1) (e 3) w5 (H0.out.2.2.2.2.below b5) (H0.out.1.below b5) hc.1
  have HOf : Hid _ := hOf
  have HW5 : Hid _ := hw5
  clear hOf hw5 b45 hb12
  go_upto_region 8 with fail
  rw [← HW5.out]
  clear HW5
  go_wp2_with fail
  refine Calls.mono HOf.out ?_
  rintro r w6 ⟨xc, rfl, hC6, hb6⟩
  have b6 : Below w.heap.size w w6 := bel_step hb6 b5
  obtain ⟨bc, uc, hxc, _, _⟩ := _root_.id hC6
  have H6 : Hid (Chain w6 0 0 (e 1) [refB] xc ∧ Below w5.heap.size w5 w6) := ⟨hC6, hb6⟩
  have hRo := rOf_bad (.slice ao m cap) zs w6 (H0.out.1.below b6) hc.1
  have HRo : Hid _ := hRo
  subst hxc
  clear hC6 hb6 HOf hRo
  go_wp2_with fail
  refine Calls.mono HRo.out ?_
  rintro r w7 ⟨rfl, hb7⟩
  have b7 : Below w.heap.size w w7 := bel_step hb7 b6
  have H7 : Hid (Below w6.heap.size w6 w7) := hb7
  clear hb7 HRo
  obtain ⟨w8, hw8⟩ : ∃ w8, w8 = w7.alloc (.cells #[.slice none 0 0, .slice none 0 0, .int .i64 0] 48) := ⟨_, rfl⟩
  have b78 : Below w7.heap.size w7 w8 := by rw [hw8]; exact (Below.refl _ _).alloc (Nat.le_refl _) _
  have hb16 : w8.heap[w7.heap.size]? = some (.cells #[.slice none 0 0, .slice none 0 0, .int .i64 0] 48 (0, 0)) := by rw [hw8]; exact (MapKept.heap_alloc w7 _).1
  have b8 : Below w.heap.size w w8 := bel_step b78 b7
  have hb12 := res_up b78 (res_up H7.out (res_up H6.out.2 H5.out.2))
  have HBd : Hid _ := bad8 1 w8
  have H8 : Hid (Below w7.heap.size w7 w8 ∧ w8.heap[w7.heap.size]? = some (.cells #[.slice none 0 0, .slice none 0 0, .int .i64 0] 48 (0, 0)) ∧ w8.heap[w4.heap.size]? = some (.cells #[.slice none 0 0, .slice none 0 0, .int .i64 0] 48 (0, 0))) := ⟨b78, hb16, hb12⟩
  have HW8 : Hid _ := hw8
  clear hw8 b78 hb16 hb12
  go_upto_region 10 with fail
  rw [← HW8.out]
  clear HW8
  go_wp2_with fail
  refine Calls.mono HBd.out ?_
  rintro r w9 ⟨rfl, hb9⟩
  have b9 : Below w.heap.size w w9 := bel_step hb9 b8
  have H9 : Hid (Below w8.heap.size w8 w9) := hb9
  clear hb9 HBd
  obtain ⟨w10, hw10⟩ : ∃ w10, w10 = w9.alloc (.cells #[.int .i64 1, .int .i64 0, .int .i64 0, .string refB1] 54) := ⟨_, rfl⟩
  have b910 : Below w9.heap.size w9 w10 := by rw [hw10]; exact (Below.refl _ _).alloc (Nat.le_refl _) _
  have hx18 : w10.heap[w9.heap.size]? = some (.cells #[.int .i64 1, .int .i64 0, .int .i64 0, .string refB1] 54 (0, 0)) := by rw [hw10]; exact (MapKept.heap_alloc w9 _).1
  have b10 : Below w.heap.size w w10 := bel_step b910 b9
  have H10 : Hid (Below w9.heap.size w9 w10 ∧ w10.heap[w9.heap.size]? = some (.cells #[.int .i64 1, .int .i64 0, .int .i64 0, .string refB1] 54 (0, 0))) := ⟨b910, hx18⟩
  have HW10 : Hid _ := hw10
  have e0 := cell0_of (k := 0) hx18 rfl
  have e1 := cell0_of (k := 1) hx18 rfl
  have e2 := cell0_of (k := 2) hx18 rfl
  have e3 := cell0_of (k := 3) hx18 rfl
  clear hw10 b910 hx18
  go_upto_region 11 with fail
  rw [← HW10.out]
  clear HW10
  have HT : Hid _ := told8 1 (by decide) (by decide) (.iface 78 (.pointer (some ⟨bn, 0, none⟩))) e w10 (H0.out.2.2.2.1.below b10) (H3.out.1.below (bel_step H10.out.1 (bel_step H9.out (bel_step H8.out.1 (bel_step H7.out (bel_step H6.out.2 (bel_step H5.out.1 H4.out)))))))
  go_wp2_with fail
  refine Calls.mono HT.out ?_
  rintro r w11 ⟨rfl, hbt⟩
  have b11 : Below w.heap.size w w11 := bel_step hbt b10
  have hx18 := res_up hbt H10.out.2
  have H10 : Hid (Below w9.heap.size w9 w11 ∧ w11.heap[w9.heap.size]? = some (.cells #[.int .i64 1, .int .i64 0, .int .i64 0, .string refB1] 54 (0, 0))) := ⟨bel_step hbt H10.out.1, hx18⟩
  clear hbt HT e0 e1 e2 e3
  have e0 := cell0_of (k := 0) hx18 rfl
  have e1 := cell0_of (k := 1) hx18 rfl
  have e2 := cell0_of (k := 2) hx18 rfl
  have e3 := cell0_of (k := 3) hx18 rfl
  clear hx18
  have HT : Hid _ := told8 1 (by decide) (by decide) (.iface 78 (.pointer (some ⟨bc, 0, none⟩))) e w11 (H0.out.2.2.2.1.below b11) (H6.out.1.below (bel_step H10.out.1 (bel_step H9.out (bel_step H8.out.1 H7.out))))
  go_wp2_with fail
  refine Calls.mono HT.out ?_
  rintro r w12 ⟨rfl, hbt⟩
  have b12 : Below w.heap.size w w12 := bel_step hbt b11
  have hx18 := res_up hbt H10.out.2
  have H10 : Hid (Below w9.heap.size w9 w12 ∧ w12.heap[w9.heap.size]? = some (.cells #[.int .i64 1, .int .i64 0, .int .i64 0, .string refB1] 54 (0, 0))) := ⟨bel_step hbt H10.out.1, hx18⟩
  clear hbt HT e0 e1 e2 e3
  have e0 := cell0_of (k := 0) hx18 rfl
  have e1 := cell0_of (k := 1) hx18 rfl
  have e2 := cell0_of (k := 2) hx18 rfl
  have e3 := cell0_of (k := 3) hx18 rfl
  clear hx18
  have b8T : Below w8.heap.size w8 w12 := bel_step H10.out.1 H9.out
  have hb12 := res_up b8T H8.out.2.2
  have hb16 := res_up b8T H8.out.2.1
  have a0 := cell0_of (k := 0) hb12 rfl
  have a1 := cell0_of (k := 1) hb12 rfl
  have a2 := cell0_of (k := 2) hb12 rfl
  have d0 := cell0_of (k := 0) hb16 rfl
  have d1 := cell0_of (k := 1) hb16 rfl
  have d2 := cell0_of (k := 2) hb16 rfl
  have f0 := blk_free hb12 0
  have f1 := blk_free hb12 1
  have f2 := blk_free hb12 2
  have f3 := blk_free hb16 0
  have f4 := blk_free hb16 1
  have f5 := blk_free hb16 2
  have l1 := t_lt hb12
  have l2 := t_lt hb16
  have l0 : w4.heap.size < w7.heap.size := by have := H5.out.1.size; have := t_lt H5.out.2; have := (H6.out.2).size; have := (H7.out).size; omega
  have l3 : ¬ w4.heap.size = w12.heap.size := by omega
  have l4 : ¬ w7.heap.size = w12.heap.size := by omega
  have l5 : ¬ w12.heap.size = w4.heap.size := by omega
  have l6 : ¬ w12.heap.size = w7.heap.size := by omega
  have l7 : ¬ w4.heap.size = w7.heap.size := by omega
  have l8 : ¬ w7.heap.size = w4.heap.size := by omega
  clear e0 e1 e2 e3
  go_upto_region 17 with fail
  have bw2 := (HK.out fun _ => False).bw
  have bw5 : Below wB.heap.size wB w5 := bel_step H5.out.1 (bel_step (H4.out) (bel_step (H3.out.2) bw2))
  have b2T : Below w2.heap.size w2 w12 := bel_step b8T (bel_step H8.out.1 (bel_step (H7.out) (bel_step (H6.out.2) (bel_step H5.out.1 (bel_step (H4.out) (H3.out.2))))))
  have bwT : Below wB.heap.size wB w12 := bel_step b2T bw2
  have s2 := bw2.size
  have s23 := (H3.out.2).size
  have s34 := (H4.out).size
  have s47 : w4.heap.size ≤ w7.heap.size := Nat.le_of_lt l0
  have s7T := l2
  obtain ⟨z1, k1⟩ := zero_again hb12
  have z2 := (k1.block _ l2 (by omega)).trans hb16
  obtain ⟨wR, hwR⟩ : ∃ wR, wR = ((w12.setCell ⟨w4.heap.size, 0, none⟩ (.slice none 0 0)).setCell ⟨w4.heap.size, 1, none⟩ (.slice none 0 0)).setCell ⟨w4.heap.size, 2, none⟩ (.int .i64 0) := ⟨_, rfl⟩
  rw [← hwR] at z1 k1 z2 ⊢
  have sR : wR.heap.size = w12.heap.size := by rw [hwR]; simp
  obtain ⟨z3, k2⟩ := zero_again z2
  have z1 := (k2.block _ (by omega) (by omega)).trans z1
  obtain ⟨wS, hwS⟩ : ∃ wS, wS = ((wR.setCell ⟨w7.heap.size, 0, none⟩ (.slice none 0 0)).setCell ⟨w7.heap.size, 1, none⟩ (.slice none 0 0)).setCell ⟨w7.heap.size, 2, none⟩ (.int .i64 0) := ⟨_, rfl⟩
  rw [← hwS] at z1 k2 z3 ⊢
  have sS : wS.heap.size = w12.heap.size := by rw [hwS, ← sR]; simp
  have bwR : Below wB.heap.size wB wR := bwT.trans (k1.below bwT.size (fun i hi => by subst hi; omega))
  have b2R : Below w2.heap.size w2 wR := b2T.trans (k1.below b2T.size (fun i hi => by subst hi; omega))
  have bwS : Below wB.heap.size wB wS := bwR.trans (k2.below bwR.size (fun i hi => by subst hi; omega))
  have b2S : Below w2.heap.size w2 wS := b2R.trans (k2.below b2R.size (fun i hi => by subst hi; omega))
  have hA := side_zero bwS
  have bY1 : Below wS.heap.size wS (wS.alloc (.cells Tryz.zeroCells62 62)) := (Below.refl _ _).alloc (Nat.le_refl _) _
  have hB := side_zero (bwS.trans (bY1.mono bwS.size))
  have bY2 := (Below.refl (wS.alloc (.cells Tryz.zeroCells62 62)).heap.size (wS.alloc (.cells Tryz.zeroCells62 62))).alloc (Nat.le_refl _) (.cells Tryz.zeroCells62 62)
  have hAl := hA.lt
  have hS0 := Start.of (fun F => (((HK.out F).below b2S).below bY1).below bY2) (hA.below bY2) hB (by omega) (fun h => absurd h (by simp [Pst.new]))
  have z1 := res_up bY2 (res_up bY1 z1)
  have z2 := res_up bY2 (res_up bY1 z3)
  rw [show (wS.alloc (.cells Tryz.zeroCells62 62)).heap.size = wS.heap.size + 1 by simp] at hS0
  obtain ⟨wY, hwY⟩ : ∃ wY, wY = ((wS.alloc (.cells Tryz.zeroCells62 62)).alloc (.cells Tryz.zeroCells62 62)) := ⟨_, rfl⟩
  rw [← hwY] at hS0 z1 z2 ⊢
  rw [sS] at hS0
  have HS : Hid _ := hS0
  have HE : Hid (Er 19 wB e ∧ EnvR wB (e 1) (e 3)) := ⟨H0.out.2.2.2.1.below HB.out, H0.out.2.2.2.2.below HB.out⟩
  clear a0 a1 a2 d0 d1 d2 f0 f1 f2 f3 f4 f5 l3 l4 l5 l6 l7 l8
  have a0 := cell0_of (k := 0) z1 rfl
  have a1 := cell0_of (k := 1) z1 rfl
  have a2 := cell0_of (k := 2) z1 rfl
  have d0 := cell0_of (k := 0) z2 rfl
  have d1 := cell0_of (k := 1) z2 rfl
  have d2 := cell0_of (k := 2) z2 rfl
  have l1 := t_lt z1
  have l2 := t_lt z2
  have l3 : ¬ w4.heap.size = wY.heap.size := by omega
  have l4 : ¬ w7.heap.size = wY.heap.size := by omega
  have l5 : ¬ wY.heap.size = w4.heap.size := by omega
  have l6 : ¬ wY.heap.size = w7.heap.size := by omega
  clear hS0 z1 z2 hwY hwS sS bwS b2S bwT b2T bw2 bw5 s2 s23 s34 s47 s7T l0 hb12 hb16 b8T k1 b2 b3 b4 b5 b6 b7 b8 b9 b10 H3 H4 H5 H6 H7 H8 H9 H10 HK
  go_cut [19, 20] (fun s19 s20 wx => ∃ ga gb : Nat, s19 = .pointer (some ⟨ga, 0, none⟩) ∧ s20 = .pointer (some ⟨gb, 0, none⟩) ∧ PE wB wx ga gb)
  case first =>
    go_region
    all_goals go_wp2_with fail
    all_goals
      go_meet
      have h1 := HS.out.pe1
      have h2 := HS.out.pe2
      unfold bothV at h1 h2
      simp only [show (Pst.new 0).nb = 0 from rfl, Int.natCast_zero] at h1 h2
      first
        | exact ⟨_, _, rfl, rfl, h1⟩
        | exact ⟨_, _, rfl, rfl, h2⟩
        | exact ⟨_, _, rfl, rfl, h1.below (Below.refl _ _).drew⟩
        | exact ⟨_, _, rfl, rfl, h2.below (Below.refl _ _).drew⟩
  case rest =>
    obtain ⟨ga, gb, rfl, rfl, hPE⟩ := hcut
    have HP : Hid (PE wB wc ga gb) := hPE
    clear hPE HS a0 a1 a2 d0 d1 d2 l1 l2 l3 l4 l5 l6
    go_wp2_with fail
    go_loopg [21] K (fun q iv wr => ∃ i : Nat, q = K - i ∧ i ≤ K ∧ iv = .int .i64 i ∧ PE wB wr ga gb)
    case atStart => exact ⟨0, rfl, Nat.zero_le _, rfl, HP.out⟩
    case round =>
      obtain ⟨i, rfl, hi, rfl, hPE⟩ := hrel
      clear HP
      by_cases hlt : i < K
      · have p0 : (0 : Int) ≤ (i : Int) := by omega
        have p1 : (i : Int) < (K : Int) := by omega
        obtain ⟨⟨kz, z⟩, hp⟩ : ∃ p, ops[i]? = some p := ⟨_, List.getElem?_eq_getElem (by have := HN.out.2; omega)⟩
        obtain ⟨ao', cap', hsl, hall⟩ := H0.out.2.2.1
        injection hsl with e1 e2 e3
        obtain ⟨a, ha, y0, y1⟩ := hall i _ hp
        rw [← e1] at ha
        subst ha
        have hbw : Below w.heap.size w wr := bel_step' hPE.bl HB.out
        have z0 := y0
        have z1 := y1
        have hup : ∀ W, Below w.heap.size w W → W.cell? (a.add (i * 2)) = some (.int .i64 kz) ∧ W.cell? ⟨(a.add (i * 2)).block, (a.add (i * 2)).off + 1, none⟩ = some (.int .i64 z) := fun W hW => by
          have q1 := cellu z0 hW
          have q2 := cellu z1 hW
          refine ⟨q1, ?_⟩
          have q3 : W.cell? ((a.add (i * 2)).add 1) = some (.int .i64 z) := by rw [add_two8]; exact q2
          rw [← q3]; rfl
        obtain ⟨y0, y1⟩ := hup wr hbw
        have H1 : Hid _ := And.intro (step_any8 wB wr ga gb e kz z hPE HE.out.1 HE.out.2) hup
        clear z0 z1 hup hPE hbw hall hp e1 e2 e3
        go_wp2_with fail
        refine Calls.mono H1.out.1 ?_
        rintro r w1 ⟨rfl, hP1⟩
        have hb1 : Below w.heap.size w w1 := bel_step' hP1.bl HB.out
        clear y0 y1
        obtain ⟨y0, y1⟩ := H1.out.2 w1 hb1
        have H2 : Hid (PE wB w1 ga gb) := hP1
        clear hP1 hb1
        by_cases hpar : ((i : Int).tmod 2) = 0
        · have hpb : ((i : Int).tmod 2 == 0) = true := by simpa using hpar
          have hpb2 : ((i : Int) % 2 == 0) = true := by rw [← Int.tmod_eq_emod_of_nonneg p0]; exact hpb
          have hp2 : (i : Int) % 2 = 0 := by simpa using hpb2
          have HS2 : Hid _ := step_any8 wB w1 gb ga e kz z H2.out.swap HE.out.1 HE.out.2
          clear hpar
          go_wp2_with fail
          refine Calls.mono HS2.out ?_
          rintro r w2 ⟨rfl, hP2⟩
          have H3 : Hid (PE wB w2 ga gb) := hP2.swap
          clear hP2 HS2 H2 y0 y1
          cases each with
          | false =>
            go_wp2_with fail
            go_roundg (K - (i + 1))
            case measure => omega
            case rel => exact ⟨i + 1, rfl, by omega, by go_num, H3.out⟩
          | true =>
            have HL : Hid _ := looks_pe H3.out
            go_wp2_with fail
            refine Calls.mono HL.out ?_
            rintro r w3 ⟨rfl, hP3⟩
            have HL2 : Hid _ := looks_pe hP3.swap
            clear HL hP3 H3
            go_wp2_with fail
            refine Calls.mono HL2.out ?_
            rintro r w4 ⟨rfl, hP4⟩
            have H4 : Hid (PE wB w4 ga gb) := hP4.swap
            clear HL2 hP4
            go_wp2_with fail
            go_roundg (K - (i + 1))
            case measure => omega
            case rel => exact ⟨i + 1, rfl, by omega, by go_num, H4.out⟩
        · have hpb : ((i : Int).tmod 2 == 0) = false := by simpa using hpar
          have hpb2 : ((i : Int) % 2 == 0) = false := by rw [← Int.tmod_eq_emod_of_nonneg p0]; exact hpb
          have hp2 : ¬ (i : Int) % 2 = 0 := by simpa using hpb2
          clear hpar y0 y1
          cases each with
          | false =>
            go_wp2_with fail
            go_roundg (K - (i + 1))
            case measure => omega
            case rel => exact ⟨i + 1, rfl, by omega, by go_num, H2.out⟩
          | true =>
            have HL : Hid _ := looks_pe H2.out
            go_wp2_with fail
            refine Calls.mono HL.out ?_
            rintro r w3 ⟨rfl, hP3⟩
            have HL2 : Hid _ := looks_pe hP3.swap
            clear HL hP3
            go_wp2_with fail
            refine Calls.mono HL2.out ?_
            rintro r w4 ⟨rfl, hP4⟩
            have H4 : Hid (PE wB w4 ga gb) := hP4.swap
            clear HL2 hP4
            go_wp2_with fail
            go_roundg (K - (i + 1))
            case measure => omega
            case rel => exact ⟨i + 1, rfl, by omega, by go_num, H4.out⟩
      · obtain rfl : i = K := by omega
        have p1 : ¬ (i : Int) < (i : Int) := by omega
        have HL : Hid _ := looks_pe hPE
        clear hPE
        go_wp2_with fail
        refine Calls.mono HL.out ?_
        rintro r w3 ⟨rfl, hP3⟩
        have HL2 : Hid _ := looks_pe hP3.swap
        clear HL hP3
        go_wp2_with fail
        refine Calls.mono HL2.out ?_
        rintro r w4 ⟨rfl, hP4⟩
        have H4 : Hid _ := And.intro hP4.swap.apart (bel_step' hP4.bl HB.out)
        clear HL2 hP4
        cases each with
        | false =>
          go_wp2_with fail
          go_ret
          exact ⟨rfl, H4.out.2⟩
        | true =>
          go_wp2_with fail
          refine Calls.mono H4.out.1 ?_
          rintro r w6 ⟨rfl, hb6⟩
          have H6 : Hid (Below w.heap.size w w6) := bel_step' hb6 HB.out
          clear hb6
          go_wp2_with fail
          go_ret
          exact ⟨rfl, H6.out⟩
end Go.Proofs.YtpcndfffljmajaaGreatDoor
/- Chapter 8's laws RefinePlays and RefineAll as calls. -/
namespace Go.Proofs.YtpcndfffljmajaaGreatDoor
open Go.RowKit Go.Maps
attribute [local go_sem ↓] Go.wp_at_zero Go.wp_at_succ
set_option maxRecDepth 100000 in
set_option maxHeartbeats 4000000 in
theorem play_long (n : Int) (v : Value) (zs : List Int) (vo : Value) (ops : List (Int × Int)) (each : Bool) (w : World) (hv : HasI w v zs) (hO : HasO8 w vo ops) (hl : 400 < ops.length ∨ 1100 < zs.length) :
    Calls Tryz.prog 5 #[.int .i64 n, v, vo, .bool each] w fun r w' => r = .returned (.bool true) ∧ Below w.heap.size w w' := by
  obtain ⟨ao, cap, rfl, _⟩ := hv
  obtain ⟨aop, capo, rfl, _⟩ := hO
  generalize zs.length = m at hl ⊢
  generalize ops.length = K at hl ⊢
  have HA : Hid _ := alive8 w
  by_cases h1 : 400 < K
  · have q1 : (400 : Int) < (K : Int) := by omega
    clear hl h1
    go_enter Tryz.func5, Tryz.ntmps5
    go_wp2_with fail
    refine Calls.mono HA.out ?_
    rintro r w1 ⟨rfl, hb1⟩
    have H1 : Hid _ := hb1
    clear hb1 HA
    go_wp2_with fail
    go_ret
    exact ⟨rfl, H1.out⟩
  · have q1 : ¬ (400 : Int) < (K : Int) := by omega
    have q2 : (1100 : Int) < (m : Int) := by omega
    clear hl h1
    go_enter Tryz.func5, Tryz.ntmps5
    go_wp2_with fail
    refine Calls.mono HA.out ?_
    rintro r w1 ⟨rfl, hb1⟩
    have H1 : Hid _ := hb1
    clear hb1 HA
    go_wp2_with fail
    go_ret
    exact ⟨rfl, H1.out⟩
theorem play_any8 (n : Int) (v : Value) (zs : List Int) (vo : Value) (ops : List (Int × Int)) (each : Bool) (e : Nat → Addr) (w : World) (hv : HasI w v zs) (hi : I64s zs) (hO : HasO8 w vo ops) (hE : Er 19 w e) (hR : EnvR w (e 1) (e 3)) :
    Calls Tryz.prog 5 #[.int .i64 n, v, vo, .bool each] w fun r w' => r = .returned (.bool true) ∧ Below w.heap.size w w' := by
  by_cases h1 : 400 < ops.length ∨ 1100 < zs.length
  · exact play_long n v zs vo ops each w hv hO h1
  by_cases h2 : 0 ≤ n ∧ n ≤ 1000
  · obtain ⟨N, rfl⟩ : ∃ N : Nat, n = N := ⟨n.toNat, by omega⟩
    by_cases h3 : zs.length ≤ 1000
    · exact play_aa N v zs vo ops each e w hv hi hO (by omega) hE hR (by omega) h3
    · exact play_ab N v zs vo ops each e w hv hi hO (by omega) hE hR (by omega) (by omega)
  · by_cases h3 : zs.length ≤ 1000
    · exact play_ba n v zs vo ops each e w hv hi hO (by omega) hE hR (by omega) h3
    · exact play_bb n v zs vo ops each e w hv hi hO (by omega) hE hR (by omega) (by omega)
set_option maxRecDepth 100000 in
set_option maxHeartbeats 1000000 in
theorem lawPlays8 (n : Int) (v : Value) (zs : List Int) (vo : Value) (ops : List (Int × Int)) (e : Nat → Addr) (w : World) (hv : HasI w v zs) (hi : I64s zs) (hO : HasO8 w vo ops) (hE : Er 19 w e) (hR : EnvR w (e 1) (e 3)) :
    Calls Tryz.prog 3 #[.int .i64 n, v, vo] w fun r w' => r = .returned (.bool true) ∧ Below w.heap.size w w' := by
  have HA : Hid _ := play_any8 n v zs vo ops false e w hv hi hO hE hR
  clear hv hi hO hE hR
  go_enter Tryz.func3, Tryz.ntmps3
  go_wp2_with fail
  refine Calls.mono HA.out ?_
  rintro r w1 ⟨rfl, hb1⟩
  have H1 : Hid _ := hb1
  clear hb1 HA
  go_wp2_with fail
  go_ret
  exact ⟨rfl, H1.out⟩
set_option maxRecDepth 100000 in
set_option maxHeartbeats 1000000 in
theorem lawAll8 (n : Int) (v : Value) (zs : List Int) (vo : Value) (ops : List (Int × Int)) (e : Nat → Addr) (w : World) (hv : HasI w v zs) (hi : I64s zs) (hO : HasO8 w vo ops) (hE : Er 19 w e) (hR : EnvR w (e 1) (e 3)) :
    Calls Tryz.prog 4 #[.int .i64 n, v, vo] w fun r w' => r = .returned (.bool true) ∧ Below w.heap.size w w' := by
  have HA : Hid _ := play_any8 n v zs vo ops true e w hv hi hO hE hR
  clear hv hi hO hE hR
  go_enter Tryz.func4, Tryz.ntmps4
  go_wp2_with fail
  refine Calls.mono HA.out ?_
  rintro r w1 ⟨rfl, hb1⟩
  have H1 : Hid _ := hb1
  clear hb1 HA
  go_wp2_with fail
  go_ret
  exact ⟨rfl, H1.out⟩
end Go.Proofs.YtpcndfffljmajaaGreatDoor
/- What the listed package variables give: api's errors lie in memory, each at an address of its own, whichever are listed. (Written by mker.py.) -/
namespace Go.Proofs.YtpcndfffljmajaaGreatDoor
open Go.ChangeShapes Go.WideShapes Go.ChangeAt Go.WideMaps Go.WideElems Go.RowKit
theorem Tryz.own : ownKnob Tryz.prog.godebug = none := by kernel_rfl
theorem Tryz.laidOut : laidOutB Tryz.prog = true := by kernel_rfl
theorem Tryz.cellsE : Tryz.prog.cellsOf 239 = 1 := by kernel_rfl
theorem Tryz.cellsS : Tryz.prog.cellsOf 9 = 1 := by kernel_rfl
set_option maxRecDepth 100000 in
theorem Tryz.star : "*" ++ "errors.errorString" = "*errors.errorString" := by decide
set_option maxRecDepth 100000 in
theorem Tryz.rowE (u : TypeId) (h : Tryz.prog.typeName? 3 u = some "*errors.errorString") : u = 219 :=
  typeName_ptr_named (nm := "errors.errorString") (by rw [Tryz.star]; kernel_rfl) (by kernel_rfl) (by decide) u (by rw [Tryz.star]; exact h)
set_option maxRecDepth 100000 in
/-- One listed error: its variable's cell, its place; and the rest of the list. -/
theorem laid_step {W : World} {n : String} {g : Nat} {text : List UInt8} {r : List (String × DataW Unit)} {ps : List MemPlace} (hg : Tryz.prog.globalNamed n = some g) (ht : (Tryz.prog.globals[g]?).map (·.type) = some 43)
    (h : DataW.LaidVars Tryz.prog W ((n, .iface "*errors.errorString" (.ptr (.agg [.lit (.string text)]))) :: r) ps)
    (hrows : ∀ b off, MemPlace.cell b off ∈ ps → (∃ c t, W.heap[b]? = some (.cells c t (0, 0))) ∧ ∀ u v, W.cell? ⟨b, off, none⟩ = some (.iface u v) → Value.okWide Tryz.prog W .any 0 u v) :
    ∃ a q, Sent W g a ∧ DataW.LaidVars Tryz.prog W r q ∧ ps = MemPlace.cell g 0 :: MemPlace.cell a.block a.off :: q := by
  obtain ⟨g0, t0, cs0, f0, p0, q0, hg0, ht0, hv0, hd0, hr, e0⟩ := h
  obtain rfl := Option.some.inj (hg.symm.trans hg0)
  obtain rfl := Option.some.inj (ht.symm.trans ht0)
  subst e0
  obtain ⟨l0⟩ := cs0
  have ok0 : ∀ u v, l0 = [.iface u v] → Value.okWide Tryz.prog W .any 0 u v := fun u v e => by
    subst e
    exact (hrows g 0 (by simp [MemPlace.row])).2 u v (by simpa using World.var?_cell hg0 hv0 0)
  obtain ⟨a0, s0, rfl, hc0, hs0, hz0, rfl⟩ := errorString_of_trod Tryz.underlying43 Tryz.rowE Tryz.underlying219 Tryz.underlying239 rfl rfl Tryz.underlying9 Tryz.cellsE Tryz.cellsS hd0 ok0
  refine ⟨a0, q0, ⟨by simpa using World.var?_cell hg0 hv0 0, (hrows a0.block a0.off (by simp [MemPlace.row])).1⟩, hr, ?_⟩
  simp [MemPlace.row]
/-- A listed error: its name, its variable, its text. -/
abbrev LE : Type := String × Nat × List UInt8
def leV (x : LE) : String × DataW Unit := (x.1, .iface "*errors.errorString" (.ptr (.agg [.lit (.string x.2.2)])))
theorem laid_list {W : World} {r : List (String × DataW Unit)} : ∀ (xs : List LE) (ps : List MemPlace), (∀ x ∈ xs, Tryz.prog.globalNamed x.1 = some x.2.1 ∧ (Tryz.prog.globals[x.2.1]?).map (·.type) = some 43) →
    DataW.LaidVars Tryz.prog W (xs.map leV ++ r) ps → (∀ b off, MemPlace.cell b off ∈ ps → (∃ c t, W.heap[b]? = some (.cells c t (0, 0))) ∧ ∀ u v, W.cell? ⟨b, off, none⟩ = some (.iface u v) → Value.okWide Tryz.prog W .any 0 u v) →
    ∃ ads : List Addr, ads.length = xs.length ∧ (∀ (i : Nat) (x : LE) (a : Addr), xs[i]? = some x → ads[i]? = some a → Sent W x.2.1 a) ∧ (∀ a ∈ ads, MemPlace.cell a.block a.off ∈ ps) ∧ (ps.Nodup → ads.Pairwise (· ≠ ·))
  | [], ps, _, _, _ => ⟨[], rfl, fun i x a h => by simp at h, fun a h => by simp at h, fun _ => List.Pairwise.nil⟩
  | x :: xs, ps, hx, h, hr => by
    obtain ⟨a, q, hs, hq, rfl⟩ := laid_step (hx x List.mem_cons_self).1 (hx x List.mem_cons_self).2 h hr
    obtain ⟨ads, h1, h2, h3, h4⟩ := laid_list xs q (fun y hy => hx y (List.mem_cons_of_mem _ hy)) hq (fun b off hb => hr b off (List.mem_cons_of_mem _ (List.mem_cons_of_mem _ hb)))
    refine ⟨a :: ads, by simp [h1], fun i y b hy hb => ?_, fun b hb => ?_, fun hn => ?_⟩
    · cases i with
      | zero => simp at hy hb; subst hy; subst hb; exact hs
      | succ i => exact h2 i y b (by simpa using hy) (by simpa using hb)
    · rcases List.mem_cons.1 hb with rfl | hb
      · exact List.mem_cons_of_mem _ List.mem_cons_self
      · exact List.mem_cons_of_mem _ (List.mem_cons_of_mem _ (h3 b hb))
    · have hn2 := (List.nodup_cons.1 hn).2
      have hn3 := List.nodup_cons.1 hn2
      exact List.Pairwise.cons (fun b hb e => hn3.1 (by rw [e]; exact h3 b hb)) (h4 hn3.2)
theorem Tryz.g1 : Tryz.prog.globalNamed "semblance/api.ErrArg" = some 0 := by kernel_rfl
theorem Tryz.t1 : (Tryz.prog.globals[0]?).map (·.type) = some 43 := by kernel_rfl
theorem Tryz.g2 : Tryz.prog.globalNamed "semblance/api.ErrLong" = some 1 := by kernel_rfl
theorem Tryz.t2 : (Tryz.prog.globals[1]?).map (·.type) = some 43 := by kernel_rfl
theorem Tryz.g3 : Tryz.prog.globalNamed "semblance/api.ErrIndex" = some 2 := by kernel_rfl
theorem Tryz.t3 : (Tryz.prog.globals[2]?).map (·.type) = some 43 := by kernel_rfl
theorem Tryz.g4 : Tryz.prog.globalNamed "semblance/api.ErrWord" = some 3 := by kernel_rfl
theorem Tryz.t4 : (Tryz.prog.globals[3]?).map (·.type) = some 43 := by kernel_rfl
theorem Tryz.g5 : Tryz.prog.globalNamed "semblance/api.ErrSyntax" = some 4 := by kernel_rfl
theorem Tryz.t5 : (Tryz.prog.globals[4]?).map (·.type) = some 43 := by kernel_rfl
theorem Tryz.g6 : Tryz.prog.globalNamed "semblance/api.ErrDeep" = some 5 := by kernel_rfl
theorem Tryz.t6 : (Tryz.prog.globals[5]?).map (·.type) = some 43 := by kernel_rfl
theorem Tryz.g7 : Tryz.prog.globalNamed "semblance/api.ErrTwice" = some 6 := by kernel_rfl
theorem Tryz.t7 : (Tryz.prog.globals[6]?).map (·.type) = some 43 := by kernel_rfl
theorem Tryz.g8 : Tryz.prog.globalNamed "semblance/api.ErrUnknown" = some 7 := by kernel_rfl
theorem Tryz.t8 : (Tryz.prog.globals[7]?).map (·.type) = some 43 := by kernel_rfl
theorem Tryz.g9 : Tryz.prog.globalNamed "semblance/api.ErrSilent" = some 8 := by kernel_rfl
theorem Tryz.t9 : (Tryz.prog.globals[8]?).map (·.type) = some 43 := by kernel_rfl
theorem Tryz.g10 : Tryz.prog.globalNamed "semblance/api.ErrUnguarded" = some 9 := by kernel_rfl
theorem Tryz.t10 : (Tryz.prog.globals[9]?).map (·.type) = some 43 := by kernel_rfl
theorem Tryz.g11 : Tryz.prog.globalNamed "semblance/api.ErrSteps" = some 11 := by kernel_rfl
theorem Tryz.t11 : (Tryz.prog.globals[11]?).map (·.type) = some 43 := by kernel_rfl
theorem Tryz.g12 : Tryz.prog.globalNamed "semblance/api.ErrStates" = some 12 := by kernel_rfl
theorem Tryz.t12 : (Tryz.prog.globals[12]?).map (·.type) = some 43 := by kernel_rfl
theorem Tryz.g13 : Tryz.prog.globalNamed "semblance/api.ErrEdges" = some 13 := by kernel_rfl
theorem Tryz.t13 : (Tryz.prog.globals[13]?).map (·.type) = some 43 := by kernel_rfl
theorem Tryz.g14 : Tryz.prog.globalNamed "semblance/api.ErrSystem" = some 14 := by kernel_rfl
theorem Tryz.t14 : (Tryz.prog.globals[14]?).map (·.type) = some 43 := by kernel_rfl
theorem Tryz.g15 : Tryz.prog.globalNamed "semblance/api.ErrClasses" = some 15 := by kernel_rfl
theorem Tryz.t15 : (Tryz.prog.globals[15]?).map (·.type) = some 43 := by kernel_rfl
theorem Tryz.g16 : Tryz.prog.globalNamed "semblance/api.ErrFormula" = some 16 := by kernel_rfl
theorem Tryz.t16 : (Tryz.prog.globals[16]?).map (·.type) = some 43 := by kernel_rfl
theorem Tryz.g17 : Tryz.prog.globalNamed "semblance/api.ErrLimit" = some 17 := by kernel_rfl
theorem Tryz.t17 : (Tryz.prog.globals[17]?).map (·.type) = some 43 := by kernel_rfl
theorem Tryz.g18 : Tryz.prog.globalNamed "semblance/api.ErrNone" = some 18 := by kernel_rfl
theorem Tryz.t18 : (Tryz.prog.globals[18]?).map (·.type) = some 43 := by kernel_rfl
theorem Tryz.g19 : Tryz.prog.globalNamed "semblance/api.ErrScript" = some 19 := by kernel_rfl
theorem Tryz.t19 : (Tryz.prog.globals[19]?).map (·.type) = some 43 := by kernel_rfl
set_option maxRecDepth 100000 in
theorem er_of {W : World} {x1 x2 x3 x4 x5 x6 x7 x8 x9 x10 x11 x12 x13 x14 x15 x16 x17 x18 x19 : List UInt8} {r : List (String × DataW Unit)} (h : laidMet Tryz.prog (("semblance/api.ErrArg", .iface "*errors.errorString" (.ptr (.agg [.lit (.string x1)]))) :: ("semblance/api.ErrLong", .iface "*errors.errorString" (.ptr (.agg [.lit (.string x2)]))) :: ("semblance/api.ErrIndex", .iface "*errors.errorString" (.ptr (.agg [.lit (.string x3)]))) :: ("semblance/api.ErrWord", .iface "*errors.errorString" (.ptr (.agg [.lit (.string x4)]))) :: ("semblance/api.ErrSyntax", .iface "*errors.errorString" (.ptr (.agg [.lit (.string x5)]))) :: ("semblance/api.ErrDeep", .iface "*errors.errorString" (.ptr (.agg [.lit (.string x6)]))) :: ("semblance/api.ErrTwice", .iface "*errors.errorString" (.ptr (.agg [.lit (.string x7)]))) :: ("semblance/api.ErrUnknown", .iface "*errors.errorString" (.ptr (.agg [.lit (.string x8)]))) :: ("semblance/api.ErrSilent", .iface "*errors.errorString" (.ptr (.agg [.lit (.string x9)]))) :: ("semblance/api.ErrUnguarded", .iface "*errors.errorString" (.ptr (.agg [.lit (.string x10)]))) :: ("semblance/api.ErrSteps", .iface "*errors.errorString" (.ptr (.agg [.lit (.string x11)]))) :: ("semblance/api.ErrStates", .iface "*errors.errorString" (.ptr (.agg [.lit (.string x12)]))) :: ("semblance/api.ErrEdges", .iface "*errors.errorString" (.ptr (.agg [.lit (.string x13)]))) :: ("semblance/api.ErrSystem", .iface "*errors.errorString" (.ptr (.agg [.lit (.string x14)]))) :: ("semblance/api.ErrClasses", .iface "*errors.errorString" (.ptr (.agg [.lit (.string x15)]))) :: ("semblance/api.ErrFormula", .iface "*errors.errorString" (.ptr (.agg [.lit (.string x16)]))) :: ("semblance/api.ErrLimit", .iface "*errors.errorString" (.ptr (.agg [.lit (.string x17)]))) :: ("semblance/api.ErrNone", .iface "*errors.errorString" (.ptr (.agg [.lit (.string x18)]))) :: ("semblance/api.ErrScript", .iface "*errors.errorString" (.ptr (.agg [.lit (.string x19)]))) :: r) W) : ∃ e, Er 19 W e := by
  obtain ⟨ps, h0, hnd, r0⟩ := h
  obtain ⟨ads, h1, h2, _, h4⟩ := laid_list [("semblance/api.ErrArg", 0, x1), ("semblance/api.ErrLong", 1, x2), ("semblance/api.ErrIndex", 2, x3), ("semblance/api.ErrWord", 3, x4), ("semblance/api.ErrSyntax", 4, x5), ("semblance/api.ErrDeep", 5, x6), ("semblance/api.ErrTwice", 6, x7), ("semblance/api.ErrUnknown", 7, x8), ("semblance/api.ErrSilent", 8, x9), ("semblance/api.ErrUnguarded", 9, x10), ("semblance/api.ErrSteps", 11, x11), ("semblance/api.ErrStates", 12, x12), ("semblance/api.ErrEdges", 13, x13), ("semblance/api.ErrSystem", 14, x14), ("semblance/api.ErrClasses", 15, x15), ("semblance/api.ErrFormula", 16, x16), ("semblance/api.ErrLimit", 17, x17), ("semblance/api.ErrNone", 18, x18), ("semblance/api.ErrScript", 19, x19)] ps (fun x hx => by
    simp only [List.mem_cons, List.not_mem_nil, or_false] at hx
    rcases hx with rfl | rfl | rfl | rfl | rfl | rfl | rfl | rfl | rfl | rfl | rfl | rfl | rfl | rfl | rfl | rfl | rfl | rfl | rfl
    · exact ⟨Tryz.g1, Tryz.t1⟩
    · exact ⟨Tryz.g2, Tryz.t2⟩
    · exact ⟨Tryz.g3, Tryz.t3⟩
    · exact ⟨Tryz.g4, Tryz.t4⟩
    · exact ⟨Tryz.g5, Tryz.t5⟩
    · exact ⟨Tryz.g6, Tryz.t6⟩
    · exact ⟨Tryz.g7, Tryz.t7⟩
    · exact ⟨Tryz.g8, Tryz.t8⟩
    · exact ⟨Tryz.g9, Tryz.t9⟩
    · exact ⟨Tryz.g10, Tryz.t10⟩
    · exact ⟨Tryz.g11, Tryz.t11⟩
    · exact ⟨Tryz.g12, Tryz.t12⟩
    · exact ⟨Tryz.g13, Tryz.t13⟩
    · exact ⟨Tryz.g14, Tryz.t14⟩
    · exact ⟨Tryz.g15, Tryz.t15⟩
    · exact ⟨Tryz.g16, Tryz.t16⟩
    · exact ⟨Tryz.g17, Tryz.t17⟩
    · exact ⟨Tryz.g18, Tryz.t18⟩
    · exact ⟨Tryz.g19, Tryz.t19⟩) h0 r0
  have hp := h4 hnd
  have h1' : ads.length = 19 := h1
  have hg : ∀ k, 1 ≤ k → k ≤ 19 → ads[k - 1]? = some (ads.getD (k - 1) ⟨0, 0, none⟩) := fun k _ h19 => by rw [List.getD_eq_getElem?_getD, List.getElem?_eq_getElem (by omega)]; rfl
  refine ⟨fun k => ads.getD (k - 1) ⟨0, 0, none⟩, ⟨fun _ => h2 0 _ _ rfl (hg 1 (by decide) (by decide)), fun _ => h2 1 _ _ rfl (hg 2 (by decide) (by decide)), fun _ => h2 2 _ _ rfl (hg 3 (by decide) (by decide)), fun _ => h2 3 _ _ rfl (hg 4 (by decide) (by decide)), fun _ => h2 4 _ _ rfl (hg 5 (by decide) (by decide)), fun _ => h2 5 _ _ rfl (hg 6 (by decide) (by decide)), fun _ => h2 6 _ _ rfl (hg 7 (by decide) (by decide)), fun _ => h2 7 _ _ rfl (hg 8 (by decide) (by decide)), fun _ => h2 8 _ _ rfl (hg 9 (by decide) (by decide)), fun _ => h2 9 _ _ rfl (hg 10 (by decide) (by decide)), fun _ => h2 10 _ _ rfl (hg 11 (by decide) (by decide)), fun _ => h2 11 _ _ rfl (hg 12 (by decide) (by decide)), fun _ => h2 12 _ _ rfl (hg 13 (by decide) (by decide)), fun _ => h2 13 _ _ rfl (hg 14 (by decide) (by decide)), fun _ => h2 14 _ _ rfl (hg 15 (by decide) (by decide)), fun _ => h2 15 _ _ rfl (hg 16 (by decide) (by decide)), fun _ => h2 16 _ _ rfl (hg 17 (by decide) (by decide)), fun _ => h2 17 _ _ rfl (hg 18 (by decide) (by decide)), fun _ => h2 18 _ _ rfl (hg 19 (by decide) (by decide)), fun i j hi hij hj e => ?_⟩⟩
  have hpi := List.pairwise_iff_getElem.1 hp (i - 1) (j - 1) (by omega) (by omega) (by omega)
  have ei := hg i hi (by omega)
  have ej := hg j (by omega) hj
  rw [List.getElem?_eq_getElem (by omega)] at ei ej
  exact hpi ((Option.some.inj ei).trans (e.symm.trans (Option.some.inj ej).symm))
set_option maxRecDepth 100000 in
theorem system_of {W : World} {x14 : List UInt8} {r : List (String × DataW Unit)} (h : laidMet Tryz.prog (("semblance/api.ErrSystem", .iface "*errors.errorString" (.ptr (.agg [.lit (.string x14)]))) :: r) W) : ∃ a, Sent W 14 a := by
  obtain ⟨ps, h0, hnd, r0⟩ := h
  obtain ⟨ads, h1, h2, _, _⟩ := laid_list [("semblance/api.ErrSystem", 14, x14)] ps (fun x hx => by
    simp only [List.mem_cons, List.not_mem_nil, or_false] at hx
    rcases hx with rfl
    · exact ⟨Tryz.g14, Tryz.t14⟩) h0 r0
  obtain ⟨a, ha⟩ : ∃ a, ads[0]? = some a := ⟨ads[0]'(by rw [h1]; simp), List.getElem?_eq_getElem _⟩
  exact ⟨a, h2 0 _ a rfl ha⟩
end Go.Proofs.YtpcndfffljmajaaGreatDoor
