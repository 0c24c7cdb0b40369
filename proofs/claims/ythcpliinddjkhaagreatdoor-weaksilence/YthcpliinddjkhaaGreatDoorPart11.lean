/- Texts of this claim, joined: SgTake, SgHist, SgSmall. -/
import Derived.Test.YthcpliinddjkhaaGreatDoorPart10
import Derived.BigRegion
import Derived.Deep.LoopGhost
import Derived.Test.YthcpliinddjkhaaGreatDoorPart6
import Derived.Test.YthcpliinddjkhaaGreatDoorPart7
namespace Go.Proofs.YthcpliinddjkhaaGreatDoor
section
open Go.RowKit Go.Maps
attribute [local go_sem ↓] Go.wp_at_zero Go.wp_at_succ
theorem four_kept {w w' : World} {mb a b c d ca cb cc cd : Nat} {va vb vc vd : Value} (hk : Kept (fun i => i = mb) w w') (ha : a ≠ mb) (hb : b ≠ mb) (hc : c ≠ mb) (hd : d ≠ mb) (h : w.cell? ⟨a, ca, none⟩ = some va ∧ w.cell? ⟨b, cb, none⟩ = some vb ∧ w.cell? ⟨c, cc, none⟩ = some vc ∧ w.cell? ⟨d, cd, none⟩ = some vd) :
    w'.cell? ⟨a, ca, none⟩ = some va ∧ w'.cell? ⟨b, cb, none⟩ = some vb ∧ w'.cell? ⟨c, cc, none⟩ = some vc ∧ w'.cell? ⟨d, cd, none⟩ = some vd := ⟨kcell3 hk ha h.1, kcell3 hk hb h.2.1, kcell3 hk hc h.2.2.1, kcell3 hk hd h.2.2.2⟩
theorem wrap_small {z : Int} (h0 : -1000000000 ≤ z) (h1 : z ≤ 1000000000) : IntKind.i64.wrap z = z := by rw [IntKind.wrap_i64]; omega
set_option linter.unusedSimpArgs false in
set_option maxRecDepth 100000 in
set_option maxHeartbeats 16000000 in
theorem take_any (w0 : World) (r g p mb nm : Nat) (G : Gp) (s : Pst) (x : Rv) (bl : Nat) (w : World) (hR : RunAt w0 w r g p mb nm G s x) (hb : bl < s.nb) (hnm : nm ≤ 100000000000) (hkl : x.ks.length ≤ 100000) :
    Calls Tryz.prog 141 #[.pointer (some ⟨r, 0, none⟩), .int .i64 bl] w fun e w' => e = .returned (.tuple #[]) ∧ ∃ nm' s' x', RunAt w0 w' r g p mb nm' G s' x' ∧ TakeAt w w' r p mb nm nm' G s s' x x' bl := by
  have hr : Sy.right G.n (G.kk : Int) G.st G.es = true := hR.gr.right
  have hn := hR.n
  obtain ⟨c, hP, hL⟩ := hR.c
  obtain ⟨o, k, v, bs, how, hH, hks, hHm⟩ := hR.i.heap hb
  have hsz := hR.i.szv bl hb
  have hol : o < x.ks.length := (List.getElem?_eq_some_iff.1 hks).1
  have hkv := hR.ksv o k hks
  have hn1 := hR.ok.n1
  have hofb : x.of bl = (o : Int) := by unfold Rv.of; rw [how]; rfl
  have hk1 : k ≤ 1000 := by
    have h1 : hc G.n (hOf s x) (o : Int) ≤ (List.range G.n).length := List.countP_le_length
    rw [List.length_range] at h1
    omega
  have hzk : (s.mem bl).length ≤ k := by
    rw [hkv, mem_count, hn]
    refine List.countP_mono_left fun e _ he => ?_
    have h1 : hOf s x e = (o : Int) := by unfold hOf; rw [of_decide_eq_true he]; exact hofb
    simp [h1]
  have hbm : (bl : Int) ∈ bs := (hR.i.hs o bs hHm _).2 ⟨bl, rfl, hb, how⟩
  have hb0 : 0 < bs.length := List.length_pos_of_mem hbm
  have hbl : bs.length ≤ 100000 := by have := hR.i.few hHm; have := hR.ok.few; omega
  obtain ⟨wa, hwa⟩ : ∃ wa, wa = w.alloc (.cells #[.pointer (some ⟨r, 0, none⟩)] 193) := ⟨_, rfl⟩
  have hba : Below w.heap.size w wa := by rw [hwa]; exact (Below.refl _ _).alloc (Nat.le_refl _) _
  have ca : wa.cell? ⟨w.heap.size, 0, none⟩ = some (.pointer (some ⟨r, 0, none⟩)) := by rw [hwa]; exact cell0_of (heap_alloc_new w _) rfl
  have hsa : wa.heap.size = w.heap.size + 1 := by rw [hwa]; simp
  have hlab : ∀ q, ∀ e ∈ insOf G.n G.es q, 0 ≤ e.1 ∧ e.1 < (G.kk : Int) := fun q e he => by
    unfold insOf Sy.rowOf at he
    split at he
    · exact (Sg.tn_right hr _ (Sy.steps_mem.1 he)).2.1
    · simp at he
  have hSrc := sources_any w0 w0.heap.size r g p mb x c s bl G.bs G.bb G.cs G.cb G.n G.kk G.st G.es G.B wa (hR.m.below hba) (hP.below hba) hL hR.ok hb (hR.graph.below hba) hlab
  have hLf := fun W (h : Below wa.heap.size wa W) => lift_any w0.heap.size r g p mb x bl o k (s.mem bl).length v bs W ((hR.m.below hba).below h) how hsz hH hks hkl hbl hb0 hzk hk1
  obtain ⟨E, hE⟩ : ∃ E, E = Sg.srcE G s bl := ⟨_, rfl⟩
  obtain ⟨kk, hkk⟩ : ∃ kk, kk = G.kk := ⟨_, rfl⟩
  obtain ⟨own, hown⟩ : ∃ own, own = x.ks.length := ⟨_, rfl⟩
  have hSrc' : Calls Tryz.prog 159 #[.pointer (some ⟨r, 0, none⟩), .int .i64 bl] wa fun e w' => ∃ g' us, e = .returned (.slice (some ⟨g', 0, none⟩) kk kk) ∧ Arr 57 wa w' g' us ∧ OutsI w' wa.heap.size us kk E := by rw [hE, hkk]; exact hSrc
  have hLf' : ∀ W, Below wa.heap.size wa W → Calls Tryz.prog 160 #[.pointer (some ⟨r, 0, none⟩), .int .i64 bl] W fun e w' => e = .returned (.tuple #[.int .i64 o, .int .i64 (own : Int)]) ∧ ∃ x', LiftAt W w' w0.heap.size r g p mb x x' bl o k (s.mem bl).length bs := by rw [hown]; exact hLf
  obtain ⟨F0, hF0⟩ : ∃ F0, F0 = Sg.cf (Sg.tn G.es) (hOf s x) := ⟨_, rfl⟩
  have hEl : ∀ l, (E l).length ≤ 10000 := fun l => by rw [hE]; exact Sg.srcE_len hr l
  have hFl : ∀ a b c, 0 ≤ F0 a b c ∧ F0 a b c ≤ ((10000 : Nat) : Int) := fun a b c => by rw [hF0]; exact Sg.cf_le (Sg.tn_len hr) _ a b c
  have hEm : ∀ l, ∀ z ∈ E l, 0 ≤ z ∧ z < (G.n : Int) := fun l z hz => by rw [hE] at hz; exact Sg.srcE_mem hr hn hz
  have hkk1 : kk ≤ 201 := by rw [hkk]; have := (right_parts hr).2.1.2; omega
  have hoo : o < own := by rw [hown]; exact hol
  have hoh : own ≤ 100000 := by rw [hown]; exact hkl
  have H : Hid _ := And.intro hR (And.intro hb (And.intro how (And.intro hHm (And.intro hks (And.intro hwa (And.intro hba (And.intro hsa (And.intro hSrc' (And.intro hLf' (And.intro hE (And.intro hkk (And.intro hown (And.intro hF0 (And.intro hEl (And.intro hFl (And.intro hEm (And.intro hr (And.intro hn hn1))))))))))))))))))
  have HC : Hid _ := And.intro ca trivial
  clear hR hb how hHm hks hwa hba hsa hSrc hSrc' hLf hLf' hE hkk hown hF0 hEl hFl hEm hr hn hn1 hP hL hH hsz hol hkv hofb hk1 hzk hbm hb0 hbl hlab hkl
  go_enter Tryz.func141, Tryz.ntmps141
  go_upto_region 1 with fail
  rw [← H.out.2.2.2.2.2.1]
  go_upto_region 3 with (first
    | (go_at_call 159; refine Calls.mono H.out.2.2.2.2.2.2.2.2.1 ?_; rintro r1 wb ⟨g1, us, rfl, hA1, hO1⟩; have cb1 := cell_up HC.out.1 hA1.bl; have H1 : Hid _ := And.intro hA1 hO1; clear hA1 hO1 ca)
    | (go_at_call 160; refine Calls.mono (H.out.2.2.2.2.2.2.2.2.2.1 wb H1.out.1.bl) ?_; rintro r2 wc ⟨rfl, x2, hLA⟩; have H2 : Hid _ := And.intro hLA trivial; clear hLA cb1))
  obtain ⟨wd, hwd⟩ : ∃ wd, wd = wc.alloc (.cells #[.int .i64 (o : Int)] 3) := ⟨_, rfl⟩
  rw [← hwd]
  have hGeo : TkGeo w wb wc wd r p mb g1 o x x2 us E kk := by
    have h1 := H1.out.2
    rw [H.out.2.2.2.2.2.2.2.2.2.2.1, H.out.2.2.2.2.2.2.2.2.2.2.2.1] at h1 ⊢
    exact take_geo H.out.1 H.out.2.2.2.2.2.2.2.1 HC.out.1 H1.out.1 h1 H2.out.1 hwd
  have hSt : TkS w0 wd wd r g p mb s s x2 x2 (RowB us) (Sg.Qj G s bl (Sg.withC F0 (o : Int) (own : Int) (Sg.gAt E kk 0)) (o : Int) 0) ∧ RowsF wd wa.heap.size us 0 kk E ∧ Cnt wd mb nm (Sg.withC F0 (o : Int) (own : Int) (Sg.gAt E 0 0)) := by
    have h1 := H1.out.2
    rw [H.out.2.2.2.2.2.2.2.2.2.2.1, H.out.2.2.2.2.2.2.2.2.2.2.2.1] at h1
    have h2 := take_start (F := Sg.withC F0 (o : Int) (own : Int) (Sg.gAt E kk 0)) H.out.1 H.out.2.1 H.out.2.2.1 H.out.2.2.2.1 H.out.2.2.2.2.2.2.1 H1.out.1 h1 H2.out.1 (show Below wc.heap.size wc wd by rw [hwd]; exact (Below.refl _ _).alloc (Nat.le_refl _) _)
    rw [← H.out.2.2.2.2.2.2.2.2.2.2.1, ← H.out.2.2.2.2.2.2.2.2.2.2.2.1, ← H.out.2.2.2.2.2.2.2.2.2.2.2.2.2.1, ← H.out.2.2.2.2.2.2.2.2.2.2.2.2.1] at h2
    exact h2
  have HG : Hid _ := And.intro hGeo (And.intro hSt hwd)
  clear hGeo hSt hwd
  go_wp2_with fail
  go_loopg [22] kk (fun q iv wr => ∃ (j : Nat) (s1 : Pst) (x1 : Rv) (nm1 : Nat), q = kk - j ∧ j ≤ kk ∧ iv = .int .i64 j ∧ TkS w0 wd wr r g p mb s s1 x2 x1 (RowB us) (Sg.Qj G s bl (Sg.withC F0 (o : Int) (own : Int) (Sg.gAt E kk 0)) (o : Int) j) ∧ RowsF wr wa.heap.size us j kk E ∧ Cnt wr mb nm1 (Sg.withC F0 (o : Int) (own : Int) (Sg.gAt E j 0)) ∧ nm1 ≤ nm + j * 20000)
  case atStart => exact ⟨0, s, x2, nm, rfl, Nat.zero_le _, rfl, HG.out.2.1.1, HG.out.2.1.2.1, HG.out.2.1.2.2, by omega⟩
  case round =>
    obtain ⟨j, s1, x1, nm1, rfl, hj, rfl, hT, hRw, hC, hnm1⟩ := hrel
    obtain ⟨wo, hwo⟩ : ∃ wo, wo = wr := ⟨_, rfl⟩
    rw [← hwo] at hT hRw hC ⊢
    clear hwo
    by_cases hlt : j < kk
    · have p0 : (0 : Int) ≤ (j : Int) := by omega
      have p1 : (j : Int) < (kk : Int) := by omega
      obtain ⟨u, hu, hOu⟩ := hRw j (Nat.le_refl _) hlt
      obtain ⟨au, cu, rfl⟩ := row_shape hOu
      obtain ⟨M, hM⟩ : ∃ M, M = (E j).length := ⟨_, rfl⟩
      have hM1 : M ≤ 10000 := by rw [hM]; exact H.out.2.2.2.2.2.2.2.2.2.2.2.2.2.2.1 j
      have hOu' : wo.ownsRow wa.heap.size 3 1 (.slice au M cu) M (iC (E j)) := by have h1 := hOu; unfold OwnI at h1; rw [← hM] at h1; exact h1
      rw [← hM] at hu
      obtain ⟨c0, c1, c2⟩ := HG.out.1.box hT.kp
      have cu0 := c2 j _ hu
      obtain ⟨we, hwe⟩ : ∃ we, we = wo.alloc (.cells #[.int .i64 (j : Int)] 3) := ⟨_, rfl⟩
      have hbe : Below wo.heap.size wo we := by rw [hwe]; exact (Below.refl _ _).alloc (Nat.le_refl _) _
      have cl : we.cell? ⟨wo.heap.size, 0, none⟩ = some (.int .i64 (j : Int)) := by rw [hwe]; exact cell0_of (heap_alloc_new wo _) rfl
      have hse : we.heap.size = wo.heap.size + 1 := by rw [hwe]; simp
      have hTe := hT.below hbe
      have hCe := hC.below hbe
      have hRe := hRw.kept (F := fun _ => False) (Kept.of_below hbe) (fun _ _ _ _ _ _ h => h)
      have hOe : we.ownsRow wa.heap.size 3 1 (.slice au M cu) M (iC (E j)) := trow_at hOu' fun b hb => hbe.block b (hOu'.lt b hb).2
      have hfar := fun b hb => HG.out.1.far hTe (l := j) (u := .slice au M cu) (b := b) hu hb
      have hcm : (wc.heap.size ≠ mb ∧ w.heap.size ≠ mb) ∧ wo.heap.size ≠ mb ∧ r ≠ mb := by
        have h1 := HG.out.1.lo
        have h2 := HG.out.1.sz
        have h3 := hC.lt
        exact ⟨⟨by omega, by omega⟩, by omega, fun e => hTe.m.mb_foot hCe |>.2 e.symm⟩
      have hbx : we.cell? ⟨w.heap.size, 0, none⟩ = some (.pointer (some ⟨r, 0, none⟩)) ∧ we.cell? ⟨wo.heap.size, 0, none⟩ = some (.int .i64 (j : Int)) ∧ we.cell? ⟨wc.heap.size, 0, none⟩ = some (.int .i64 (o : Int)) ∧ we.cell? ⟨r, 5, none⟩ = some (.map (some mb)) := ⟨cell_up c0 hbe, cl, cell_up c1 hbe, (seven_cells hTe.m.box).2.2.2.2.2.1⟩
      have HJ : Hid _ := And.intro hTe (And.intro hCe (And.intro hRe (And.intro hOe (And.intro hfar (And.intro hcm (And.intro hbx (And.intro hM (And.intro hu (And.intro hse (And.intro hbe (And.intro hT hOu')))))))))))
      have HWE : Hid _ := And.intro hwe trivial
      clear hT hRw hC hOu hOu' hTe hCe hRe hOe hfar hcm hbx hM hu hbe hse cl c0 c1 c2 hwe
      go_upto_region 6 with fail
      rw [← HWE.out.1]
      clear HWE cu0
      go_wp2_with fail
      go_loopg [29] M (fun q iv wr => ∃ (i nm2 : Nat), q = M - i ∧ i ≤ M ∧ iv = .int .i64 i ∧ Kept (fun b => b = mb) we wr ∧ Cnt wr mb nm2 (Sg.withC F0 (o : Int) (own : Int) (Sg.gAt E j i)) ∧ nm2 ≤ nm1 + 2 * i)
      case atStart => exact ⟨0, nm1, rfl, Nat.zero_le _, rfl, Kept.refl _ _, HJ.out.2.1, by omega⟩
      case round =>
        obtain ⟨i, nm2, rfl, hi, rfl, hKp, hC, hnm2⟩ := hrel
        by_cases hlt2 : i < M
        · have q0 : (0 : Int) ≤ (i : Int) := by omega
          have q1 : (i : Int) < (M : Int) := by omega
          obtain ⟨z, hz⟩ : ∃ z, (E j)[i]? = some z := ⟨(E j)[i]'(by rw [← HJ.out.2.2.2.2.2.2.2.1]; exact hlt2), List.getElem?_eq_getElem _⟩
          have hzs := H.out.2.2.2.2.2.2.2.2.2.2.2.2.2.2.2.2.1 j z (List.mem_of_getElem? hz)
          have hzz : Sml z := by have := H.out.2.2.2.2.2.2.2.2.2.2.2.2.2.2.2.2.2.2.2; have := H.out.2.2.2.2.2.2.2.2.2.2.2.2.2.2.2.2.2.2.1; unfold Sml; omega
          have hjj : Sml (j : Int) := sml_nat (by omega)
          have hos : Sml (o : Int) := sml_nat (by omega)
          have hws : Sml (own : Int) := sml_nat (by omega)
          have hbnd := fun a b c => Sg.withC_le (rest := (o : Int)) (own := (own : Int)) H.out.2.2.2.2.2.2.2.2.2.2.2.2.2.2.2.1 (Sg.gAt_len H.out.2.2.2.2.2.2.2.2.2.2.2.2.2.2.1 j i) a b c
          obtain ⟨Fi, hFi⟩ : ∃ Fi, Fi = Sg.withC F0 (o : Int) (own : Int) (Sg.gAt E j i) := ⟨_, rfl⟩
          rw [← hFi] at hC hbnd
          obtain ⟨y, hy⟩ : ∃ y, y = Fi z (j : Int) (o : Int) := ⟨_, rfl⟩
          obtain ⟨y2, hy2⟩ : ∃ y2, y2 = Fi z (j : Int) (own : Int) := ⟨_, rfl⟩
          have by1 := hbnd z (j : Int) (o : Int)
          have by2 := hbnd z (j : Int) (own : Int)
          rw [← hy] at by1
          rw [← hy2] at by2
          have hOw : OwnI wr wa.heap.size (.slice au M cu) (E j) := by
            have h1 := own_up HJ.out.2.2.2.1 hKp fun b hb e => (HJ.out.2.2.2.2.1 b hb).2.2.1 e
            unfold OwnI
            rw [← HJ.out.2.2.2.2.2.2.2.1]
            exact h1
          obtain ⟨gs, rfl, hce⟩ := own_num hOw hz
          have S0 := four_kept hKp HJ.out.2.2.2.2.2.1.1.2 HJ.out.2.2.2.2.2.1.2.1 HJ.out.2.2.2.2.2.1.1.1 HJ.out.2.2.2.2.2.1.2.2 HJ.out.2.2.2.2.2.2.1
          obtain ⟨v0, sv, w1, hme, hc1, hk1, hes⟩ := (hC.at (w' := wr.drew) rfl).entry (show nm2 < maxLen by unfold maxLen; omega) hzz hjj hos
          obtain ⟨w2, hst, hc2, hk2⟩ := hes (y - 1) (Sml.wf (by unfold Sml; omega))
          have hlk := ((hC.at (w' := wr.drew) rfl).look hzz hjj hos).1
          have hlk1 := (hc1.look hzz hjj hos).1
          rw [← hy] at hlk hlk1
          have hg2 : updC Fi z (j : Int) (o : Int) (y - 1) z (j : Int) (own : Int) = y2 := by
            rw [hy2]
            unfold updC
            rw [if_neg (fun e => by have := e.2.2; omega)]
          obtain ⟨v3, sv3, w3, hme3, hc3, hk3, hes3⟩ := (hc2.at (w' := w2.drew) rfl).entry (show nm2 + 1 < maxLen by unfold maxLen; omega) hzz hjj hws
          obtain ⟨w4, hst4, hc4, hk4⟩ := hes3 (y2 + 1) (Sml.wf (by unfold Sml; omega))
          have hlk2 := ((hc2.at (w' := w2.drew) rfl).look hzz hjj hws).1
          have hlk3 := (hc3.look hzz hjj hws).1
          rw [hg2] at hlk2 hlk3
          unfold inV at hme hlk hlk1 hme3 hlk2 hlk3
          have S1 := four_kept hk1 HJ.out.2.2.2.2.2.1.1.2 HJ.out.2.2.2.2.2.1.2.1 HJ.out.2.2.2.2.2.1.1.1 HJ.out.2.2.2.2.2.1.2.2 S0
          have S2 := four_kept hk2 HJ.out.2.2.2.2.2.1.1.2 HJ.out.2.2.2.2.2.1.2.1 HJ.out.2.2.2.2.2.1.1.1 HJ.out.2.2.2.2.2.1.2.2 S0
          have S3 := four_kept hk3 HJ.out.2.2.2.2.2.1.1.2 HJ.out.2.2.2.2.2.1.2.1 HJ.out.2.2.2.2.2.1.1.1 HJ.out.2.2.2.2.2.1.2.2 S2
          have S4 := four_kept hk4 HJ.out.2.2.2.2.2.1.1.2 HJ.out.2.2.2.2.2.1.2.1 HJ.out.2.2.2.2.2.1.1.1 HJ.out.2.2.2.2.2.1.2.2 S2
          have pw1 : IntKind.i64.wrap (y - 1) = y - 1 := wrap_small (by omega) (by omega)
          have pw2 : IntKind.i64.wrap (y2 + 1) = y2 + 1 := wrap_small (by omega) (by omega)
          have hK4 : Kept (fun b => b = mb) we w4 := hKp.trans (((Kept.of_below (Below.refl _ _).drew).trans hk2).trans ((Kept.of_below (Below.refl _ _).drew).trans hk4))
          have hC4 : Cnt w4 mb (nm2 + 2) (Sg.withC F0 (o : Int) (own : Int) (Sg.gAt E j (i + 1))) := hc4.congr fun a b c => by
            rw [hy, hy2, hFi]
            exact Sg.withC_step (by omega) hz a b c
          have HZ : Hid _ := And.intro hK4 hC4
          have HS : Hid _ := And.intro S0 (And.intro S1 (And.intro S2 (And.intro S3 S4)))
          clear hKp hC hz hzs hzz hjj hos hws hbnd hFi hy hy2 by1 by2 hOw hc1 hk1 hes hc2 hk2 hg2 hc3 hk3 hes3 hc4 hk4 hK4 hC4 S0 S1 S2 S3 S4
          go_upto_region 9 with fail
          refine wp_region_held_drew (S := (fun w' => w'.cell? ⟨w.heap.size, 0, none⟩ = some (.pointer (some ⟨r, 0, none⟩)) ∧ w'.cell? ⟨wo.heap.size, 0, none⟩ = some (.int .i64 (j : Int)) ∧ w'.cell? ⟨wc.heap.size, 0, none⟩ = some (.int .i64 (o : Int)) ∧ w'.cell? ⟨r, 5, none⟩ = some (.map (some mb)))) (by kernel_rfl) ?_ (fun hHeld => ?_)
          · exact HS.out.1
          refine wpAnyH_take (i := 0) (oi := _) (v := ?_) rfl (by kernel_rfl) (by kernel_rfl) (by kernel_rfl) (fun _ _ _ h => h) (Or.inl ⟨by rfl, ?_⟩) (by assumption) ?_; rotate_left; (focus (intro w hSw; (try dsimp only at hSw); go_simp; (try with_reducible rfl))); (try simp only [List.getElem_toArray, List.getElem_cons_succ, List.getElem_cons_zero, Act.put, List.setIfInBounds_toArray, List.set_cons_zero, List.set_cons_succ])
          refine wpAnyH_take (i := 1) (oi := _) (v := ?_) rfl (by kernel_rfl) (by kernel_rfl) (by kernel_rfl) (fun _ _ _ h => h) (Or.inl ⟨by rfl, ?_⟩) (by assumption) ?_; rotate_left; (focus (intro w hSw; (try dsimp only at hSw); go_simp; (try with_reducible rfl))); (try simp only [List.getElem_toArray, List.getElem_cons_succ, List.getElem_cons_zero, Act.put, List.setIfInBounds_toArray, List.set_cons_zero, List.set_cons_succ])
          refine wpAnyH_take (i := 2) (oi := _) (v := ?_) rfl (by kernel_rfl) (by kernel_rfl) (by kernel_rfl) (fun _ _ _ h => h) (Or.inl ⟨by rfl, ?_⟩) (by assumption) ?_; rotate_left; (focus (intro w hSw; (try dsimp only at hSw); go_simp; (try with_reducible rfl))); (try simp only [List.getElem_toArray, List.getElem_cons_succ, List.getElem_cons_zero, Act.put, List.setIfInBounds_toArray, List.set_cons_zero, List.set_cons_succ])
          refine wpAnyH_take (i := 3) (oi := _) (v := ?_) rfl (by kernel_rfl) (by kernel_rfl) (by kernel_rfl) (fun _ _ _ h => h) (Or.inl ⟨by rfl, ?_⟩) (by assumption) ?_; rotate_left; (focus (intro w hSw; (try dsimp only at hSw); go_simp; (try with_reducible rfl))); (try simp only [List.getElem_toArray, List.getElem_cons_succ, List.getElem_cons_zero, Act.put, List.setIfInBounds_toArray, List.set_cons_zero, List.set_cons_succ])
          refine wpAnyH_take (i := 4) (oi := _) (v := ?_) rfl (by kernel_rfl) (by kernel_rfl) (by kernel_rfl) (fun _ _ _ h => h) (Or.inl ⟨by rfl, ?_⟩) (by assumption) ?_; rotate_left; (focus (intro w hSw; (try dsimp only at hSw); go_simp; (try with_reducible rfl))); (try simp only [List.getElem_toArray, List.getElem_cons_succ, List.getElem_cons_zero, Act.put, List.setIfInBounds_toArray, List.set_cons_zero, List.set_cons_succ])
          refine wpAnyH_take (i := 5) (oi := _) (v := ?_) rfl (by kernel_rfl) (by kernel_rfl) (by kernel_rfl) (fun _ _ _ h => h) (Or.inl ⟨by rfl, ?_⟩) (by assumption) ?_; rotate_left; (focus (intro w hSw; (try dsimp only at hSw); go_simp; (try with_reducible rfl))); (try simp only [List.getElem_toArray, List.getElem_cons_succ, List.getElem_cons_zero, Act.put, List.setIfInBounds_toArray, List.set_cons_zero, List.set_cons_succ])
          refine wpAnyH_take (i := 6) (oi := _) (v := ?_) rfl (by kernel_rfl) (by kernel_rfl) (by kernel_rfl) (fun _ _ _ h => h) (Or.inl ⟨by rfl, ?_⟩) (by assumption) ?_; rotate_left; (focus (intro w hSw; (try dsimp only at hSw); go_simp; (try with_reducible rfl))); (try simp only [List.getElem_toArray, List.getElem_cons_succ, List.getElem_cons_zero, Act.put, List.setIfInBounds_toArray, List.set_cons_zero, List.set_cons_succ])
          refine wpAnyH_take (i := 7) (oi := _) (v := ?_) rfl (by kernel_rfl) (by kernel_rfl) (by kernel_rfl) (fun _ _ _ h => h) (Or.inl ⟨by rfl, ?_⟩) (by assumption) ?_; rotate_left; (focus (intro w hSw; (try dsimp only at hSw); go_simp; (try with_reducible rfl))); (try simp only [List.getElem_toArray, List.getElem_cons_succ, List.getElem_cons_zero, Act.put, List.setIfInBounds_toArray, List.set_cons_zero, List.set_cons_succ])
          refine wpAnyH_ready (rs := [8, 10]) (by kernel_rfl) (by simp) ?_
          refine AllReadyH.cons (o := _) rfl (fun K hK => ?_) ?_
          · (go_simp)
            (try go_wp2_with fail)
            refine hK.out _ _ ?_ (fun hHeld => ?_)
            · exact hHeld
            clear hK K
            (try simp only [List.getElem_toArray, List.getElem_cons_succ, List.getElem_cons_zero, Act.put, List.setIfInBounds_toArray, List.set_cons_zero, List.set_cons_succ])
            refine wpAnyH_take (i := 9) (oi := _) (v := ?_) rfl (by kernel_rfl) (by kernel_rfl) (by kernel_rfl) (fun _ _ _ h => h) (Or.inl ⟨by rfl, ?_⟩) (by assumption) ?_; rotate_left; (focus (intro w hSw; (try dsimp only at hSw); go_simp; (try with_reducible rfl))); (try simp only [List.getElem_toArray, List.getElem_cons_succ, List.getElem_cons_zero, Act.put, List.setIfInBounds_toArray, List.set_cons_zero, List.set_cons_succ])
            refine wpAnyH_ready (rs := [10]) (by kernel_rfl) (by simp) ?_
            refine AllReadyH.cons (o := _) rfl (fun K hK => ?_) ?_
            · (go_simp)
              (try go_wp2_with fail)
              refine hK.out _ _ ?_ (fun hHeld => ?_)
              · exact HS.out.2.1
              clear hK K
              (try simp only [List.getElem_toArray, List.getElem_cons_succ, List.getElem_cons_zero, Act.put, List.setIfInBounds_toArray, List.set_cons_zero, List.set_cons_succ])
              refine wpAnyH_take (i := 11) (oi := _) (v := ?_) rfl (by kernel_rfl) (by kernel_rfl) (by kernel_rfl) (fun _ _ _ h => h) (Or.inl ⟨by rfl, ?_⟩) (by assumption) ?_; rotate_left; (focus (intro w hSw; (try dsimp only at hSw); go_simp; (try with_reducible rfl))); (try simp only [List.getElem_toArray, List.getElem_cons_succ, List.getElem_cons_zero, Act.put, List.setIfInBounds_toArray, List.set_cons_zero, List.set_cons_succ])
              refine wpAnyH_ready (rs := [12]) (by kernel_rfl) (by simp) ?_
              refine AllReadyH.cons (o := _) rfl (fun K hK => ?_) ?_
              · (go_simp)
                (try go_wp2_with fail)
                refine hK.out _ _ ?_ (fun hHeld => ?_)
                · exact HS.out.2.2.1
                clear hK K
                (try simp only [List.getElem_toArray, List.getElem_cons_succ, List.getElem_cons_zero, Act.put, List.setIfInBounds_toArray, List.set_cons_zero, List.set_cons_succ])
                refine wpAnyH_done (by kernel_rfl) ?_ _
                (try go_simp)
                clear hHeld
                go_upto_region 10 with fail
                refine wp_region_held_drew (S := (fun w' => w'.cell? ⟨w.heap.size, 0, none⟩ = some (.pointer (some ⟨r, 0, none⟩)) ∧ w'.cell? ⟨wo.heap.size, 0, none⟩ = some (.int .i64 (j : Int)) ∧ w'.cell? ⟨wc.heap.size, 0, none⟩ = some (.int .i64 (o : Int)) ∧ w'.cell? ⟨r, 5, none⟩ = some (.map (some mb)))) (by kernel_rfl) ?_ (fun hHeld => ?_)
                · exact HS.out.2.2.1
                refine wpAnyH_take (i := 0) (oi := _) (v := ?_) rfl (by kernel_rfl) (by kernel_rfl) (by kernel_rfl) (fun _ _ _ h => h) (Or.inl ⟨by rfl, ?_⟩) (by assumption) ?_; rotate_left; (focus (intro w hSw; (try dsimp only at hSw); go_simp; (try with_reducible rfl))); (try simp only [List.getElem_toArray, List.getElem_cons_succ, List.getElem_cons_zero, Act.put, List.setIfInBounds_toArray, List.set_cons_zero, List.set_cons_succ])
                refine wpAnyH_take (i := 1) (oi := _) (v := ?_) rfl (by kernel_rfl) (by kernel_rfl) (by kernel_rfl) (fun _ _ _ h => h) (Or.inl ⟨by rfl, ?_⟩) (by assumption) ?_; rotate_left; (focus (intro w hSw; (try dsimp only at hSw); go_simp; (try with_reducible rfl))); (try simp only [List.getElem_toArray, List.getElem_cons_succ, List.getElem_cons_zero, Act.put, List.setIfInBounds_toArray, List.set_cons_zero, List.set_cons_succ])
                refine wpAnyH_take (i := 2) (oi := _) (v := ?_) rfl (by kernel_rfl) (by kernel_rfl) (by kernel_rfl) (fun _ _ _ h => h) (Or.inl ⟨by rfl, ?_⟩) (by assumption) ?_; rotate_left; (focus (intro w hSw; (try dsimp only at hSw); go_simp; (try with_reducible rfl))); (try simp only [List.getElem_toArray, List.getElem_cons_succ, List.getElem_cons_zero, Act.put, List.setIfInBounds_toArray, List.set_cons_zero, List.set_cons_succ])
                refine wpAnyH_take (i := 3) (oi := _) (v := ?_) rfl (by kernel_rfl) (by kernel_rfl) (by kernel_rfl) (fun _ _ _ h => h) (Or.inl ⟨by rfl, ?_⟩) (by assumption) ?_; rotate_left; (focus (intro w hSw; (try dsimp only at hSw); go_simp; (try with_reducible rfl))); (try simp only [List.getElem_toArray, List.getElem_cons_succ, List.getElem_cons_zero, Act.put, List.setIfInBounds_toArray, List.set_cons_zero, List.set_cons_succ])
                refine wpAnyH_take (i := 4) (oi := _) (v := ?_) rfl (by kernel_rfl) (by kernel_rfl) (by kernel_rfl) (fun _ _ _ h => h) (Or.inl ⟨by rfl, ?_⟩) (by assumption) ?_; rotate_left; (focus (intro w hSw; (try dsimp only at hSw); go_simp; (try with_reducible rfl))); (try simp only [List.getElem_toArray, List.getElem_cons_succ, List.getElem_cons_zero, Act.put, List.setIfInBounds_toArray, List.set_cons_zero, List.set_cons_succ])
                refine wpAnyH_take (i := 5) (oi := _) (v := ?_) rfl (by kernel_rfl) (by kernel_rfl) (by kernel_rfl) (fun _ _ _ h => h) (Or.inl ⟨by rfl, ?_⟩) (by assumption) ?_; rotate_left; (focus (intro w hSw; (try dsimp only at hSw); go_simp; (try with_reducible rfl))); (try simp only [List.getElem_toArray, List.getElem_cons_succ, List.getElem_cons_zero, Act.put, List.setIfInBounds_toArray, List.set_cons_zero, List.set_cons_succ])
                refine wpAnyH_take (i := 6) (oi := _) (v := ?_) rfl (by kernel_rfl) (by kernel_rfl) (by kernel_rfl) (fun _ _ _ h => h) (Or.inl ⟨by rfl, ?_⟩) (by assumption) ?_; rotate_left; (focus (intro w hSw; (try dsimp only at hSw); go_simp; (try with_reducible rfl))); (try simp only [List.getElem_toArray, List.getElem_cons_succ, List.getElem_cons_zero, Act.put, List.setIfInBounds_toArray, List.set_cons_zero, List.set_cons_succ])
                refine wpAnyH_take (i := 7) (oi := _) (v := ?_) rfl (by kernel_rfl) (by kernel_rfl) (by kernel_rfl) (fun _ _ _ h => h) (Or.inl ⟨by rfl, ?_⟩) (by assumption) ?_; rotate_left; (focus (intro w hSw; (try dsimp only at hSw); go_simp; (try with_reducible rfl))); (try simp only [List.getElem_toArray, List.getElem_cons_succ, List.getElem_cons_zero, Act.put, List.setIfInBounds_toArray, List.set_cons_zero, List.set_cons_succ])
                refine wpAnyH_ready (rs := [8, 10]) (by kernel_rfl) (by simp) ?_
                refine AllReadyH.cons (o := _) rfl (fun K hK => ?_) ?_
                · (go_simp)
                  (try go_wp2_with fail)
                  refine hK.out _ _ ?_ (fun hHeld => ?_)
                  · exact hHeld
                  clear hK K
                  (try simp only [List.getElem_toArray, List.getElem_cons_succ, List.getElem_cons_zero, Act.put, List.setIfInBounds_toArray, List.set_cons_zero, List.set_cons_succ])
                  refine wpAnyH_take (i := 9) (oi := _) (v := ?_) rfl (by kernel_rfl) (by kernel_rfl) (by kernel_rfl) (fun _ _ _ h => h) (Or.inl ⟨by rfl, ?_⟩) (by assumption) ?_; rotate_left; (focus (intro w hSw; (try dsimp only at hSw); go_simp; (try with_reducible rfl))); (try simp only [List.getElem_toArray, List.getElem_cons_succ, List.getElem_cons_zero, Act.put, List.setIfInBounds_toArray, List.set_cons_zero, List.set_cons_succ])
                  refine wpAnyH_ready (rs := [10]) (by kernel_rfl) (by simp) ?_
                  refine AllReadyH.cons (o := _) rfl (fun K hK => ?_) ?_
                  · (go_simp)
                    (try go_wp2_with fail)
                    refine hK.out _ _ ?_ (fun hHeld => ?_)
                    · exact HS.out.2.2.2.1
                    clear hK K
                    (try simp only [List.getElem_toArray, List.getElem_cons_succ, List.getElem_cons_zero, Act.put, List.setIfInBounds_toArray, List.set_cons_zero, List.set_cons_succ])
                    refine wpAnyH_take (i := 11) (oi := _) (v := ?_) rfl (by kernel_rfl) (by kernel_rfl) (by kernel_rfl) (fun _ _ _ h => h) (Or.inl ⟨by rfl, ?_⟩) (by assumption) ?_; rotate_left; (focus (intro w hSw; (try dsimp only at hSw); go_simp; (try with_reducible rfl))); (try simp only [List.getElem_toArray, List.getElem_cons_succ, List.getElem_cons_zero, Act.put, List.setIfInBounds_toArray, List.set_cons_zero, List.set_cons_succ])
                    refine wpAnyH_ready (rs := [12]) (by kernel_rfl) (by simp) ?_
                    refine AllReadyH.cons (o := _) rfl (fun K hK => ?_) ?_
                    · (go_simp)
                      (try go_wp2_with fail)
                      refine hK.out _ _ ?_ (fun hHeld => ?_)
                      · exact HS.out.2.2.2.2
                      clear hK K
                      (try simp only [List.getElem_toArray, List.getElem_cons_succ, List.getElem_cons_zero, Act.put, List.setIfInBounds_toArray, List.set_cons_zero, List.set_cons_succ])
                      refine wpAnyH_done (by kernel_rfl) ?_ _
                      (try go_simp)
                      clear hHeld
                      go_wp2_with fail
                      go_roundg (M - (i + 1))
                      case measure => omega
                      case rel => exact ⟨i + 1, nm2 + 2, rfl, by omega, by go_num, HZ.out.1, HZ.out.2, by omega⟩
                    exact AllReadyH.nil
                  exact AllReadyH.nil
                refine AllReadyH.cons (o := _) rfl (fun K hK => ?_) ?_
                · (go_simp)
                  (try go_wp2_with fail)
                  refine hK.out _ _ ?_ (fun hHeld => ?_)
                  · exact HS.out.2.2.2.1
                  clear hK K
                  (try simp only [List.getElem_toArray, List.getElem_cons_succ, List.getElem_cons_zero, Act.put, List.setIfInBounds_toArray, List.set_cons_zero, List.set_cons_succ])
                  refine wpAnyH_take (i := 11) (oi := _) (v := ?_) rfl (by kernel_rfl) (by kernel_rfl) (by kernel_rfl) (fun _ _ _ h => h) (Or.inl ⟨by rfl, ?_⟩) (by assumption) ?_; rotate_left; (focus (intro w hSw; (try dsimp only at hSw); go_simp; (try with_reducible rfl))); (try simp only [List.getElem_toArray, List.getElem_cons_succ, List.getElem_cons_zero, Act.put, List.setIfInBounds_toArray, List.set_cons_zero, List.set_cons_succ])
                  refine wpAnyH_ready (rs := [8]) (by kernel_rfl) (by simp) ?_
                  refine AllReadyH.cons (o := _) rfl (fun K hK => ?_) ?_
                  · (go_simp)
                    (try go_wp2_with fail)
                    refine hK.out _ _ ?_ (fun hHeld => ?_)
                    · exact hHeld
                    clear hK K
                    (try simp only [List.getElem_toArray, List.getElem_cons_succ, List.getElem_cons_zero, Act.put, List.setIfInBounds_toArray, List.set_cons_zero, List.set_cons_succ])
                    refine wpAnyH_take (i := 9) (oi := _) (v := ?_) rfl (by kernel_rfl) (by kernel_rfl) (by kernel_rfl) (fun _ _ _ h => h) (Or.inl ⟨by rfl, ?_⟩) (by assumption) ?_; rotate_left; (focus (intro w hSw; (try dsimp only at hSw); go_simp; (try with_reducible rfl))); (try simp only [List.getElem_toArray, List.getElem_cons_succ, List.getElem_cons_zero, Act.put, List.setIfInBounds_toArray, List.set_cons_zero, List.set_cons_succ])
                    refine wpAnyH_ready (rs := [12]) (by kernel_rfl) (by simp) ?_
                    refine AllReadyH.cons (o := _) rfl (fun K hK => ?_) ?_
                    · (go_simp)
                      (try go_wp2_with fail)
                      refine hK.out _ _ ?_ (fun hHeld => ?_)
                      · exact HS.out.2.2.2.2
                      clear hK K
                      (try simp only [List.getElem_toArray, List.getElem_cons_succ, List.getElem_cons_zero, Act.put, List.setIfInBounds_toArray, List.set_cons_zero, List.set_cons_succ])
                      refine wpAnyH_done (by kernel_rfl) ?_ _
                      (try go_simp)
                      clear hHeld
                      go_wp2_with fail
                      go_roundg (M - (i + 1))
                      case measure => omega
                      case rel => exact ⟨i + 1, nm2 + 2, rfl, by omega, by go_num, HZ.out.1, HZ.out.2, by omega⟩
                    exact AllReadyH.nil
                  exact AllReadyH.nil
                exact AllReadyH.nil
              exact AllReadyH.nil
            exact AllReadyH.nil
          refine AllReadyH.cons (o := _) rfl (fun K hK => ?_) ?_
          · (go_simp)
            (try go_wp2_with fail)
            refine hK.out _ _ ?_ (fun hHeld => ?_)
            · exact HS.out.2.1
            clear hK K
            (try simp only [List.getElem_toArray, List.getElem_cons_succ, List.getElem_cons_zero, Act.put, List.setIfInBounds_toArray, List.set_cons_zero, List.set_cons_succ])
            refine wpAnyH_take (i := 11) (oi := _) (v := ?_) rfl (by kernel_rfl) (by kernel_rfl) (by kernel_rfl) (fun _ _ _ h => h) (Or.inl ⟨by rfl, ?_⟩) (by assumption) ?_; rotate_left; (focus (intro w hSw; (try dsimp only at hSw); go_simp; (try with_reducible rfl))); (try simp only [List.getElem_toArray, List.getElem_cons_succ, List.getElem_cons_zero, Act.put, List.setIfInBounds_toArray, List.set_cons_zero, List.set_cons_succ])
            refine wpAnyH_ready (rs := [8]) (by kernel_rfl) (by simp) ?_
            refine AllReadyH.cons (o := _) rfl (fun K hK => ?_) ?_
            · (go_simp)
              (try go_wp2_with fail)
              refine hK.out _ _ ?_ (fun hHeld => ?_)
              · exact hHeld
              clear hK K
              (try simp only [List.getElem_toArray, List.getElem_cons_succ, List.getElem_cons_zero, Act.put, List.setIfInBounds_toArray, List.set_cons_zero, List.set_cons_succ])
              refine wpAnyH_take (i := 9) (oi := _) (v := ?_) rfl (by kernel_rfl) (by kernel_rfl) (by kernel_rfl) (fun _ _ _ h => h) (Or.inl ⟨by rfl, ?_⟩) (by assumption) ?_; rotate_left; (focus (intro w hSw; (try dsimp only at hSw); go_simp; (try with_reducible rfl))); (try simp only [List.getElem_toArray, List.getElem_cons_succ, List.getElem_cons_zero, Act.put, List.setIfInBounds_toArray, List.set_cons_zero, List.set_cons_succ])
              refine wpAnyH_ready (rs := [12]) (by kernel_rfl) (by simp) ?_
              refine AllReadyH.cons (o := _) rfl (fun K hK => ?_) ?_
              · (go_simp)
                (try go_wp2_with fail)
                refine hK.out _ _ ?_ (fun hHeld => ?_)
                · exact HS.out.2.2.1
                clear hK K
                (try simp only [List.getElem_toArray, List.getElem_cons_succ, List.getElem_cons_zero, Act.put, List.setIfInBounds_toArray, List.set_cons_zero, List.set_cons_succ])
                refine wpAnyH_done (by kernel_rfl) ?_ _
                (try go_simp)
                clear hHeld
                go_upto_region 10 with fail
                refine wp_region_held_drew (S := (fun w' => w'.cell? ⟨w.heap.size, 0, none⟩ = some (.pointer (some ⟨r, 0, none⟩)) ∧ w'.cell? ⟨wo.heap.size, 0, none⟩ = some (.int .i64 (j : Int)) ∧ w'.cell? ⟨wc.heap.size, 0, none⟩ = some (.int .i64 (o : Int)) ∧ w'.cell? ⟨r, 5, none⟩ = some (.map (some mb)))) (by kernel_rfl) ?_ (fun hHeld => ?_)
                · exact HS.out.2.2.1
                refine wpAnyH_take (i := 0) (oi := _) (v := ?_) rfl (by kernel_rfl) (by kernel_rfl) (by kernel_rfl) (fun _ _ _ h => h) (Or.inl ⟨by rfl, ?_⟩) (by assumption) ?_; rotate_left; (focus (intro w hSw; (try dsimp only at hSw); go_simp; (try with_reducible rfl))); (try simp only [List.getElem_toArray, List.getElem_cons_succ, List.getElem_cons_zero, Act.put, List.setIfInBounds_toArray, List.set_cons_zero, List.set_cons_succ])
                refine wpAnyH_take (i := 1) (oi := _) (v := ?_) rfl (by kernel_rfl) (by kernel_rfl) (by kernel_rfl) (fun _ _ _ h => h) (Or.inl ⟨by rfl, ?_⟩) (by assumption) ?_; rotate_left; (focus (intro w hSw; (try dsimp only at hSw); go_simp; (try with_reducible rfl))); (try simp only [List.getElem_toArray, List.getElem_cons_succ, List.getElem_cons_zero, Act.put, List.setIfInBounds_toArray, List.set_cons_zero, List.set_cons_succ])
                refine wpAnyH_take (i := 2) (oi := _) (v := ?_) rfl (by kernel_rfl) (by kernel_rfl) (by kernel_rfl) (fun _ _ _ h => h) (Or.inl ⟨by rfl, ?_⟩) (by assumption) ?_; rotate_left; (focus (intro w hSw; (try dsimp only at hSw); go_simp; (try with_reducible rfl))); (try simp only [List.getElem_toArray, List.getElem_cons_succ, List.getElem_cons_zero, Act.put, List.setIfInBounds_toArray, List.set_cons_zero, List.set_cons_succ])
                refine wpAnyH_take (i := 3) (oi := _) (v := ?_) rfl (by kernel_rfl) (by kernel_rfl) (by kernel_rfl) (fun _ _ _ h => h) (Or.inl ⟨by rfl, ?_⟩) (by assumption) ?_; rotate_left; (focus (intro w hSw; (try dsimp only at hSw); go_simp; (try with_reducible rfl))); (try simp only [List.getElem_toArray, List.getElem_cons_succ, List.getElem_cons_zero, Act.put, List.setIfInBounds_toArray, List.set_cons_zero, List.set_cons_succ])
                refine wpAnyH_take (i := 4) (oi := _) (v := ?_) rfl (by kernel_rfl) (by kernel_rfl) (by kernel_rfl) (fun _ _ _ h => h) (Or.inl ⟨by rfl, ?_⟩) (by assumption) ?_; rotate_left; (focus (intro w hSw; (try dsimp only at hSw); go_simp; (try with_reducible rfl))); (try simp only [List.getElem_toArray, List.getElem_cons_succ, List.getElem_cons_zero, Act.put, List.setIfInBounds_toArray, List.set_cons_zero, List.set_cons_succ])
                refine wpAnyH_take (i := 5) (oi := _) (v := ?_) rfl (by kernel_rfl) (by kernel_rfl) (by kernel_rfl) (fun _ _ _ h => h) (Or.inl ⟨by rfl, ?_⟩) (by assumption) ?_; rotate_left; (focus (intro w hSw; (try dsimp only at hSw); go_simp; (try with_reducible rfl))); (try simp only [List.getElem_toArray, List.getElem_cons_succ, List.getElem_cons_zero, Act.put, List.setIfInBounds_toArray, List.set_cons_zero, List.set_cons_succ])
                refine wpAnyH_take (i := 6) (oi := _) (v := ?_) rfl (by kernel_rfl) (by kernel_rfl) (by kernel_rfl) (fun _ _ _ h => h) (Or.inl ⟨by rfl, ?_⟩) (by assumption) ?_; rotate_left; (focus (intro w hSw; (try dsimp only at hSw); go_simp; (try with_reducible rfl))); (try simp only [List.getElem_toArray, List.getElem_cons_succ, List.getElem_cons_zero, Act.put, List.setIfInBounds_toArray, List.set_cons_zero, List.set_cons_succ])
                refine wpAnyH_take (i := 7) (oi := _) (v := ?_) rfl (by kernel_rfl) (by kernel_rfl) (by kernel_rfl) (fun _ _ _ h => h) (Or.inl ⟨by rfl, ?_⟩) (by assumption) ?_; rotate_left; (focus (intro w hSw; (try dsimp only at hSw); go_simp; (try with_reducible rfl))); (try simp only [List.getElem_toArray, List.getElem_cons_succ, List.getElem_cons_zero, Act.put, List.setIfInBounds_toArray, List.set_cons_zero, List.set_cons_succ])
                refine wpAnyH_ready (rs := [8, 10]) (by kernel_rfl) (by simp) ?_
                refine AllReadyH.cons (o := _) rfl (fun K hK => ?_) ?_
                · (go_simp)
                  (try go_wp2_with fail)
                  refine hK.out _ _ ?_ (fun hHeld => ?_)
                  · exact hHeld
                  clear hK K
                  (try simp only [List.getElem_toArray, List.getElem_cons_succ, List.getElem_cons_zero, Act.put, List.setIfInBounds_toArray, List.set_cons_zero, List.set_cons_succ])
                  refine wpAnyH_take (i := 9) (oi := _) (v := ?_) rfl (by kernel_rfl) (by kernel_rfl) (by kernel_rfl) (fun _ _ _ h => h) (Or.inl ⟨by rfl, ?_⟩) (by assumption) ?_; rotate_left; (focus (intro w hSw; (try dsimp only at hSw); go_simp; (try with_reducible rfl))); (try simp only [List.getElem_toArray, List.getElem_cons_succ, List.getElem_cons_zero, Act.put, List.setIfInBounds_toArray, List.set_cons_zero, List.set_cons_succ])
                  refine wpAnyH_ready (rs := [10]) (by kernel_rfl) (by simp) ?_
                  refine AllReadyH.cons (o := _) rfl (fun K hK => ?_) ?_
                  · (go_simp)
                    (try go_wp2_with fail)
                    refine hK.out _ _ ?_ (fun hHeld => ?_)
                    · exact HS.out.2.2.2.1
                    clear hK K
                    (try simp only [List.getElem_toArray, List.getElem_cons_succ, List.getElem_cons_zero, Act.put, List.setIfInBounds_toArray, List.set_cons_zero, List.set_cons_succ])
                    refine wpAnyH_take (i := 11) (oi := _) (v := ?_) rfl (by kernel_rfl) (by kernel_rfl) (by kernel_rfl) (fun _ _ _ h => h) (Or.inl ⟨by rfl, ?_⟩) (by assumption) ?_; rotate_left; (focus (intro w hSw; (try dsimp only at hSw); go_simp; (try with_reducible rfl))); (try simp only [List.getElem_toArray, List.getElem_cons_succ, List.getElem_cons_zero, Act.put, List.setIfInBounds_toArray, List.set_cons_zero, List.set_cons_succ])
                    refine wpAnyH_ready (rs := [12]) (by kernel_rfl) (by simp) ?_
                    refine AllReadyH.cons (o := _) rfl (fun K hK => ?_) ?_
                    · (go_simp)
                      (try go_wp2_with fail)
                      refine hK.out _ _ ?_ (fun hHeld => ?_)
                      · exact HS.out.2.2.2.2
                      clear hK K
                      (try simp only [List.getElem_toArray, List.getElem_cons_succ, List.getElem_cons_zero, Act.put, List.setIfInBounds_toArray, List.set_cons_zero, List.set_cons_succ])
                      refine wpAnyH_done (by kernel_rfl) ?_ _
                      (try go_simp)
                      clear hHeld
                      go_wp2_with fail
                      go_roundg (M - (i + 1))
                      case measure => omega
                      case rel => exact ⟨i + 1, nm2 + 2, rfl, by omega, by go_num, HZ.out.1, HZ.out.2, by omega⟩
                    exact AllReadyH.nil
                  exact AllReadyH.nil
                refine AllReadyH.cons (o := _) rfl (fun K hK => ?_) ?_
                · (go_simp)
                  (try go_wp2_with fail)
                  refine hK.out _ _ ?_ (fun hHeld => ?_)
                  · exact HS.out.2.2.2.1
                  clear hK K
                  (try simp only [List.getElem_toArray, List.getElem_cons_succ, List.getElem_cons_zero, Act.put, List.setIfInBounds_toArray, List.set_cons_zero, List.set_cons_succ])
                  refine wpAnyH_take (i := 11) (oi := _) (v := ?_) rfl (by kernel_rfl) (by kernel_rfl) (by kernel_rfl) (fun _ _ _ h => h) (Or.inl ⟨by rfl, ?_⟩) (by assumption) ?_; rotate_left; (focus (intro w hSw; (try dsimp only at hSw); go_simp; (try with_reducible rfl))); (try simp only [List.getElem_toArray, List.getElem_cons_succ, List.getElem_cons_zero, Act.put, List.setIfInBounds_toArray, List.set_cons_zero, List.set_cons_succ])
                  refine wpAnyH_ready (rs := [8]) (by kernel_rfl) (by simp) ?_
                  refine AllReadyH.cons (o := _) rfl (fun K hK => ?_) ?_
                  · (go_simp)
                    (try go_wp2_with fail)
                    refine hK.out _ _ ?_ (fun hHeld => ?_)
                    · exact hHeld
                    clear hK K
                    (try simp only [List.getElem_toArray, List.getElem_cons_succ, List.getElem_cons_zero, Act.put, List.setIfInBounds_toArray, List.set_cons_zero, List.set_cons_succ])
                    refine wpAnyH_take (i := 9) (oi := _) (v := ?_) rfl (by kernel_rfl) (by kernel_rfl) (by kernel_rfl) (fun _ _ _ h => h) (Or.inl ⟨by rfl, ?_⟩) (by assumption) ?_; rotate_left; (focus (intro w hSw; (try dsimp only at hSw); go_simp; (try with_reducible rfl))); (try simp only [List.getElem_toArray, List.getElem_cons_succ, List.getElem_cons_zero, Act.put, List.setIfInBounds_toArray, List.set_cons_zero, List.set_cons_succ])
                    refine wpAnyH_ready (rs := [12]) (by kernel_rfl) (by simp) ?_
                    refine AllReadyH.cons (o := _) rfl (fun K hK => ?_) ?_
                    · (go_simp)
                      (try go_wp2_with fail)
                      refine hK.out _ _ ?_ (fun hHeld => ?_)
                      · exact HS.out.2.2.2.2
                      clear hK K
                      (try simp only [List.getElem_toArray, List.getElem_cons_succ, List.getElem_cons_zero, Act.put, List.setIfInBounds_toArray, List.set_cons_zero, List.set_cons_succ])
                      refine wpAnyH_done (by kernel_rfl) ?_ _
                      (try go_simp)
                      clear hHeld
                      go_wp2_with fail
                      go_roundg (M - (i + 1))
                      case measure => omega
                      case rel => exact ⟨i + 1, nm2 + 2, rfl, by omega, by go_num, HZ.out.1, HZ.out.2, by omega⟩
                    exact AllReadyH.nil
                  exact AllReadyH.nil
                exact AllReadyH.nil
              exact AllReadyH.nil
            exact AllReadyH.nil
          exact AllReadyH.nil
        · obtain rfl : i = M := by omega
          have q1 : ¬ (i : Int) < (i : Int) := by omega
          have hgn : Sg.gAt E j i = Sg.gAt E (j + 1) 0 := Sg.gAt_next E j i HJ.out.2.2.2.2.2.2.2.1
          rw [hgn] at hC
          have hTW : TkS w0 wd wr r g p mb s s1 x2 x1 (RowB us) (Sg.Qj G s bl (Sg.withC F0 (o : Int) (own : Int) (Sg.gAt E kk 0)) (o : Int) j) := HJ.out.1.kept hKp fun b e => by
            have h1 := HJ.out.1.m.mb_foot HJ.out.2.1
            subst e
            refine ⟨H.out.1.mu, fun e => ?_, h1.2, h1.1, .inl rfl⟩
            obtain ⟨c9, h2, _⟩ := HJ.out.1.c
            obtain ⟨cs, h3⟩ := pt_block h2
            exact HJ.out.2.1.ne h3 e
          have hNat : natI (Sg.srcN G s bl j) = E j := by rw [H.out.2.2.2.2.2.2.2.2.2.2.1]; exact Sg.srcN_nat H.out.2.2.2.2.2.2.2.2.2.2.2.2.2.2.2.2.2.1 H.out.2.2.2.2.2.2.2.2.2.2.2.2.2.2.2.2.2.2.1 j
          have hOw : OwnI wr wa.heap.size (.slice au i cu) (E j) := by
            have h1 := own_up HJ.out.2.2.2.1 hKp fun b hb e => (HJ.out.2.2.2.2.1 b hb).2.2.1 e
            unfold OwnI
            rw [← HJ.out.2.2.2.2.2.2.2.1]
            exact h1
          have S0 := four_kept hKp HJ.out.2.2.2.2.2.1.1.2 HJ.out.2.2.2.2.2.1.2.1 HJ.out.2.2.2.2.2.1.1.1 HJ.out.2.2.2.2.2.1.2.2 HJ.out.2.2.2.2.2.2.1
          have hSl : ∀ e ∈ Sg.srcN G s bl j, e < s1.n := fun e he => by
            have h1 : (e : Int) ∈ E j := by rw [← hNat]; unfold natI; exact List.mem_map.2 ⟨e, he, rfl⟩
            have h2 := H.out.2.2.2.2.2.2.2.2.2.2.2.2.2.2.2.2.1 j _ h1
            have h3 := hTW.n
            have h4 := H.out.2.2.2.2.2.2.2.2.2.2.2.2.2.2.2.2.2.2.1
            omega
          have hNl : (Sg.srcN G s bl j).length = (E j).length := by rw [← hNat]; unfold natI; rw [List.length_map]
          obtain ⟨c9, hP9, hL9⟩ := hTW.c
          have hSp := rsplit_any w0 w0.heap.size r g p mb wa.heap.size x1 c9 s1 (.slice au i cu) (Sg.srcN G s bl j) wr hTW.m hP9 hL9 hTW.ok hTW.bare hTW.i (by rw [hNat]; exact hOw) (fun b hb => (HJ.out.2.2.2.2.1 b hb).2.2.2.1) hSl (by rw [hNl]; have := H.out.2.2.2.2.2.2.2.2.2.2.2.2.2.2.1 j; omega) (Nat.le_refl _)
          have hRW := HJ.out.2.2.1.kept hKp fun l u b hl hu2 hb e => (HG.out.1.far HJ.out.1 hu2 hb).2.2.1 e
          have c0 := S0.1
          have HW : Hid _ := And.intro hTW (And.intro hNat (And.intro hOw (And.intro S0 (And.intro hSl (And.intro hNl (And.intro hSp (And.intro hRW (And.intro hC hKp))))))))
          clear hTW hNat hOw S0 hSl hNl hP9 hL9 hSp hRW hC hKp hgn
          go_upto_region 13 with (go_at_call 161; refine Calls.mono HW.out.2.2.2.2.2.2.1 ?_; rintro r5 w5 ⟨rfl, x5, c5, s5, hS5⟩; have H5 : Hid _ := And.intro hS5 trivial; clear hS5)
          have hT5 := HW.out.1.split H5.out.1
          have hfarW := fun l u b hu2 hb => HG.out.1.far HW.out.1 (l := l) (u := u) (b := b) hu2 hb
          have hk5 : ∀ (l : Nat) (u : Value) (b : Nat), us[l]? = some u → u.ownBlock = some b → ¬ (b = p ∨ b = r ∨ x1.foot b) := fun l u b hu2 hb e => by
            have h1 := hfarW l u b hu2 hb
            exact e.elim h1.1 fun e => e.elim h1.2.1 h1.2.2.2.1
          have hO5 : OwnI w5 wa.heap.size (.slice au i cu) (E j) := own_up HW.out.2.2.1 H5.out.1.kp fun b hb => hk5 j _ b HJ.out.2.2.2.2.2.2.2.2.1 hb
          have hR5 := HW.out.2.2.2.2.2.2.2.1.kept H5.out.1.kp fun l u b _ hu2 hb => hk5 l u b hu2 hb
          have hmf := HW.out.1.m.mb_foot HW.out.2.2.2.2.2.2.2.2.1
          have hC5 : Cnt w5 mb nm2 (Sg.withC F0 (o : Int) (own : Int) (Sg.gAt E (j + 1) 0)) := HW.out.2.2.2.2.2.2.2.2.1.kept H5.out.1.kp fun e => by
            rcases e with e | e | e
            · obtain ⟨c9, h2, _⟩ := HW.out.1.c
              obtain ⟨cs, h3⟩ := pt_block h2
              exact HW.out.2.2.2.2.2.2.2.2.1.ne h3 e
            · exact hmf.2 e
            · exact hmf.1 e
          have hboxW : ∀ b, (b = w.heap.size ∨ b = wc.heap.size ∨ b = wo.heap.size) → ¬ (b = p ∨ b = r ∨ x1.foot b) := fun b hb e => by
            have l1 := HG.out.1.lo
            have l2 := HG.out.1.sz
            have l3 := HJ.out.2.2.2.2.2.2.2.2.2.2.2.1.kp.size
            rcases hb with rfl | rfl | rfl
            · rcases e with e | e | e
              · omega
              · omega
              · rcases HJ.out.2.2.2.2.2.2.2.2.2.2.2.1.ft _ e with h2 | h2
                · have := HG.out.1.fx _ h2; omega
                · omega
            · rcases e with e | e | e
              · omega
              · omega
              · rcases HJ.out.2.2.2.2.2.2.2.2.2.2.2.1.ft _ e with h2 | h2
                · have := HG.out.1.fx _ h2; omega
                · omega
            · rcases e with e | e | e
              · omega
              · omega
              · have := (HJ.out.2.2.2.2.2.2.2.2.2.2.2.1.m.foot_lt e).2; omega
          have S5 : w5.cell? ⟨w.heap.size, 0, none⟩ = some (.pointer (some ⟨r, 0, none⟩)) ∧ w5.cell? ⟨wo.heap.size, 0, none⟩ = some (.int .i64 (j : Int)) ∧ w5.cell? ⟨wc.heap.size, 0, none⟩ = some (.int .i64 (o : Int)) ∧ w5.cell? ⟨r, 5, none⟩ = some (.map (some mb)) := ⟨kcell3 H5.out.1.kp (hboxW _ (.inl rfl)) HW.out.2.2.2.1.1, kcell3 H5.out.1.kp (hboxW _ (.inr (.inr rfl))) HW.out.2.2.2.1.2.1, kcell3 H5.out.1.kp (hboxW _ (.inr (.inl rfl))) HW.out.2.2.2.1.2.2.1, (seven_cells hT5.m.box).2.2.2.2.2.1⟩
          have hzs5 : ∀ z ∈ E j, Sml z := fun z hz => by have := H.out.2.2.2.2.2.2.2.2.2.2.2.2.2.2.2.2.1 j z hz; have := H.out.2.2.2.2.2.2.2.2.2.2.2.2.2.2.2.2.2.2.2; have := H.out.2.2.2.2.2.2.2.2.2.2.2.2.2.2.2.2.2.2.1; unfold Sml; omega
          have hfar5 := fun b hb => HG.out.1.far hT5 (l := j) (u := .slice au i cu) (b := b) HJ.out.2.2.2.2.2.2.2.2.1 hb
          have hwo5 : ∀ b, (Value.slice au i cu).ownBlock = some b → b ≠ wo.heap.size := fun b hb e => by
            have := (HJ.out.2.2.2.2.2.2.2.2.2.2.2.2.lt b hb).2
            omega
          have hAs := take1_asks w.heap.size wo.heap.size wc.heap.size r mb nm2 (Sg.withC F0 (o : Int) (own : Int) (Sg.gAt E (j + 1) 0)) (j : Int) (o : Int) (E j) (.slice au i cu) w5.drew S5.1 S5.2.1 S5.2.2.1 S5.2.2.2 (hC5.at rfl) (fun b hb => ⟨(hfar5 b hb).2.2.2.2.1, hwo5 b hb, (hfar5 b hb).2.2.2.2.2.1, (hfar5 b hb).2.1, (hfar5 b hb).2.2.1⟩) (sml_nat (by omega)) (sml_nat (by omega)) hzs5
          have hDel := deleteFunc3 163 wa.heap.size (.pointer (some ⟨w.heap.size, 0, none⟩)) (.pointer (some ⟨wo.heap.size, 0, none⟩)) (.pointer (some ⟨wc.heap.size, 0, none⟩)) _ (.slice au i cu) (E j) w5.drew (trow_at hO5 fun _ _ => rfl) (by have := H.out.2.2.2.2.2.2.2.2.2.2.2.2.2.2.1 j; omega) (enters_of Tryz.func163 (by kernel_rfl) rfl) hAs
          have hSF : natI (Sg.srcF G s bl (Sg.withC F0 (o : Int) (own : Int) (Sg.gAt E kk 0)) (o : Int) j) = (E j).filter fun z => !decide (0 < Sg.withC F0 (o : Int) (own : Int) (Sg.gAt E (j + 1) 0) z (j : Int) (o : Int)) := by
            rw [Sg.srcF_nat H.out.2.2.2.2.2.2.2.2.2.2.2.2.2.2.2.2.2.1 H.out.2.2.2.2.2.2.2.2.2.2.2.2.2.2.2.2.2.2.1 j, ← H.out.2.2.2.2.2.2.2.2.2.2.1]
            refine List.filter_congr fun z _ => ?_
            rw [Sg.final E hlt]
          have hSp2 : ∀ (v6 : Value) (w6 : World), OwnI w6 wa.heap.size v6 ((E j).filter fun z => !decide (0 < Sg.withC F0 (o : Int) (own : Int) (Sg.gAt E (j + 1) 0) z (j : Int) (o : Int))) → v6.ownBlock = (Value.slice au i cu).ownBlock → TkS w0 wd w6 r g p mb s s5 x2 x5 (RowB us) (fun a b => Sg.Qj G s bl (Sg.withC F0 (o : Int) (own : Int) (Sg.gAt E kk 0)) (o : Int) j a b ∧ (a ∈ Sg.srcN G s bl j ↔ b ∈ Sg.srcN G s bl j)) → Calls Tryz.prog 161 #[.pointer (some ⟨r, 0, none⟩), v6] w6 fun e w' => e = .returned (.tuple #[]) ∧ ∃ x' c' s', SpAt w0 w6 w' w0.heap.size r g p mb s5 s' x5 x' c' (Sg.srcF G s bl (Sg.withC F0 (o : Int) (own : Int) (Sg.gAt E kk 0)) (o : Int) j) := fun v6 w6 h1 h2 h3 => by
            obtain ⟨c9, hP9, hL9⟩ := h3.c
            refine rsplit_any w0 w0.heap.size r g p mb wa.heap.size x5 c9 s5 v6 (Sg.srcF G s bl (Sg.withC F0 (o : Int) (own : Int) (Sg.gAt E kk 0)) (o : Int) j) w6 h3.m hP9 hL9 h3.ok h3.bare h3.i (by rw [hSF]; exact h1) (fun b hb => (hfar5 b (by rw [← h2]; exact hb)).2.2.2.1) (fun e he => ?_) ?_ (Nat.le_refl _)
            · have h4 := HW.out.2.2.2.2.1 e (List.mem_filter.1 he).1
              rw [h3.n, ← HW.out.1.n]
              exact h4
            · have h4 : (Sg.srcF G s bl (Sg.withC F0 (o : Int) (own : Int) (Sg.gAt E kk 0)) (o : Int) j).length ≤ (Sg.srcN G s bl j).length := List.length_filter_le _ _
              have h5 := HW.out.2.2.2.2.2.1
              have h6 := H.out.2.2.2.2.2.2.2.2.2.2.2.2.2.2.1 j
              omega
          have hK6 : ∀ w6, Kept (fun b => (Value.slice au i cu).ownBlock = some b) w5.drew w6 → TkS w0 wd w6 r g p mb s s5 x2 x5 (RowB us) (fun a b => Sg.Qj G s bl (Sg.withC F0 (o : Int) (own : Int) (Sg.gAt E kk 0)) (o : Int) j a b ∧ (a ∈ Sg.srcN G s bl j ↔ b ∈ Sg.srcN G s bl j)) ∧ Cnt w6 mb nm2 (Sg.withC F0 (o : Int) (own : Int) (Sg.gAt E (j + 1) 0)) ∧ RowsF w6 wa.heap.size us (j + 1) kk E := fun w6 hk6 => by
            have hd5 : Below w5.heap.size w5 w5.drew := (Below.refl _ _).drew
            refine ⟨(hT5.below hd5).kept hk6 fun b hb => ?_, (hC5.below hd5).kept hk6 fun e => (hfar5 _ e).2.2.1 rfl, fun l hl hl2 => ?_⟩
            · have h1 := hfar5 b hb
              exact ⟨Nat.le_trans H.out.1.up.size (Nat.le_trans H.out.2.2.2.2.2.2.1.size ((hO5.lt b hb).1)), h1.1, h1.2.1, h1.2.2.2.1, .inr (.inl ⟨j, _, HJ.out.2.2.2.2.2.2.2.2.1, hb⟩)⟩
            · obtain ⟨u2, h1, h2⟩ := hR5 l (by omega) hl2
              exact ⟨u2, h1, own_up (show OwnI w5.drew wa.heap.size u2 (E l) from trow_at h2 fun _ _ => rfl) hk6 fun b hb e => HG.out.1.ap l j u2 _ b h1 HJ.out.2.2.2.2.2.2.2.2.1 (by omega) hb e⟩
          have c5' := S5.1
          have hrb5 : ¬ (w.heap.size = p ∨ w.heap.size = r ∨ x5.foot w.heap.size) := fun e => by
            have l1 := HG.out.1.lo
            have l2 := HG.out.1.sz
            rcases e with e | e | e
            · omega
            · omega
            · rcases hT5.ft _ e with h2 | h2
              · have := HG.out.1.fx _ h2; omega
              · omega
          have HD : Hid _ := And.intro hDel (And.intro hSp2 (And.intro hK6 (And.intro hfar5 hrb5)))
          clear hT5 hfarW hk5 hO5 hR5 hmf hC5 hboxW S5 hzs5 hwo5 hAs hDel hSF hSp2 hK6 c0 hfar5 hrb5
          refine wp_region_held_drew (S := (fun w' => w'.cell? ⟨w.heap.size, 0, none⟩ = some (.pointer (some ⟨r, 0, none⟩)))) (by kernel_rfl) ?_ (fun hHeld => ?_)
          · exact c5'
          refine wpAnyH_take (i := 0) (oi := _) (v := ?_) rfl (by kernel_rfl) (by kernel_rfl) (by kernel_rfl) (fun _ _ _ h => h) (Or.inl ⟨by rfl, ?_⟩) (by assumption) ?_; rotate_left; (focus (intro w hSw; (try dsimp only at hSw); go_simp; (try with_reducible rfl))); (try simp only [List.getElem_toArray, List.getElem_cons_succ, List.getElem_cons_zero, Act.put, List.setIfInBounds_toArray, List.set_cons_zero, List.set_cons_succ])
          refine wpAnyH_take (i := 1) (oi := _) (v := ?_) rfl (by kernel_rfl) (by kernel_rfl) (by kernel_rfl) (fun _ _ _ h => h) (Or.inl ⟨by rfl, ?_⟩) (by assumption) ?_; rotate_left; (focus (intro w hSw; (try dsimp only at hSw); go_simp; (try with_reducible rfl))); (try simp only [List.getElem_toArray, List.getElem_cons_succ, List.getElem_cons_zero, Act.put, List.setIfInBounds_toArray, List.set_cons_zero, List.set_cons_succ])
          refine wpAnyH_take (i := 2) (oi := _) (v := ?_) rfl (by kernel_rfl) (by kernel_rfl) (by kernel_rfl) (fun _ _ _ h => h) (Or.inl ⟨by rfl, ?_⟩) (by assumption) ?_; rotate_left; (focus (intro w hSw; (try dsimp only at hSw); go_simp; (try with_reducible rfl))); (try simp only [List.getElem_toArray, List.getElem_cons_succ, List.getElem_cons_zero, Act.put, List.setIfInBounds_toArray, List.set_cons_zero, List.set_cons_succ])
          refine wpAnyH_ready (rs := [3]) (by kernel_rfl) (by simp) ?_
          refine AllReadyH.cons (o := _) rfl (fun K hK => ?_) ?_
          · (go_simp; go_at_call 162; refine Calls.mono HD.out.1 ?_; rintro r6 w6 ⟨v6, rfl, hO6, hob6, hk6⟩; have H6 : Hid _ := And.intro hO6 (And.intro hob6 hk6); clear hO6 hob6 hk6)
            (try go_wp2_with fail)
            refine hK.out _ _ ?_ (fun hHeld => ?_)
            · exact kcell3 H6.out.2.2 (fun e => (HD.out.2.2.2.1 _ e).2.2.2.2.1 rfl) c5'
            clear hK K
            (try simp only [List.getElem_toArray, List.getElem_cons_succ, List.getElem_cons_zero, Act.put, List.setIfInBounds_toArray, List.set_cons_zero, List.set_cons_succ])
            refine wpAnyH_ready (rs := [4]) (by kernel_rfl) (by simp) ?_
            refine AllReadyH.cons (o := _) rfl (fun K hK => ?_) ?_
            · (go_simp; go_at_call 161; refine Calls.mono (HD.out.2.1 v6 w6 H6.out.1 H6.out.2.1 (HD.out.2.2.1 w6 H6.out.2.2).1) ?_; rintro r7 w7 ⟨rfl, x7, c7, s7, hS7⟩; have H7 : Hid _ := And.intro hS7 trivial; clear hS7)
              (try go_wp2_with fail)
              refine hK.out _ _ ?_ (fun hHeld => ?_)
              · exact kcell3 H7.out.1.kp HD.out.2.2.2.2 (kcell3 H6.out.2.2 (fun e => (HD.out.2.2.2.1 _ e).2.2.2.2.1 rfl) c5')
              clear hK K
              (try simp only [List.getElem_toArray, List.getElem_cons_succ, List.getElem_cons_zero, Act.put, List.setIfInBounds_toArray, List.set_cons_zero, List.set_cons_succ])
              refine wpAnyH_done (by kernel_rfl) ?_ _
              (try go_simp)
              clear hHeld
              go_wp2_with fail
              go_roundg (kk - (j + 1))
              case measure => omega
              case rel =>
                obtain ⟨a1, a2, a3⟩ := HD.out.2.2.1 w6 H6.out.2.2
                refine ⟨j + 1, s7, x7, nm2, rfl, by omega, by go_num, (a1.split H7.out.1).congr (fun a b _ _ => (Sg.Qj_next G s bl _ _ j a b).symm), a3.kept H7.out.1.kp ?_, a2.kept H7.out.1.kp ?_, by omega⟩
                · intro l u b _ hu2 hb e
                  have h1 := HG.out.1.far a1 hu2 hb
                  exact e.elim h1.1 fun e => e.elim h1.2.1 h1.2.2.2.1
                · intro e
                  have h1 := a1.m.mb_foot a2
                  rcases e with e | e | e
                  · obtain ⟨c9, h2, _⟩ := a1.c
                    obtain ⟨cs, h3⟩ := pt_block h2
                    exact a2.ne h3 e
                  · exact h1.2 e
                  · exact h1.1 e
            exact AllReadyH.nil
          exact AllReadyH.nil
    · obtain rfl : j = kk := by omega
      have p1 : ¬ (j : Int) < (j : Int) := by omega
      have HE : Hid _ := And.intro hT hC
      clear hT hC hRw
      go_wp2_with fail
      go_end0
      have h1 := HE.out.1
      have h2 := HE.out.2
      have hkk := H.out.2.2.2.2.2.2.2.2.2.2.2.1
      have hlx := (List.getElem?_eq_some_iff.1 H.out.2.2.2.2.1).1
      have hn9 : nm1 ≤ nm + 10000000 := by omega
      rw [H.out.2.2.2.2.2.2.2.2.2.2.1, H.out.2.2.2.2.2.2.2.2.2.2.2.2.2.1, H.out.2.2.2.2.2.2.2.2.2.2.2.2.1, hkk] at h1 h2
      obtain ⟨h3, h4⟩ := take_done H.out.1 H.out.2.1 H.out.2.2.1 hlx H.out.2.2.2.2.1 H2.out.1 (H.out.2.2.2.2.2.2.1.trans (H1.out.1.bl.mono H.out.2.2.2.2.2.2.1.size)) (show Below wc.heap.size wc wd by rw [HG.out.2.2]; exact (Below.refl _ _).alloc (Nat.le_refl _) _) (fun b hb2 => by obtain ⟨l, u, e1, e2⟩ := hb2; have := HG.out.1.rows l u b e1 e2; omega) h1 h2 hn9
      exact ⟨rfl, nm1, s1, x1, h3, h4⟩
end
namespace Sg
open Ro
def EvenI (n : Nat) (out : Nat → List St) (O : Nat → Nat) (H : Nat → Int) : Prop := ∀ p q, p < n → q < n → O p = O q → ∀ b k, into out (fun t => H t = k) b p → into out (fun t => H t = k) b q
theorem take_evenI {n : Nat} {out : Nat → List St} {O O' : Nat → Nat} {H H' : Nat → Int} (hf : Fits n out) {h0 own : Int} {B : Nat → Prop}
    (hB : ∀ t, t < n → B t → H t = h0) (hH' : ∀ t, t < n → (H' t = own ↔ B t)) (hO' : ∀ t, t < n → ¬ B t → H' t = H t) (hne : h0 ≠ own) (hnew : ∀ t, t < n → H t ≠ own)
    (hE : EvenI n out O H ∨ ∀ t, t < n → B t) (hS : Split n (By out B fun t => H t = h0 ∧ ¬ B t) O O') : EvenI n out O' H' := by
  intro p q hp hq e b k hk
  obtain ⟨e0, hX⟩ := (hS p q hp hq).1 e
  have hA : into out B b p ↔ into out B b q := hX _ ⟨b, .inl rfl⟩
  have hC : (into out B b p ∧ ¬ into out (fun t => H t = h0 ∧ ¬ B t) b p) ↔ (into out B b q ∧ ¬ into out (fun t => H t = h0 ∧ ¬ B t) b q) := hX _ ⟨b, .inr rfl⟩
  by_cases h1 : k = own
  · subst h1
    exact (into_congr hf hH' hq).2 (hA.1 ((into_congr hf hH' hp).1 hk))
  · rcases hE with hE | hall
    · by_cases h2 : k = h0
      · subst h2
        have key : ∀ t, t < n → (H' t = k ↔ H t = k ∧ ¬ B t) := fun t ht => by
          constructor
          · intro h
            have hb : ¬ B t := fun hb => by have := (hH' t ht).2 hb; omega
            exact ⟨by rw [← hO' t ht hb]; exact h, hb⟩
          · rintro ⟨h, hb⟩
            rw [hO' t ht hb]; exact h
        rw [into_congr hf key hp] at hk
        rw [into_congr hf key hq]
        by_cases hb : into out B b p
        · by_cases hz : into out (fun t => H t = k ∧ ¬ B t) b q
          · exact hz
          · exact absurd hk (hC.2 ⟨hA.1 hb, hz⟩).2
        · have hz : into out (fun t => H t = k) b p := by
            obtain ⟨z, h3, h4, h5⟩ := hk
            exact ⟨z, h3, h4, h5.1⟩
          obtain ⟨z, h3, h4, h5⟩ := hE p q hp hq e0 b k hz
          by_cases h6 : B z.2.toNat
          · exact absurd (hA.2 ⟨z, h3, h4, h6⟩) hb
          · exact ⟨z, h3, h4, h5, h6⟩
      · have key : ∀ t, t < n → (H' t = k ↔ H t = k) := fun t ht => by
          by_cases hb : B t
          · have h3 := (hH' t ht).2 hb
            have h4 := hB t ht hb
            constructor <;> intro h <;> omega
          · rw [hO' t ht hb]
        rw [into_congr hf key hp] at hk
        rw [into_congr hf key hq]
        exact hE p q hp hq e0 b k hk
    · obtain ⟨z, h3, h4, h5⟩ := hk
      have ht : z.2.toNat < n := by have := hf p hp z h3; omega
      have := (hH' _ ht).2 (hall _ ht)
      exact absurd (h5.symm.trans this) h1
theorem take_coarseI {n : Nat} {out : Nat → List St} {R : Nat} {O O' : Nat → Nat} {H : Nat → Int} (hn : n ≤ 1000) (hf : Fits n out) (hR : Last n out R) {B : Nat → Prop} {h0 : Int} (hB : Sat n (rnd n out R) B) (hH : Sat n (rnd n out R) fun t => H t = h0) (hc : Coarse n (rnd n out R) O) (hS : Split n (By out B fun t => H t = h0 ∧ ¬ B t) O O') : Coarse n (rnd n out R) O' := by
  refine hS.coarse hc ?_
  rintro X ⟨b, rfl | rfl⟩
  · exact last_into hn hf hR hB b
  · exact (last_into hn hf hR hB b).and (last_into hn hf hR (hH.and hB.not) b).not
theorem even_stableI {n : Nat} {out : Nat → List St} {O : Nat → Nat} {H : Nat → Int} (hf : Fits n out) (hE : EvenI n out O H) (h1 : ∀ p q, p < n → q < n → (O p = O q ↔ H p = H q)) : Stable n out O := by
  intro p q hp hq e b B ⟨z, h2, h3, h4⟩
  have ht : z.2.toNat < n := by have := hf p hp z h2; omega
  obtain ⟨z', h5, h6, h7⟩ := hE p q hp hq e b (H z.2.toNat) ⟨z, h2, h3, rfl⟩
  have ht' : z'.2.toNat < n := by have := hf q hq z' h5; omega
  exact ⟨z', h5, h6, by rw [← h4]; exact (h1 _ _ ht' ht).2 h7⟩
theorem nodup_sub {α : Type} [DecidableEq α] : ∀ (l m : List α), l.Nodup → (∀ a ∈ l, a ∈ m) → l.length ≤ m.length
  | [], _, _, _ => Nat.zero_le _
  | a :: r, m, hd, h => by
    obtain ⟨h1, h2⟩ := List.nodup_cons.1 hd
    have h3 := nodup_sub r (m.erase a) h2 fun b hb => by
      refine (List.mem_erase_of_ne ?_).2 (h b (List.mem_cons_of_mem _ hb))
      rintro rfl
      exact h1 hb
    have h4 := List.length_erase_of_mem (h a List.mem_cons_self)
    have h5 : 0 < m.length := List.length_pos_of_mem (h a List.mem_cons_self)
    rw [List.length_cons]
    omega
def memb (n : Nat) (O : Nat → Nat) (bl : Nat) : List Int := ((List.range n).filter fun e => decide (O e = bl)).map fun e : Nat => (e : Int)
def bc (n : Nat) (O : Nat → Nat) (bl : Nat) : Nat := (List.range n).countP fun e => decide (O e = bl)
inductive Hist (G : Gp) : List (List Int) → (Nat → Nat) → (Nat → Int) → Nat → Prop
  | nil : Hist G [] (fun _ => 0) (fun _ => 0) 1
  | step {tk : List (List Int)} {O O' : Nat → Nat} {H H' : Nat → Int} {h : Nat} (e0 : Nat) (hh : Hist G tk O H h) (he : e0 < G.n) (half : H e0 = 0 ∨ 2 * bc G.n O (O e0) ≤ hc G.n H (H e0))
      (sp : Split G.n (By (outG G) (fun t => O t = O e0) fun t => H t = H e0 ∧ ¬ O t = O e0) O O') (hp : ∀ e, e < G.n → H' e = if O e = O e0 then (h : Int) else H e) : Hist G (tk ++ [memb G.n O (O e0)]) O' H' (h + 1)
structure HistI (G : Gp) (tk : List (List Int)) (O : Nat → Nat) (H : Nat → Int) (h : Nat) : Prop where
  len : h = tk.length + 1
  first : tk = [] → (∀ e, e < G.n → O e = 0 ∧ H e = 0)
  rng : ∀ e, e < G.n → (0 ≤ H e ∧ H e < (h : Int)) ∧ (tk ≠ [] → 1 ≤ H e)
  fn : ∀ a b, a < G.n → b < G.n → O a = O b → H a = H b
  full : ∀ o : Nat, 1 ≤ o → o < h → ∃ e, e < G.n ∧ H e = (o : Int)
  one : tk ≠ [] → 0 < G.n
theorem exists_not {n : Nat} {p q : Nat → Bool} (h1 : (List.range n).countP p < (List.range n).countP q) : ∃ e, e < n ∧ q e = true ∧ p e = false := by
  refine Classical.byContradiction fun hn => ?_
  have h2 : (List.range n).countP q ≤ (List.range n).countP p := List.countP_mono_left fun e he hq => by
    cases hp : p e with
    | true => rfl
    | false => exact absurd ⟨e, List.mem_range.1 he, hq, hp⟩ hn
  omega
theorem Hist.inv {G : Gp} {tk : List (List Int)} {O : Nat → Nat} {H : Nat → Int} {h : Nat} (hh : Hist G tk O H h) : HistI G tk O H h := by
  induction hh with
  | nil => exact ⟨rfl, fun _ _ _ => ⟨rfl, rfl⟩, fun e _ => ⟨⟨by omega, by omega⟩, fun h => absurd rfl h⟩, fun _ _ _ _ _ => rfl, fun o h1 h2 => by omega, fun h => absurd rfl h⟩
  | @step tk O O' H H' h e0 hh he half sp hp ih =>
    have hpos : 0 < bc G.n O (O e0) := List.countP_pos_iff.2 ⟨e0, List.mem_range.2 he, decide_eq_true rfl⟩
    have hl := ih.len
    refine ⟨by rw [List.length_append, hl]; rfl, fun h => by simp at h, fun e hE => ?_, fun a b ha hb e => ?_, fun o h1 h2 => ?_, fun _ => by omega⟩
    · rw [hp e hE]
      have h1 := ih.rng e hE
      by_cases h2 : O e = O e0
      · rw [if_pos h2]
        exact ⟨⟨by omega, by omega⟩, fun _ => by omega⟩
      · rw [if_neg h2]
        refine ⟨⟨h1.1.1, by omega⟩, fun _ => ?_⟩
        by_cases h3 : tk = []
        · exact absurd ((ih.first h3 e hE).1.trans (ih.first h3 e0 he).1.symm) h2
        · exact h1.2 h3
    · have h1 := sp.finer ha hb e
      rw [hp a ha, hp b hb, h1, ih.fn a b ha hb h1]
    · by_cases h3 : o = h
      · exact ⟨e0, he, by rw [hp e0 he, if_pos rfl, h3]⟩
      · obtain ⟨e, hE, h4⟩ := ih.full o h1 (by omega)
        by_cases h5 : O e = O e0
        · have h6 : H e0 = (o : Int) := by rw [← ih.fn e e0 hE he h5]; exact h4
          have h7 : 2 * bc G.n O (O e0) ≤ hc G.n H (H e0) := half.resolve_left (by omega)
          obtain ⟨e', h8, h9, h10⟩ := exists_not (n := G.n) (p := fun e => decide (O e = O e0)) (q := fun e => H e == H e0) (by unfold bc hc at h7; unfold bc at hpos; omega)
          refine ⟨e', h8, ?_⟩
          rw [hp e' h8, if_neg (of_decide_eq_false h10), ← h6]
          exact eq_of_beq h9
        · exact ⟨e, hE, by rw [hp e hE, if_neg h5]; exact h4⟩
theorem Hist.heaps {G : Gp} {tk : List (List Int)} {O : Nat → Nat} {H : Nat → Int} {h : Nat} (hh : Hist G tk O H h) : h ≤ G.n + 1 := by
  have hi := hh.inv
  have h1 := nodup_sub ((List.range (h - 1)).map fun o : Nat => ((o + 1 : Nat) : Int)) ((List.range G.n).map H) (List.pairwise_map.2 (List.nodup_range.imp fun {a b} hne e => hne (by omega))) fun a ha => by
    obtain ⟨o, ho, rfl⟩ := List.mem_map.1 ha
    have h2 := List.mem_range.1 ho
    obtain ⟨e, h3, h4⟩ := hi.full (o + 1) (by omega) (by omega)
    exact List.mem_map.2 ⟨e, List.mem_range.2 h3, h4⟩
  rw [List.length_map, List.length_map, List.length_range, List.length_range] at h1
  omega
theorem outG_fits {G : Gp} (hr : Sy.right G.n (G.kk : Int) G.st G.es = true) : Fits G.n (outG G) := fun p hp z hz => by
  unfold outG Sy.rowOf at hz
  rw [if_pos ⟨by omega, by omega⟩] at hz
  have h2 := (right_parts hr).2.2.2.2.2 _ ((Sy.nf_mem _ _).1 (Sy.steps_mem.1 hz))
  simp only at h2
  exact ⟨h2.2.2.1, h2.2.2.2.1⟩
theorem Hist.coarse {G : Gp} {tk : List (List Int)} {O : Nat → Nat} {H : Nat → Int} {h : Nat} (hr : Sy.right G.n (G.kk : Int) G.st G.es = true) {R : Nat} (hR : Last G.n (outG G) R) (hh : Hist G tk O H h) : Coarse G.n (rnd G.n (outG G) R) O := by
  have hn : G.n ≤ 1000 := by have := (right_parts hr).1; omega
  induction hh with
  | nil => intro p q _ _ _; rfl
  | @step tk O O' H H' h e0 hh he half sp hp ih =>
    have hi := hh.inv
    refine take_coarseI hn (outG_fits hr) hR (ih.sat fun t => t = O e0) ?_ ih sp
    intro p q hp2 hq2 e hx
    show H q = H e0
    rw [← hi.fn p q hp2 hq2 (ih p q hp2 hq2 e)]
    exact hx
theorem Hist.even {G : Gp} {tk : List (List Int)} {O : Nat → Nat} {H : Nat → Int} {h : Nat} (hr : Sy.right G.n (G.kk : Int) G.st G.es = true) (hh : Hist G tk O H h) (ht : tk ≠ []) : EvenI G.n (outG G) O H := by
  induction hh with
  | nil => exact absurd rfl ht
  | @step tk O O' H H' h e0 hh he half sp hp ih =>
    have hi := hh.inv
    have hne : ∀ t, t < G.n → H t ≠ (h : Int) := fun t ht e => by have := (hi.rng t ht).1.2; omega
    refine take_evenI (outG_fits hr) (h0 := H e0) (own := (h : Int)) (B := fun t => O t = O e0) (H := H) (fun t ht hb => hi.fn t e0 ht he hb) (fun t ht => ?_) (fun t ht hb => by rw [hp t ht, if_neg hb]) (hne e0 he) hne ?_ sp
    · rw [hp t ht]
      by_cases h2 : O t = O e0
      · rw [if_pos h2]; exact ⟨fun _ => h2, fun _ => rfl⟩
      · rw [if_neg h2]; exact ⟨fun e => absurd e (hne t ht), fun e => absurd e h2⟩
    · by_cases h3 : tk = []
      · exact .inr fun t ht => (hi.first h3 t ht).1.trans (hi.first h3 e0 he).1.symm
      · exact .inl (ih h3)
theorem Hist.ends {G : Gp} {tk : List (List Int)} {O : Nat → Nat} {H : Nat → Int} {h : Nat} (hr : Sy.right G.n (G.kk : Int) G.st G.es = true) {R : Nat} (hR : Last G.n (outG G) R) (hh : Hist G tk O H h) (ht : tk ≠ []) (hd : ∀ a b, a < G.n → b < G.n → H a = H b → O a = O b) : num ((List.range G.n).map O) = rnd G.n (outG G) R := by
  have hn : G.n ≤ 1000 := by have := (right_parts hr).1; omega
  have hi := hh.inv
  exact blocks_last hn (outG_fits hr) (even_stableI (outG_fits hr) (hh.even hr ht) fun p q hp hq => ⟨hi.fn p q hp hq, hd p q hp hq⟩) (hh.coarse hr hR)
end Sg
section
open Go.RowKit Go.Maps
attribute [local go_sem ↓] Go.wp_at_zero Go.wp_at_succ
set_option linter.unusedSimpArgs false in
set_option maxRecDepth 100000 in
set_option maxHeartbeats 4000000 in
theorem smaller_any (B r g p mb : Nat) (x : Rv) (a b : Nat) (y z : Int) (w : World) (hM : RnM w B r g p mb x) (ha : x.sz[a]? = some y) (hb : x.sz[b]? = some z) :
    Calls Tryz.prog 157 #[.pointer (some ⟨r, 0, none⟩), .int .i64 a, .int .i64 b] w fun e w' => e = .returned (.int .i64 ((if y ≤ z then a else b : Nat) : Int)) ∧ Below w.heap.size w w' := by
  obtain ⟨_, _, _, _, c4, _, _⟩ := seven_cells hM.box
  have hal := (List.getElem?_eq_some_iff.1 ha).1
  have hbl := (List.getElem?_eq_some_iff.1 hb).1
  obtain ⟨gz, oz, cz, hvz, _, csa, _⟩ := (hM.q.q 1 (x.vz, x.sz) rfl).cell ha
  simp only at hvz
  have csb := (Que.cellAt (w := w) (B := B) (g := gz) (off := oz) (n := x.sz.length) (cap := cz) (by have h9 := hM.q.q 1 (x.vz, x.sz) rfl; rw [hvz] at h9; exact h9) hb).1
  obtain ⟨nz, hnz⟩ : ∃ nz, nz = x.sz.length := ⟨_, rfl⟩
  rw [hvz, ← hnz] at c4
  rw [← hnz] at hal hbl
  have p0 : (0 : Int) ≤ (a : Int) := by omega
  have p1 : (a : Int) < (nz : Int) := by omega
  have p2 : (0 : Int) ≤ (b : Int) := by omega
  have p3 : (b : Int) < (nz : Int) := by omega
  obtain ⟨cv, hcv⟩ : ∃ cv, cv = cmpI y z := ⟨_, rfl⟩
  have hC := fun W => cmpI_any y z W
  rw [← hcv] at hC
  obtain ⟨m, hm⟩ : ∃ m, m = (if y ≤ z then a else b : Nat) := ⟨_, rfl⟩
  rw [← hm]
  have HC : Hid _ := And.intro hC (And.intro hcv hm)
  clear hM ha hb hvz hnz hC hcv hm
  go_enter Tryz.func157, Tryz.ntmps157
  go_upto_region 1 with fail
  refine wp_region_held_drew (S := (fun w' => w'.cell? ⟨r, 4, none⟩ = some (.slice (some ⟨gz, oz, none⟩) nz cz) ∧ w'.cell? ⟨gz, oz + a, none⟩ = some (.int .i64 y) ∧ w'.cell? ⟨gz, oz + b, none⟩ = some (.int .i64 z))) (by kernel_rfl) ?_ (fun hHeld => ?_)
  · exact ⟨c4, csa, csb⟩
  refine wpAnyH_take (i := 0) (oi := _) (v := ?_) rfl (by kernel_rfl) (by kernel_rfl) (by kernel_rfl) (fun _ _ _ h => h) (Or.inl ⟨by rfl, ?_⟩) (by assumption) ?_; rotate_left; (focus (intro w hSw; (try dsimp only at hSw); go_simp; (try with_reducible rfl))); (try simp only [List.getElem_toArray, List.getElem_cons_succ, List.getElem_cons_zero, Act.put, List.setIfInBounds_toArray, List.set_cons_zero, List.set_cons_succ])
  refine wpAnyH_take (i := 1) (oi := _) (v := ?_) rfl (by kernel_rfl) (by kernel_rfl) (by kernel_rfl) (fun _ _ _ h => h) (Or.inl ⟨by rfl, ?_⟩) (by assumption) ?_; rotate_left; (focus (intro w hSw; (try dsimp only at hSw); go_simp; (try with_reducible rfl))); (try simp only [List.getElem_toArray, List.getElem_cons_succ, List.getElem_cons_zero, Act.put, List.setIfInBounds_toArray, List.set_cons_zero, List.set_cons_succ])
  refine wpAnyH_take (i := 2) (oi := _) (v := ?_) rfl (by kernel_rfl) (by kernel_rfl) (by kernel_rfl) (fun _ _ _ h => h) (Or.inl ⟨by rfl, ?_⟩) (by assumption) ?_; rotate_left; (focus (intro w hSw; (try dsimp only at hSw); go_simp; (try with_reducible rfl))); (try simp only [List.getElem_toArray, List.getElem_cons_succ, List.getElem_cons_zero, Act.put, List.setIfInBounds_toArray, List.set_cons_zero, List.set_cons_succ])
  refine wpAnyH_take (i := 3) (oi := _) (v := ?_) rfl (by kernel_rfl) (by kernel_rfl) (by kernel_rfl) (fun _ _ _ h => h) (Or.inl ⟨by rfl, ?_⟩) (by assumption) ?_; rotate_left; (focus (intro w hSw; (try dsimp only at hSw); go_simp; (try with_reducible rfl))); (try simp only [List.getElem_toArray, List.getElem_cons_succ, List.getElem_cons_zero, Act.put, List.setIfInBounds_toArray, List.set_cons_zero, List.set_cons_succ])
  refine wpAnyH_take (i := 4) (oi := _) (v := ?_) rfl (by kernel_rfl) (by kernel_rfl) (by kernel_rfl) (fun _ _ _ h => h) (Or.inl ⟨by rfl, ?_⟩) (by assumption) ?_; rotate_left; (focus (intro w hSw; (try dsimp only at hSw); go_simp; (try with_reducible rfl))); (try simp only [List.getElem_toArray, List.getElem_cons_succ, List.getElem_cons_zero, Act.put, List.setIfInBounds_toArray, List.set_cons_zero, List.set_cons_succ])
  refine wpAnyH_take (i := 5) (oi := _) (v := ?_) rfl (by kernel_rfl) (by kernel_rfl) (by kernel_rfl) (fun _ _ _ h => h) (Or.inl ⟨by rfl, ?_⟩) (by assumption) ?_; rotate_left; (focus (intro w hSw; (try dsimp only at hSw); go_simp; (try with_reducible rfl))); (try simp only [List.getElem_toArray, List.getElem_cons_succ, List.getElem_cons_zero, Act.put, List.setIfInBounds_toArray, List.set_cons_zero, List.set_cons_succ])
  refine wpAnyH_take (i := 6) (oi := _) (v := ?_) rfl (by kernel_rfl) (by kernel_rfl) (by kernel_rfl) (fun _ _ _ h => h) (Or.inl ⟨by rfl, ?_⟩) (by assumption) ?_; rotate_left; (focus (intro w hSw; (try dsimp only at hSw); go_simp; (try with_reducible rfl))); (try simp only [List.getElem_toArray, List.getElem_cons_succ, List.getElem_cons_zero, Act.put, List.setIfInBounds_toArray, List.set_cons_zero, List.set_cons_succ])
  refine wpAnyH_take (i := 7) (oi := _) (v := ?_) rfl (by kernel_rfl) (by kernel_rfl) (by kernel_rfl) (fun _ _ _ h => h) (Or.inl ⟨by rfl, ?_⟩) (by assumption) ?_; rotate_left; (focus (intro w hSw; (try dsimp only at hSw); go_simp; (try with_reducible rfl))); (try simp only [List.getElem_toArray, List.getElem_cons_succ, List.getElem_cons_zero, Act.put, List.setIfInBounds_toArray, List.set_cons_zero, List.set_cons_succ])
  refine wpAnyH_take (i := 8) (oi := _) (v := ?_) rfl (by kernel_rfl) (by kernel_rfl) (by kernel_rfl) (fun _ _ _ h => h) (Or.inl ⟨by rfl, ?_⟩) (by assumption) ?_; rotate_left; (focus (intro w hSw; (try dsimp only at hSw); go_simp; (try with_reducible rfl))); (try simp only [List.getElem_toArray, List.getElem_cons_succ, List.getElem_cons_zero, Act.put, List.setIfInBounds_toArray, List.set_cons_zero, List.set_cons_succ])
  refine wpAnyH_take (i := 9) (oi := _) (v := ?_) rfl (by kernel_rfl) (by kernel_rfl) (by kernel_rfl) (fun _ _ _ h => h) (Or.inl ⟨by rfl, ?_⟩) (by assumption) ?_; rotate_left; (focus (intro w hSw; (try dsimp only at hSw); go_simp; (try with_reducible rfl))); (try simp only [List.getElem_toArray, List.getElem_cons_succ, List.getElem_cons_zero, Act.put, List.setIfInBounds_toArray, List.set_cons_zero, List.set_cons_succ])
  refine wpAnyH_take (i := 10) (oi := _) (v := ?_) rfl (by kernel_rfl) (by kernel_rfl) (by kernel_rfl) (fun _ _ _ h => h) (Or.inl ⟨by rfl, ?_⟩) (by assumption) ?_; rotate_left; (focus (intro w hSw; (try dsimp only at hSw); go_simp; (try with_reducible rfl))); (try simp only [List.getElem_toArray, List.getElem_cons_succ, List.getElem_cons_zero, Act.put, List.setIfInBounds_toArray, List.set_cons_zero, List.set_cons_succ])
  refine wpAnyH_take (i := 11) (oi := _) (v := ?_) rfl (by kernel_rfl) (by kernel_rfl) (by kernel_rfl) (fun _ _ _ h => h) (Or.inl ⟨by rfl, ?_⟩) (by assumption) ?_; rotate_left; (focus (intro w hSw; (try dsimp only at hSw); go_simp; (try with_reducible rfl))); (try simp only [List.getElem_toArray, List.getElem_cons_succ, List.getElem_cons_zero, Act.put, List.setIfInBounds_toArray, List.set_cons_zero, List.set_cons_succ])
  refine wpAnyH_take (i := 12) (oi := _) (v := ?_) rfl (by kernel_rfl) (by kernel_rfl) (by kernel_rfl) (fun _ _ _ h => h) (Or.inl ⟨by rfl, ?_⟩) (by assumption) ?_; rotate_left; (focus (intro w hSw; (try dsimp only at hSw); go_simp; (try with_reducible rfl))); (try simp only [List.getElem_toArray, List.getElem_cons_succ, List.getElem_cons_zero, Act.put, List.setIfInBounds_toArray, List.set_cons_zero, List.set_cons_succ])
  refine wpAnyH_take (i := 13) (oi := _) (v := ?_) rfl (by kernel_rfl) (by kernel_rfl) (by kernel_rfl) (fun _ _ _ h => h) (Or.inl ⟨by rfl, ?_⟩) (by assumption) ?_; rotate_left; (focus (intro w hSw; (try dsimp only at hSw); go_simp; (try with_reducible rfl))); (try simp only [List.getElem_toArray, List.getElem_cons_succ, List.getElem_cons_zero, Act.put, List.setIfInBounds_toArray, List.set_cons_zero, List.set_cons_succ])
  refine wpAnyH_ready (rs := [14]) (by kernel_rfl) (by simp) ?_
  refine AllReadyH.cons (o := _) rfl (fun K hK => ?_) ?_
  · (go_simp; go_at_call 178; refine Calls.mono (HC.out.1 _) ?_; rintro r1 w1 ⟨rfl, hw1⟩; obtain rfl := hw1.symm; clear hw1)
    (try go_wp2_with fail)
    refine hK.out _ _ ?_ (fun hHeld => ?_)
    · exact hHeld
    clear hK K
    (try simp only [List.getElem_toArray, List.getElem_cons_succ, List.getElem_cons_zero, Act.put, List.setIfInBounds_toArray, List.set_cons_zero, List.set_cons_succ])
    refine wpAnyH_done (by kernel_rfl) ?_ _
    (try go_simp)
    clear hHeld
    by_cases h1 : y < z
    · have q1 : cv = -1 := by rw [HC.out.2.1]; unfold cmpI; rw [if_pos h1]
      subst q1
      have HE : Hid (m = a) := (by rw [HC.out.2.2, if_pos (by omega)] : m = a)
      clear h1
      go_wp2_with fail
      go_ret
      exact ⟨by first | rfl | (rw [HE.out]; rfl), (Below.refl _ _).drew⟩
    · by_cases h2 : z < y
      · have q1 : cv = 1 := by rw [HC.out.2.1]; unfold cmpI; rw [if_neg h1, if_pos h2]
        subst q1
        have HE : Hid (m = b) := (by rw [HC.out.2.2, if_neg (by omega)] : m = b)
        clear h1 h2
        go_wp2_with fail
        go_ret
        exact ⟨by first | rfl | (rw [HE.out]; rfl), (Below.refl _ _).drew⟩
      · have q1 : cv = 0 := by rw [HC.out.2.1]; unfold cmpI; rw [if_neg h1, if_neg h2]
        subst q1
        have HE : Hid (m = a) := (by rw [HC.out.2.2, if_pos (by omega)] : m = a)
        clear h1 h2
        go_wp2_with fail
        go_ret
        exact ⟨by first | rfl | (rw [HE.out]; rfl), (Below.refl _ _).drew⟩
  exact AllReadyH.nil
end
end Go.Proofs.YthcpliinddjkhaaGreatDoor
