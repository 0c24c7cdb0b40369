/- The statement RefineHalves, out of the contracts. -/
import Derived.Test.YthfnikglcpoioaaDoorRfHalves0
namespace Go.Proofs.YthfnikglcpoioaaDoor
open Go.RowKit Go.Maps
attribute [local go_sem ↓] Go.wp_at_zero Go.wp_at_succ
set_option maxRecDepth 100000 in
set_option maxHeartbeats 40000000 in
theorem lawHalves8 (n : Int) (v : Value) (ps : List (Int × Int)) (a1 a3 : Addr) (w : World) (hE : EnvR w a1 a3) (hv : HasO8 w v ps) :
    Calls Tryd.prog 3 #[.int .i64 n, v] w fun r w' => r = .returned (.bool true) ∧ Below w.heap.size w w' := by
  obtain ⟨ao, cap, rfl, hcs⟩ := hv
  have HA : Hid (∀ W : World, Calls Tryd.prog 6 #[] W fun r w' => r = .returned (.bool true) ∧ Below W.heap.size W w') := fun W => alive8 W
  by_cases hn : n < 1 ∨ 60 < n ∨ 200 < ps.length
  · generalize ps.length = L at *
    clear hcs hE
    by_cases h1 : n < 1
    · have d1 : decide (n < 1) = true := decide_eq_true h1
      clear hn
      go_enter Tryd.func3, Tryd.ntmps3
      go_wp2_with (go_at_call 6; refine Calls.mono (HA.out _) ?_; rintro r w1 ⟨rfl, hb1⟩)
      go_ret
      exact ⟨rfl, hb1⟩
    · have d1 : decide (n < 1) = false := decide_eq_false h1
      by_cases h2 : 60 < n
      · have d2 : decide (60 < n) = true := decide_eq_true h2
        clear hn
        go_enter Tryd.func3, Tryd.ntmps3
        go_wp2_with (go_at_call 6; refine Calls.mono (HA.out _) ?_; rintro r w1 ⟨rfl, hb1⟩)
        go_ret
        exact ⟨rfl, hb1⟩
      · have d2 : decide (60 < n) = false := decide_eq_false h2
        have h3 : (200 : Int) < (L : Int) := by omega
        have d3 : decide ((200 : Int) < (L : Int)) = true := decide_eq_true h3
        clear hn
        go_enter Tryd.func3, Tryd.ntmps3
        go_wp2_with (go_at_call 6; refine Calls.mono (HA.out _) ?_; rintro r w1 ⟨rfl, hb1⟩)
        go_ret
        exact ⟨rfl, hb1⟩
  · obtain ⟨N, rfl⟩ : ∃ N : Nat, n = N := ⟨n.toNat, by omega⟩
    have hN60 : N ≤ 60 := by omega
    have hN1 : 1 ≤ N := by omega
    have hL200 : ps.length ≤ 200 := by omega
    have d1 : ¬ (N : Int) < 1 := by omega
    have d2 : ¬ (60 : Int) < (N : Int) := by omega
    have d3 : ¬ (200 : Int) < (ps.length : Int) := by omega
    have d4 : ¬ 60 < N := by omega
    have d5 : ¬ 200 < ps.length := by omega
    have d6 : ¬ N < 1 := by omega
    have hNew := new_part N (by omega) w
    have HN : Hid _ := And.intro hNew trivial
    have HE : Hid (EnvR w a1 a3) := hE
    obtain ⟨L, hL⟩ : ∃ L, L = ps.length := ⟨_, rfl⟩
    rw [← hL] at hL200 d3 d5 ⊢
    have HC : Hid (L = ps.length ∧ ∀ (i : Nat) (p : Int × Int), ps[i]? = some p → ∃ a, ao = some a ∧ w.cell? (a.add (i * 2)) = some (.int .i64 p.1) ∧ w.cell? (a.add (i * 2 + 1)) = some (.int .i64 p.2)) := ⟨hL, hcs⟩
    clear hNew hE hn hcs hL
    go_enter Tryd.func3, Tryd.ntmps3
    go_wp2_with fail
    refine Calls.mono HN.out.1 ?_
    rintro r w1 ⟨g, c, rfl, hP, hLy⟩
    have hOk := Pst.new_ok (n := N) (by omega)
    have hmkB := makeB N (by omega) w1
    have hH1 : Hv w (w1.alloc (.cells (madeV (.bool false) N) 4)) g w1.heap.size N c (Pst.new N) (fun _ => false) := by
      refine ⟨(St8.mk hP hLy hOk).below ((Below.refl _ _).alloc (Nat.le_refl _) _), rfl, ?_, ?_⟩
      · rw [bC_false]
        exact (arr_new 4 (.bool false) rfl N w1).back hP.bl
      · have := Arr.lt hP; omega
    have H1 : Hid _ := hH1
    clear hP hLy hOk HN d1 d2 d3 d4 d5 d6 hH1
    go_wp2_with fail
    clear hmkB
    obtain ⟨wm, hwm⟩ : ∃ wm, wm = w1.alloc (.cells (madeV (.bool false) N) 4) := ⟨_, rfl⟩
    obtain ⟨mk, hmk⟩ : ∃ mk, mk = w1.heap.size := ⟨_, rfl⟩
    rw [← hwm, ← hmk] at H1
    rw [← hwm, ← hmk]
    clear hwm hmk
    go_loopg [8] L (fun q iv wr => ∃ (i : Nat) (ci : Nat → Int) (si : Pst), iv = .int .i64 i ∧ i ≤ L ∧ L - i ≤ q ∧ Hv w wr g mk N ci si si.isM)
    case atStart => exact ⟨0, c, Pst.new N, rfl, Nat.zero_le _, Nat.le_refl _, H1.out.congr fun e he => (decide_eq_false (Nat.not_lt_zero _)).symm⟩
    case round =>
      obtain ⟨i, ci, si, rfl, hi, hq, hHv⟩ := hrel
      obtain ⟨wq, hwq⟩ : ∃ wq, wq = wr := ⟨_, rfl⟩
      subst hwq
      clear H1
      by_cases hiL : i < L
      · have p1 : (i : Int) < (L : Int) := by omega
        have p2 : (0 : Int) ≤ (i : Int) := by omega
        obtain ⟨⟨k0, x0⟩, hp⟩ : ∃ p, ps[i]? = some p := ⟨_, List.getElem?_eq_getElem (by have := HC.out.1; omega)⟩
        obtain ⟨a, ha, y0, y1⟩ := HC.out.2 i _ hp
        subst ha
        have hbw := hHv.bl
        have y0 := cellu y0 hbw
        have y1 := cellu y1 hbw
        have y2 : wq.cell? ((a.add (i * 2)).add 1) = some (.int .i64 x0) := by rw [add_two8]; exact y1
        have y3 : wq.cell? ⟨(a.add (i * 2)).block, (a.add (i * 2)).off + 1, none⟩ = some (.int .i64 x0) := by rw [← y2]; rfl
        simp only at y0
        clear y1 hbw hp
        -- the step, as a variable
        obtain ⟨w2, hw2⟩ : ∃ w2, w2 = wq.alloc (.cells #[.int .i64 k0, .int .i64 x0] 31) := ⟨_, rfl⟩
        have hb2 : Below wq.heap.size wq w2 := by rw [hw2]; exact (Below.refl _ _).alloc (Nat.le_refl _) _
        have hO2 : w2.heap[wq.heap.size]? = some (.cells #[.int .i64 k0, .int .i64 x0] 31 (0, 0)) := by rw [hw2]; exact heap_alloc_new _ _
        have hgl : g < wq.heap.size := Arr.lt hHv.st.pt
        have hml : mk < wq.heap.size := Arr.lt hHv.mb
        obtain ⟨ob, hob⟩ : ∃ ob, ob = wq.heap.size := ⟨_, rfl⟩
        have H2 : Hid (Hv w w2 g mk N ci si si.isM ∧ w2.heap[ob]? = some (.cells #[.int .i64 k0, .int .i64 x0] 31 (0, 0)) ∧ w2 = wq.alloc (.cells #[.int .i64 k0, .int .i64 x0] 31)) := ⟨hHv.below hb2, by rw [hob]; exact hO2, hw2⟩
        rw [← hob] at hgl hml
        have z1 := cell0_of (k := 1) H2.out.2.1 rfl
        clear hb2 hO2 hHv
        by_cases hk : k0 = 1
        · subst hk
          by_cases hx : x0 < 0 ∨ (N : Int) ≤ x0
          · have hM := mark_bad g ci si x0 a1 a3 w w2 H2.out.1.st.pt H2.out.1.st.ly (HE.out.below H2.out.1.bl) (by rw [H2.out.1.sn]; exact hx)
            have hH2 := H2.out.1
            rw [H2.out.2.2] at hM hH2
            have HM : Hid _ := And.intro hM hH2
            clear hM hH2 hx hob z1 hw2
            go_wp2_with (go_at_call 8; refine Calls.mono HM.out.1 ?_; rintro r w3 ⟨y, rfl, hC, hb3⟩; obtain ⟨T, u, rfl⟩ := hC.iface; have H3 : Hid (Hv w w3 g mk N ci si si.isM) := HM.out.2.below hb3; clear hC hb3)
            go_roundg (L - (i + 1))
            case measure => omega
            case rel => exact ⟨i + 1, ci, si, by go_num, by omega, Nat.le_refl _, H3.out⟩
          · obtain ⟨e, rfl⟩ : ∃ e : Nat, x0 = e := ⟨x0.toNat, by omega⟩
            have heN : e < N := by omega
            have hM := mark_any g ci si e w w2 H2.out.1.st.pt H2.out.1.st.ly H2.out.1.st.ok (by rw [H2.out.1.sn]; exact heN)
            have hH2 := H2.out.1
            have hz := z1
            rw [H2.out.2.2] at hM hH2 hz
            have HM : Hid _ := And.intro hM (And.intro hH2 hz)
            have e0 : (0 : Int) ≤ (e : Int) := by omega
            have e1 : (e : Int) < (N : Int) := by omega
            have hbg : ¬ ob = g := by omega
            clear hM hH2 hx hz z1 hw2
            rw [hob] at HM hbg
            clear hob hgl hml H2
            generalize (!si.isM e) = bb at HM
            go_wp2_with (go_at_call 8; refine Calls.mono HM.out.1 ?_; rintro r w3 ⟨rfl, c3, s3, hP3, hL3, hO3, hK3, n3, _, _, _, _, m3⟩; have z3 := cellk HM.out.2.2 hK3 hbg; have hv3 := HM.out.2.1.turn ⟨hP3, hL3, hO3⟩ n3 hK3; have q3 := hv3.cell heN; have f3 := hv3.mb.free e; have H3 : Hid _ := And.intro hv3 (And.intro HM.out.2.1.sn m3); clear hP3 hL3 hO3 hK3 n3 m3 hv3)
            go_roundg (L - (i + 1))
            case measure => omega
            case rel =>
              refine ⟨i + 1, c3, s3, by go_num, by omega, Nat.le_refl _, (H3.out.1.set e true).congr fun y hy => ?_⟩
              rw [H3.out.2.2 y (by rw [H3.out.2.1]; exact hy)]
              unfold upd
              by_cases hye : y = e
              · simp [hye]
              · simp [hye]
        · have hCl : ∀ W, Hv w W g mk N ci si si.isM → Calls Tryd.prog 9 #[.pointer (some ⟨g, 0, none⟩)] W fun r w' => ∃ u, r = .returned u ∧ OwnI w' W.heap.size u (natI (Sy.canon si.own)) ∧ Below W.heap.size W w' := fun W hW => classes_any g ci si w W hW.st.pt hW.st.ly hW.st.ok (by rw [hW.sn]; omega)
          have hH2 := H2.out.1
          have hz := z1
          rw [H2.out.2.2] at hH2 hz
          have hsn := hH2.sn
          have hok := hH2.st.ok
          have hbg : ¬ ob = g := by omega
          have hbm : ¬ ob = mk := by omega
          have hsz : (wq.alloc (.cells #[.int .i64 k0, .int .i64 x0] 31)).heap.size = ob + 1 := by rw [hob]; simp
          have HCl : Hid _ := And.intro hCl (And.intro hH2 hsz)
          have z1 := hz
          rw [hob] at z1
          clear hCl hH2 hz hw2 H2 hsz
          by_cases hx : x0 < 0 ∨ (si.nb : Int) ≤ x0
          · have hMb : ∀ W, Hv w W g mk N ci si si.isM → Calls Tryd.prog 10 #[.pointer (some ⟨g, 0, none⟩), .int .i64 x0] W fun r w' => ∃ x, r = .returned (.tuple #[.slice none 0 0, x]) ∧ Chain w' 0 0 a3 [refB] x ∧ Below W.heap.size W w' := fun W hW => members_bad g ci si x0 a1 a3 w W hW.st.pt hW.st.ly (HE.out.below hW.bl) hx
            have hSb : ∀ W, Hv w W g mk N ci si si.isM → Calls Tryd.prog 11 #[.pointer (some ⟨g, 0, none⟩), .int .i64 x0] W fun r w' => ∃ x, r = .returned (.tuple #[.int .i64 0, .bool false, x]) ∧ Chain w' 0 0 a3 [refB] x ∧ Below W.heap.size W w' := fun W hW => split_bad g ci si x0 a1 a3 w W hW.st.pt hW.st.ly (HE.out.below hW.bl) hx
            have HQ : Hid _ := And.intro hMb hSb
            clear hMb hSb hx hok hbg hbm hob hgl hml
            go_wp2_with (first
              | (go_at_call 9; refine Calls.mono (HCl.out.1 _ HCl.out.2.1) ?_; rintro r w3 ⟨u, rfl, hu3, hb3⟩; have z3 := cellu z1 hb3; have H3 : Hid (Hv w w3 g mk N ci si si.isM) := HCl.out.2.1.below hb3; clear hu3 hb3)
              | (go_at_call 10; refine Calls.mono (HQ.out.1 _ H3.out) ?_; rintro r w4 ⟨y4, rfl, hC4, hb4⟩; have z4 := cellu z3 hb4; obtain ⟨T4, v4, rfl⟩ := hC4.iface; have H4 : Hid (Hv w w4 g mk N ci si si.isM) := H3.out.below hb4; clear hC4 hb4)
              | (go_at_call 11; refine Calls.mono (HQ.out.2 _ H4.out) ?_; rintro r w5 ⟨y5, rfl, hC5, hb5⟩; have z5 := cellu z4 hb5; obtain ⟨T5, v5, rfl⟩ := hC5.iface; have H5 : Hid (Hv w w5 g mk N ci si si.isM) := H4.out.below hb5; clear hC5 hb5))
            go_roundg (L - (i + 1))
            case measure => omega
            case rel => exact ⟨i + 1, ci, si, by go_num, by omega, Nat.le_refl _, H5.out⟩
          · obtain ⟨b, rfl⟩ : ∃ b : Nat, x0 = b := ⟨x0.toNat, by omega⟩
            have hbn : b < si.nb := by omega
            have hMb : ∀ W, Hv w W g mk N ci si si.isM → Calls Tryd.prog 10 #[.pointer (some ⟨g, 0, none⟩), .int .i64 b] W fun r w' => ∃ u, r = .returned (.tuple #[u, .nilIface]) ∧ OwnI w' W.heap.size u (si.mem b) ∧ Below W.heap.size W w' := fun W hW => members_ok g ci si b w W hW.st.pt hW.st.ly hW.st.ok hbn
            have hSb : ∀ W, Hv w W g mk N ci si si.isM → Calls Tryd.prog 11 #[.pointer (some ⟨g, 0, none⟩), .int .i64 b] W fun r w' => r = .returned (.tuple #[.int .i64 (if si.splits b then si.nb else 0 : Nat), .bool (decide (si.splits b)), .nilIface]) ∧ ∃ c', Pt w w' g c' ∧ Lay c' (si.split b) ∧ Kept (fun i => i = g) W w' := fun W hW => split_any g ci si b w W hW.st.pt hW.st.ly hW.st.ok hbn
            have hso := split_ok hok hbn
            have hlen : 0 < (si.mem b).length := by rw [mem_len hok hbn]; have := hok.iv b hbn; omega
            by_cases hsp : si.splits b
            · rw [if_pos hsp, decide_eq_true hsp] at hSb
              have hnb := split_nb si b
              rw [if_pos hsp] at hnb
              obtain ⟨v, hv1, hv2, hs1, hs2, hs3, hs4⟩ := parted hok hbn hsp
              obtain ⟨M, hM⟩ : ∃ M, M = ((si.split b).mem si.nb).length := ⟨_, rfl⟩
              obtain ⟨R, hR⟩ : ∃ R, R = ((si.split b).mem b).length := ⟨_, rfl⟩
              rw [← hM] at hs1 hs2 hs3
              rw [← hR] at hs2 hs4
              obtain ⟨nb, hnbe⟩ : ∃ nb, nb = si.nb := ⟨_, rfl⟩
              rw [← hnbe] at hv1 hnb hM hSb
              have HV : Hid ((∀ e, e < si.n → (si.split b).O e = nb → si.isM e = v) ∧ (∀ e, e < si.n → (si.split b).O e = b → si.isM e = !v) ∧ M = ((si.split b).mem nb).length ∧ R = ((si.split b).mem b).length) := ⟨hv1, hv2, hM, hR⟩
              rw [hob] at hbg
              have hMm : ∀ (W : World) (c5 : Nat → Int), St8 w W g c5 (si.split b) → Calls Tryd.prog 10 #[.pointer (some ⟨g, 0, none⟩), .int .i64 nb] W fun r w' => ∃ u, r = .returned (.tuple #[u, .nilIface]) ∧ OwnI w' W.heap.size u ((si.split b).mem nb) ∧ Below W.heap.size W w' := fun W c5 hW => members_ok g c5 (si.split b) nb w W hW.pt hW.ly hW.ok (by rw [hnb]; omega)
              have hMr : ∀ (W : World) (c5 : Nat → Int), St8 w W g c5 (si.split b) → Calls Tryd.prog 10 #[.pointer (some ⟨g, 0, none⟩), .int .i64 b] W fun r w' => ∃ u, r = .returned (.tuple #[u, .nilIface]) ∧ OwnI w' W.heap.size u ((si.split b).mem b) ∧ Below W.heap.size W w' := fun W c5 hW => members_ok g c5 (si.split b) b w W hW.pt hW.ly hW.ok (by rw [hnb]; omega)
              have HMM : Hid _ := And.intro hMm (And.intro hMr (And.intro hs3 hs4))
              clear hv1 hv2 hM hR hnb hnbe hsp hMm hMr
              have HQ : Hid _ := And.intro hMb hSb
              have HP : Hid (b < si.nb ∧ si.Ok ∧ si.n = N ∧ 0 < (si.mem b).length ∧ (si.split b).Ok ∧ (si.split b).n = si.n ∧ ∀ y, y < si.n → (si.split b).isM y = (si.isM y && decide (si.O y ≠ b))) := ⟨hbn, hok, hsn, hlen, hso.1, hso.2.1, hso.2.2.2.2⟩
              obtain ⟨cls, hcls⟩ : ∃ cls, cls = natI (Sy.canon si.own) := ⟨_, rfl⟩
              rw [← hcls] at HCl
              have HK : Hid (cls = natI (Sy.canon si.own)) := hcls
              obtain ⟨K, hKl⟩ : ∃ K, K = (si.mem b).length := ⟨_, rfl⟩
              have HKl : Hid (K = (si.mem b).length) := hKl
              have hK0 : 0 < K := by omega
              have hK1 : K ≤ 60 := by
                have h5 := mem_len hok hbn
                have h6 := hok.iv b hbn
                omega
              rw [← hKl] at hs1 hs2
              have r1 : IntKind.i64.wrap (2 * (M : Int)) = 2 * (M : Int) := by rw [IntKind.wrap_i64]; omega
              have r2 : ¬ (K : Int) < 2 * (M : Int) := by omega
              have r2' : decide ((K : Int) < 2 * (M : Int)) = false := decide_eq_false r2
              have r3 : IntKind.i64.wrap ((M : Int) + (R : Int)) = (K : Int) := by rw [IntKind.wrap_i64]; omega
              have r3' : (M : Int) + (R : Int) = (K : Int) := by omega
              have r4 : ¬ (M : Int) = 0 := by omega
              have r5 : ¬ M = 0 := by omega
              have r6 : (((M : Nat) : Int) == 0) = false := by simpa using r4
              have r7 : M ≤ 60 := by omega
              have r8 : R ≤ 60 := by omega
              clear hMb hSb hx hok hso hcls hlen hKl hbn hsn hs1 hs2 hs3 hs4
              go_wp2_with (first
                | (go_at_call 9; refine Calls.mono (HCl.out.1 _ HCl.out.2.1) ?_; rintro r w3 ⟨u, rfl, hu3, hb3⟩; have z3 := cellu z1 hb3; have H3 : Hid (Hv w w3 g mk N ci si si.isM ∧ HasI w3 u cls ∧ (∀ q, u.ownBlock = some q → ob < q) ∧ ob < w3.heap.size) := ⟨HCl.out.2.1.below hb3, hu3.has, fun q hq => by have h7 := (hu3.lt q hq).1; rw [HCl.out.2.2] at h7; omega, by have h7 := hb3.size; rw [HCl.out.2.2] at h7; omega⟩; clear hu3 hb3)
                | (go_at_call_of 10 (Value.int .i64 (nb : Int)); refine Calls.mono (HMM.out.1 _ _ H5.out.1.st) ?_; rintro r w6 ⟨u6, rfl, hu6, hb6⟩; have z6 := cellu z5 hb6; obtain ⟨gm, cpm, hu6e, hr6, hg6⟩ := row_of hu6 (by rw [← HV.out.2.2.1]; exact HMM.out.2.2.1); rw [← HV.out.2.2.1] at hu6e; subst hu6e; have H6 : Hid (Hv w w6 g mk N c5 (si.split b) si.isM ∧ RowI w6 gl (si.mem b) ∧ RowI w6 gm ((si.split b).mem nb)) := ⟨H5.out.1.below hb6, H5.out.2.2.below hb6, hr6⟩; clear hu6 hb6 hr6 hg6)
                | (go_at_call 10; refine Calls.mono (HQ.out.1 _ H3.out.1) ?_; rintro r w4 ⟨u4, rfl, hu4, hb4⟩; have z4 := cellu z3 hb4; obtain ⟨gl, cp, hu4e, hr4, hg4⟩ := row_of hu4 HP.out.2.2.2.1; rw [← HKl.out] at hu4e; subst hu4e; have H4 : Hid (Hv w w4 g mk N ci si si.isM ∧ HasI w4 u cls ∧ RowI w4 gl (si.mem b) ∧ ob < gl) := ⟨H3.out.1.below hb4, H3.out.2.1.below hb4, hr4, by have := H3.out.2.2.2; omega⟩; clear hu4 hb4 hr4 hg4)
                | (go_at_call 11; refine Calls.mono (HQ.out.2 _ H4.out.1) ?_; rintro r w5 ⟨rfl, c5, hP5, hL5, hK5⟩; have z5 := cellk z4 hK5 hbg; have H5 : Hid (Hv w w5 g mk N c5 (si.split b) si.isM ∧ HasI w5 u cls ∧ RowI w5 gl (si.mem b)) := ⟨H4.out.1.turn ⟨hP5, hL5, HP.out.2.2.2.2.1⟩ HP.out.2.2.2.2.2.1 hK5, H4.out.2.1.kept hK5 fun _ q hq => by have := H3.out.2.2.1 q hq; omega, H4.out.2.2.1.kept hK5 (by have := H4.out.2.2.2; omega)⟩; clear hP5 hL5 hK5)
                | (go_at_call 10; refine Calls.mono (HMM.out.2.1 _ _ H6.out.1.st) ?_; rintro r w7 ⟨u7, rfl, hu7, hb7⟩; have z7 := cellu z6 hb7; obtain ⟨gr, cpr, hu7e, hr7, hg7⟩ := row_of hu7 (by rw [← HV.out.2.2.2]; exact HMM.out.2.2.2); rw [← HV.out.2.2.2] at hu7e; subst hu7e; have H7 : Hid (Hv w w7 g mk N c5 (si.split b) si.isM ∧ RowI w7 gl (si.mem b) ∧ RowI w7 gm ((si.split b).mem nb) ∧ RowI w7 gr ((si.split b).mem b)) := ⟨H6.out.1.below hb7, H6.out.2.1.below hb7, H6.out.2.2.below hb7, hr7⟩; clear hu7 hb7 hr7 hg7))
              go_loopg [191] M (fun q kv wr => ∃ (j : Nat), kv = .int .i64 j ∧ j ≤ M ∧ M - j ≤ q ∧ Below w7.heap.size w7 wr)
              case atStart => exact ⟨0, rfl, Nat.zero_le _, Nat.le_refl _, Below.refl _ _⟩
              case round =>
                obtain ⟨j, rfl, hj, hqj, hbj⟩ := hrel
                by_cases hjK : j < M
                · have p3 : (j : Int) < (M : Int) := by omega
                  have p4 : (0 : Int) ≤ (j : Int) := by omega
                  obtain ⟨z, hz⟩ : ∃ z, ((si.split b).mem nb)[j]? = some z := ⟨_, List.getElem?_eq_getElem (by have := HV.out.2.2.1; omega)⟩
                  obtain ⟨e, he, hoe, rfl⟩ := mem_mem.1 (List.mem_of_getElem? hz)
                  obtain ⟨z', hz'⟩ : ∃ z, ((si.split b).mem nb)[0]? = some z := ⟨_, List.getElem?_eq_getElem (by have := HV.out.2.2.1; omega)⟩
                  obtain ⟨e', he', hoe', rfl⟩ := mem_mem.1 (List.mem_of_getElem? hz')
                  rw [HP.out.2.2.2.2.2.1] at he he'
                  have heN : e < N := by have := HP.out.2.2.1; omega
                  have heN' : e' < N := by have := HP.out.2.2.1; omega
                  have t1 := cellu (H7.out.2.2.1 j _ hz) hbj
                  have t0 := cellu (H7.out.2.2.1 0 _ hz') hbj
                  have t2 := (H7.out.1.below hbj).cell heN
                  rw [HV.out.1 e he hoe] at t2
                  have t4 := (H7.out.1.below hbj).cell heN'
                  rw [HV.out.1 e' he' hoe'] at t4
                  have e0 : (0 : Int) ≤ (e : Int) := by omega
                  have e1 : (e : Int) < (N : Int) := by omega
                  have e2 : (0 : Int) ≤ (e' : Int) := by omega
                  have e3 : (e' : Int) < (N : Int) := by omega
                  have e4 : 0 < M := by omega
                  have HB : Hid (Below w7.heap.size w7 wr) := hbj
                  clear hz hz' he he' hoe hoe' hbj
                  cases v
                  · go_wp2_with fail
                    go_region_held3 (fun w' => (w'.cell? ⟨mk, e, none⟩ = some (.bool false) ∧ w'.cell? ⟨gm, 0, none⟩ = some (.int .i64 e') ∧ w'.cell? ⟨mk, e', none⟩ = some (.bool false)) ∧ Hid (Below wr.heap.size wr w')) (first | exact ⟨⟨t2, t0, t4⟩, ((Below.refl _ _).drew : Below wr.heap.size wr wr.drew)⟩ | go_keep)
                      ((first | fail | fail))
                    go_wp2_with fail
                    go_roundg (M - (j + 1))
                    case measure => omega
                    case rel => exact ⟨j + 1, by go_num, by omega, Nat.le_refl _, HB.out.trans (Below.mono ((Below.refl _ _).drew) HB.out.size)⟩
                  · go_wp2_with fail
                    go_region_held3 (fun w' => (w'.cell? ⟨mk, e, none⟩ = some (.bool true) ∧ w'.cell? ⟨gm, 0, none⟩ = some (.int .i64 e') ∧ w'.cell? ⟨mk, e', none⟩ = some (.bool true)) ∧ Hid (Below wr.heap.size wr w')) (first | exact ⟨⟨t2, t0, t4⟩, ((Below.refl _ _).drew : Below wr.heap.size wr wr.drew)⟩ | go_keep)
                      ((first | fail | fail))
                    go_wp2_with fail
                    go_roundg (M - (j + 1))
                    case measure => omega
                    case rel => exact ⟨j + 1, by go_num, by omega, Nat.le_refl _, HB.out.trans (Below.mono ((Below.refl _ _).drew) HB.out.size)⟩
                · have p3 : ¬ (j : Int) < (M : Int) := by omega
                  obtain ⟨wa, hwa⟩ : ∃ wa, wa = wr := ⟨_, rfl⟩
                  subst hwa
                  have HBwa : Hid (Below w7.heap.size w7 wa) := hbj
                  clear hbj
                  go_wp2_with fail
                  go_loopg [209] R (fun q kv wr => ∃ (j : Nat), kv = .int .i64 j ∧ j ≤ R ∧ R - j ≤ q ∧ Below w7.heap.size w7 wr)
                  case atStart => exact ⟨0, rfl, Nat.zero_le _, Nat.le_refl _, HBwa.out⟩
                  case round =>
                    obtain ⟨j, rfl, hj, hqj, hbj⟩ := hrel
                    by_cases hjK : j < R
                    · have p3 : (j : Int) < (R : Int) := by omega
                      have p4 : (0 : Int) ≤ (j : Int) := by omega
                      obtain ⟨z, hz⟩ : ∃ z, ((si.split b).mem b)[j]? = some z := ⟨_, List.getElem?_eq_getElem (by have := HV.out.2.2.2; omega)⟩
                      obtain ⟨e, he, hoe, rfl⟩ := mem_mem.1 (List.mem_of_getElem? hz)
                      obtain ⟨z', hz'⟩ : ∃ z, ((si.split b).mem nb)[0]? = some z := ⟨_, List.getElem?_eq_getElem (by have := HV.out.2.2.1; omega)⟩
                      obtain ⟨e', he', hoe', rfl⟩ := mem_mem.1 (List.mem_of_getElem? hz')
                      rw [HP.out.2.2.2.2.2.1] at he he'
                      have heN : e < N := by have := HP.out.2.2.1; omega
                      have heN' : e' < N := by have := HP.out.2.2.1; omega
                      have t1 := cellu (H7.out.2.2.2 j _ hz) hbj
                      have t0 := cellu (H7.out.2.2.1 0 _ hz') hbj
                      have t2 := (H7.out.1.below hbj).cell heN
                      rw [HV.out.2.1 e he hoe] at t2
                      have t4 := (H7.out.1.below hbj).cell heN'
                      rw [HV.out.1 e' he' hoe'] at t4
                      have e0 : (0 : Int) ≤ (e : Int) := by omega
                      have e1 : (e : Int) < (N : Int) := by omega
                      have e2 : (0 : Int) ≤ (e' : Int) := by omega
                      have e3 : (e' : Int) < (N : Int) := by omega
                      have e4 : 0 < M := by omega
                      have HB : Hid (Below w7.heap.size w7 wr) := hbj
                      clear hz hz' he he' hoe hoe' hbj
                      cases v
                      · simp only [Bool.not_false] at t2
                        go_wp2_with fail
                        go_region_held3 (fun w' => (w'.cell? ⟨mk, e, none⟩ = some (.bool true) ∧ w'.cell? ⟨gm, 0, none⟩ = some (.int .i64 e') ∧ w'.cell? ⟨mk, e', none⟩ = some (.bool false)) ∧ Hid (Below wr.heap.size wr w')) (first | exact ⟨⟨t2, t0, t4⟩, ((Below.refl _ _).drew : Below wr.heap.size wr wr.drew)⟩ | go_keep)
                          ((first | fail | fail))
                        go_wp2_with fail
                        go_roundg (R - (j + 1))
                        case measure => omega
                        case rel => exact ⟨j + 1, by go_num, by omega, Nat.le_refl _, HB.out.trans (Below.mono ((Below.refl _ _).drew) HB.out.size)⟩
                      · simp only [Bool.not_true] at t2
                        go_wp2_with fail
                        go_region_held3 (fun w' => (w'.cell? ⟨mk, e, none⟩ = some (.bool false) ∧ w'.cell? ⟨gm, 0, none⟩ = some (.int .i64 e') ∧ w'.cell? ⟨mk, e', none⟩ = some (.bool true)) ∧ Hid (Below wr.heap.size wr w')) (first | exact ⟨⟨t2, t0, t4⟩, ((Below.refl _ _).drew : Below wr.heap.size wr wr.drew)⟩ | go_keep)
                          ((first | fail | fail))
                        go_wp2_with fail
                        go_roundg (R - (j + 1))
                        case measure => omega
                        case rel => exact ⟨j + 1, by go_num, by omega, Nat.le_refl _, HB.out.trans (Below.mono ((Below.refl _ _).drew) HB.out.size)⟩
                    · have p3 : ¬ (j : Int) < (R : Int) := by omega
                      obtain ⟨wb, hwb⟩ : ∃ wb, wb = wr := ⟨_, rfl⟩
                      subst hwb
                      have HBwb : Hid (Below w7.heap.size w7 wb) := hbj
                      clear hbj
                      go_wp2_with fail
                      go_loopg [227] K (fun q kv wr => ∃ (j : Nat) (bs : Nat → Bool), kv = .int .i64 j ∧ j ≤ K ∧ K - j ≤ q ∧ Hv w wr g mk N c5 (si.split b) bs ∧ (∀ e, e < N → si.O e ≠ b → bs e = si.isM e) ∧ (∀ (i2 e : Nat), (si.mem b)[i2]? = some (e : Int) → bs e = if i2 < j then false else si.isM e) ∧ Kept (fun q => q = mk) wb wr)
                      case atStart => exact ⟨0, si.isM, rfl, Nat.zero_le _, Nat.le_refl _, H7.out.1.below HBwb.out, fun _ _ _ => rfl, fun i2 e h => by rw [if_neg (by omega)], Kept.refl _ _⟩
                      case round =>
                        obtain ⟨j, bs, rfl, hj, hqj, hvj, hb1, hb2, hkj⟩ := hrel
                        by_cases hjK : j < K
                        · have p3 : (j : Int) < (K : Int) := by omega
                          have p4 : (0 : Int) ≤ (j : Int) := by omega
                          obtain ⟨z, hz⟩ : ∃ z, (si.mem b)[j]? = some z := ⟨_, List.getElem?_eq_getElem (by have := HKl.out; omega)⟩
                          obtain ⟨e, he, hoe, rfl⟩ := mem_mem.1 (List.mem_of_getElem? hz)
                          have heN : e < N := by have := HP.out.2.2.1; omega
                          have t1 := cellk (cellu (H7.out.2.1 j _ hz) HBwb.out) hkj (by have := H4.out.2.2.2; omega)
                          have t2 := hvj.cell heN
                          have t3 := hvj.mb.free e
                          have e0 : (0 : Int) ≤ (e : Int) := by omega
                          have e1 : (e : Int) < (N : Int) := by omega
                          have HR : Hid (Hv w wr g mk N c5 (si.split b) bs ∧ (∀ e, e < N → si.O e ≠ b → bs e = si.isM e) ∧ (∀ (i2 e : Nat), (si.mem b)[i2]? = some (e : Int) → bs e = if i2 < j then false else si.isM e) ∧ Kept (fun q => q = mk) wb wr ∧ (si.mem b)[j]? = some (e : Int) ∧ si.O e = b) := ⟨hvj, hb1, hb2, hkj, hz, hoe⟩
                          clear hvj hb1 hb2 hkj hz he hoe
                          generalize bs e = be at t2
                          go_wp2_with fail
                          go_roundg (K - (j + 1))
                          case measure => omega
                          case rel =>
                            have hbs : (∀ y, y < N → si.O y ≠ b → upd bs e false y = si.isM y) ∧ (∀ (i2 y : Nat), (si.mem b)[i2]? = some (y : Int) → upd bs e false y = if i2 < j + 1 then false else si.isM y) := by
                              refine ⟨fun y hy ho => ?_, fun i2 y hy => ?_⟩
                              · have hne : y ≠ e := fun h => ho (by rw [h]; exact HR.out.2.2.2.2.2)
                                rw [upd_ne _ _ hne]; exact HR.out.2.1 y hy ho
                              · by_cases hye : y = e
                                · subst hye
                                  have hij : i2 = j := by
                                    obtain ⟨l1, m1⟩ := List.getElem?_eq_some_iff.1 hy
                                    obtain ⟨l2, m2⟩ := List.getElem?_eq_some_iff.1 HR.out.2.2.2.2.1
                                    rcases Nat.lt_trichotomy i2 j with h | h | h
                                    · have h3 := List.pairwise_iff_getElem.1 (mem_rise si b) i2 j l1 l2 h
                                      rw [m1, m2] at h3; omega
                                    · exact h
                                    · have h3 := List.pairwise_iff_getElem.1 (mem_rise si b) j i2 l2 l1 h
                                      rw [m1, m2] at h3; omega
                                  rw [upd_same, if_pos (by omega)]
                                · rw [upd_ne _ _ hye, HR.out.2.2.1 i2 y hy]
                                  have hij : i2 ≠ j := fun h => by
                                    rw [h, HR.out.2.2.2.2.1] at hy
                                    have := Option.some.inj hy
                                    omega
                                  by_cases h : i2 < j
                                  · rw [if_pos h, if_pos (by omega)]
                                  · rw [if_neg h, if_neg (by omega)]
                            exact ⟨j + 1, _, by go_num, by omega, Nat.le_refl _, HR.out.1.set e false, hbs.1, hbs.2, HR.out.2.2.2.1.trans (Kept.setCell _ _ _ _)⟩
                        · have p3 : ¬ (j : Int) < (K : Int) := by omega
                          have hjK' : j = K := by omega
                          subst hjK'
                          have hfin : Hv w wr g mk N c5 (si.split b) (si.split b).isM := hvj.congr fun y hy => by
                            have hyn : y < si.n := by rw [HP.out.2.2.1]; exact hy
                            rw [HP.out.2.2.2.2.2.2 y hyn]
                            by_cases ho : si.O y = b
                            · obtain ⟨i2, hi2⟩ := List.getElem?_of_mem (mem_mem.2 ⟨y, hyn, ho, rfl⟩)
                              have hlt : i2 < j := by rw [HKl.out]; exact (List.getElem?_eq_some_iff.1 hi2).1
                              rw [hb2 i2 y hi2, if_pos hlt]
                              simp [ho]
                            · rw [hb1 y hy ho]; simp [ho]
                          have HF : Hid (Hv w wr g mk N c5 (si.split b) (si.split b).isM) := hfin
                          clear hfin hvj hb1 hb2 hkj
                          go_wp2_with fail
                          go_roundg (L - (i + 1))
                          case measure => omega
                          case rel => exact ⟨i + 1, c5, si.split b, by go_num, by omega, Nat.le_refl _, HF.out⟩
            · rw [if_neg hsp, decide_eq_false hsp] at hSb
              obtain ⟨v, hv⟩ := alike hok hbn hsp
              have HV : Hid ((∀ e, e < si.n → si.O e = b → si.isM e = v) ∧ (si.split b).O = si.O) := ⟨hv, clear_O si b hsp⟩
              clear hv hsp
              rw [hob] at hbg
              have HQ : Hid _ := And.intro hMb hSb
              have HP : Hid (b < si.nb ∧ si.Ok ∧ si.n = N ∧ 0 < (si.mem b).length ∧ (si.split b).Ok ∧ (si.split b).n = si.n ∧ ∀ y, y < si.n → (si.split b).isM y = (si.isM y && decide (si.O y ≠ b))) := ⟨hbn, hok, hsn, hlen, hso.1, hso.2.1, hso.2.2.2.2⟩
              obtain ⟨cls, hcls⟩ : ∃ cls, cls = natI (Sy.canon si.own) := ⟨_, rfl⟩
              rw [← hcls] at HCl
              have HK : Hid (cls = natI (Sy.canon si.own)) := hcls
              obtain ⟨K, hKl⟩ : ∃ K, K = (si.mem b).length := ⟨_, rfl⟩
              have HKl : Hid (K = (si.mem b).length) := hKl
              have hK0 : 0 < K := by omega
              have hK1 : K ≤ 60 := by
                have h5 := mem_len hok hbn
                have h6 := hok.iv b hbn
                omega
              clear hMb hSb hx hok hso hcls hlen hKl hbn hsn
              go_wp2_with (first
                | (go_at_call 9; refine Calls.mono (HCl.out.1 _ HCl.out.2.1) ?_; rintro r w3 ⟨u, rfl, hu3, hb3⟩; have z3 := cellu z1 hb3; have H3 : Hid (Hv w w3 g mk N ci si si.isM ∧ HasI w3 u cls ∧ (∀ q, u.ownBlock = some q → ob < q) ∧ ob < w3.heap.size) := ⟨HCl.out.2.1.below hb3, hu3.has, fun q hq => by have h7 := (hu3.lt q hq).1; rw [HCl.out.2.2] at h7; omega, by have h7 := hb3.size; rw [HCl.out.2.2] at h7; omega⟩; clear hu3 hb3)
                | (go_at_call 10; refine Calls.mono (HQ.out.1 _ H3.out.1) ?_; rintro r w4 ⟨u4, rfl, hu4, hb4⟩; have z4 := cellu z3 hb4; obtain ⟨gl, cp, hu4e, hr4, hg4⟩ := row_of hu4 HP.out.2.2.2.1; rw [← HKl.out] at hu4e; subst hu4e; have H4 : Hid (Hv w w4 g mk N ci si si.isM ∧ HasI w4 u cls ∧ RowI w4 gl (si.mem b) ∧ ob < gl) := ⟨H3.out.1.below hb4, H3.out.2.1.below hb4, hr4, by have := H3.out.2.2.2; omega⟩; clear hu4 hb4 hr4 hg4)
                | (go_at_call 11; refine Calls.mono (HQ.out.2 _ H4.out.1) ?_; rintro r w5 ⟨rfl, c5, hP5, hL5, hK5⟩; have z5 := cellk z4 hK5 hbg; have H5 : Hid (Hv w w5 g mk N c5 (si.split b) si.isM ∧ HasI w5 u cls ∧ RowI w5 gl (si.mem b)) := ⟨H4.out.1.turn ⟨hP5, hL5, HP.out.2.2.2.2.1⟩ HP.out.2.2.2.2.2.1 hK5, H4.out.2.1.kept hK5 fun _ q hq => by have := H3.out.2.2.1 q hq; omega, H4.out.2.2.1.kept hK5 (by have := H4.out.2.2.2; omega)⟩; clear hP5 hL5 hK5))
              obtain ⟨gm, hgm⟩ : ∃ gm, gm = ob := ⟨_, rfl⟩
              go_loopg [18, 19, 115] K (fun q sv av kv wr => ∃ (j : Nat) (sm al : Bool) (bs : Nat → Bool), sv = .bool sm ∧ av = .bool al ∧ kv = .int .i64 j ∧ j ≤ K ∧ K - j ≤ q ∧ ((j = 0 ∧ sm = false ∧ al = true) ∨ (0 < j ∧ sm = v ∧ al = v)) ∧ Hv w wr g mk N c5 (si.split b) bs ∧ (∀ e, e < N → si.O e ≠ b → bs e = si.isM e) ∧ (∀ (i2 e : Nat), (si.mem b)[i2]? = some (e : Int) → bs e = if i2 < j then false else si.isM e) ∧ Kept (fun q => q = mk) w5 wr)
              case atStart => exact ⟨0, false, true, si.isM, rfl, rfl, rfl, Nat.zero_le _, Nat.le_refl _, .inl ⟨rfl, rfl, rfl⟩, H5.out.1, fun _ _ _ => rfl, fun i2 e h => by rw [if_neg (by omega)], Kept.refl _ _⟩
              case round =>
                obtain ⟨j, sm, al, bs, rfl, rfl, rfl, hj, hqj, hsa, hvj, hb1, hb2, hkj⟩ := hrel
                by_cases hjK : j < K
                · have p3 : (j : Int) < (K : Int) := by omega
                  have p4 : (0 : Int) ≤ (j : Int) := by omega
                  obtain ⟨z, hz⟩ : ∃ z, (si.mem b)[j]? = some z := ⟨_, List.getElem?_eq_getElem (by have := HKl.out; omega)⟩
                  obtain ⟨e, he, hoe, rfl⟩ := mem_mem.1 (List.mem_of_getElem? hz)
                  have heN : e < N := by have := HP.out.2.2.1; omega
                  have t1 := cellk (H5.out.2.2 j _ hz) hkj (by have := H4.out.2.2.2; omega)
                  have t2 := hvj.cell heN
                  rw [hb2 j e hz, if_neg (by omega), HV.out.1 e he hoe] at t2
                  have t3 := hvj.mb.free e
                  have e0 : (0 : Int) ≤ (e : Int) := by omega
                  have e1 : (e : Int) < (N : Int) := by omega
                  have HR : Hid (Hv w wr g mk N c5 (si.split b) bs ∧ (∀ e, e < N → si.O e ≠ b → bs e = si.isM e) ∧ (∀ (i2 e : Nat), (si.mem b)[i2]? = some (e : Int) → bs e = if i2 < j then false else si.isM e) ∧ Kept (fun q => q = mk) w5 wr ∧ (si.mem b)[j]? = some (e : Int) ∧ si.O e = b) := ⟨hvj, hb1, hb2, hkj, hz, hoe⟩
                  have hnew : ∀ (wz : World), wz = (wr.drew.setCell ⟨mk, e, none⟩ (.bool false)) ∨ wz = (wr.setCell ⟨mk, e, none⟩ (.bool false)).drew → ∃ bs', Hv w wz g mk N c5 (si.split b) bs' ∧ (∀ e, e < N → si.O e ≠ b → bs' e = si.isM e) ∧ (∀ (i2 e : Nat), (si.mem b)[i2]? = some (e : Int) → bs' e = if i2 < j + 1 then false else si.isM e) ∧ Kept (fun q => q = mk) w5 wz := by
                    intro wz hwz
                    have hbs : (∀ y, y < N → si.O y ≠ b → upd bs e false y = si.isM y) ∧ (∀ (i2 y : Nat), (si.mem b)[i2]? = some (y : Int) → upd bs e false y = if i2 < j + 1 then false else si.isM y) := by
                      refine ⟨fun y hy ho => ?_, fun i2 y hy => ?_⟩
                      · have hne : y ≠ e := fun h => ho (by rw [h]; exact HR.out.2.2.2.2.2)
                        rw [upd_ne _ _ hne]; exact HR.out.2.1 y hy ho
                      · by_cases hye : y = e
                        · subst hye
                          have hij : i2 = j := by
                            obtain ⟨l1, m1⟩ := List.getElem?_eq_some_iff.1 hy
                            obtain ⟨l2, m2⟩ := List.getElem?_eq_some_iff.1 HR.out.2.2.2.2.1
                            rcases Nat.lt_trichotomy i2 j with h | h | h
                            · have h3 := List.pairwise_iff_getElem.1 (mem_rise si b) i2 j l1 l2 h
                              rw [m1, m2] at h3; omega
                            · exact h
                            · have h3 := List.pairwise_iff_getElem.1 (mem_rise si b) j i2 l2 l1 h
                              rw [m1, m2] at h3; omega
                          rw [upd_same, if_pos (by omega)]
                        · rw [upd_ne _ _ hye, HR.out.2.2.1 i2 y hy]
                          have hij : i2 ≠ j := fun h => by
                            rw [h, HR.out.2.2.2.2.1] at hy
                            have := Option.some.inj hy
                            omega
                          by_cases h : i2 < j
                          · rw [if_pos h, if_pos (by omega)]
                          · rw [if_neg h, if_neg (by omega)]
                    rcases hwz with rfl | rfl
                    · exact ⟨_, (HR.out.1.below (Below.refl _ _).drew).set e false, hbs.1, hbs.2, (HR.out.2.2.2.1.trans (Kept.of_below (Below.refl _ _).drew)).trans (Kept.setCell _ _ _ _)⟩
                    · exact ⟨_, (HR.out.1.set e false).below (Below.refl _ _).drew, hbs.1, hbs.2, (HR.out.2.2.2.1.trans (Kept.setCell _ _ _ _)).trans (Kept.of_below (Below.refl _ _).drew)⟩
                  have HNW : Hid _ := And.intro hnew trivial
                  clear hvj hb1 hb2 hkj hz he hoe hnew
                  rcases hsa with ⟨hj0, rfl, rfl⟩ | ⟨hj0, rfl, rfl⟩
                  · have HJ0 : Hid (j = 0) := hj0
                    clear hj0
                    go_wp2_with fail
                    go_region
                    all_goals go_wp2_with fail
                    all_goals
                      go_roundg (K - (j + 1))
                      case measure => omega
                      case rel =>
                        obtain ⟨bs', q1, q2, q3, q4⟩ := HNW.out.1 _ (by first | exact .inl rfl | exact .inr rfl)
                        exact ⟨j + 1, v, v, bs', rfl, rfl, by go_num, by omega, Nat.le_refl _, .inr ⟨by omega, rfl, rfl⟩, q1, q2, q3, q4⟩
                  · cases al
                    · go_wp2_with fail
                      go_region
                      all_goals go_wp2_with fail
                      all_goals
                        go_roundg (K - (j + 1))
                        case measure => omega
                        case rel =>
                          obtain ⟨bs', q1, q2, q3, q4⟩ := HNW.out.1 _ (by first | exact .inl rfl | exact .inr rfl)
                          exact ⟨j + 1, false, false, bs', rfl, rfl, by go_num, by omega, Nat.le_refl _, .inr ⟨by omega, rfl, rfl⟩, q1, q2, q3, q4⟩
                    · go_wp2_with fail
                      go_region
                      all_goals go_wp2_with fail
                      all_goals
                        go_roundg (K - (j + 1))
                        case measure => omega
                        case rel =>
                          obtain ⟨bs', q1, q2, q3, q4⟩ := HNW.out.1 _ (by first | exact .inl rfl | exact .inr rfl)
                          exact ⟨j + 1, true, true, bs', rfl, rfl, by go_num, by omega, Nat.le_refl _, .inr ⟨by omega, rfl, rfl⟩, q1, q2, q3, q4⟩
                · have p3 : ¬ (j : Int) < (K : Int) := by omega
                  have hjK' : j = K := by omega
                  subst hjK'
                  rcases hsa with ⟨h, _⟩ | ⟨_, rfl, rfl⟩
                  · omega
                  · have hfin : Hv w wr g mk N c5 (si.split b) (si.split b).isM := hvj.congr fun y hy => by
                      have hyn : y < si.n := by rw [HP.out.2.2.1]; exact hy
                      rw [HP.out.2.2.2.2.2.2 y hyn]
                      by_cases ho : si.O y = b
                      · obtain ⟨i2, hi2⟩ := List.getElem?_of_mem (mem_mem.2 ⟨y, hyn, ho, rfl⟩)
                        have hlt : i2 < j := by rw [HKl.out]; exact (List.getElem?_eq_some_iff.1 hi2).1
                        rw [hb2 i2 y hi2, if_pos hlt]
                        simp [ho]
                      · rw [hb1 y hy ho]; simp [ho]
                    have hown : (si.split b).own = si.own := by
                      unfold Pst.own
                      rw [HV.out.2, HP.out.2.2.2.2.2.1]
                    have hCl2 : Calls Tryd.prog 9 #[.pointer (some ⟨g, 0, none⟩)] wr fun r w' => ∃ u', r = .returned u' ∧ OwnI w' wr.heap.size u' cls ∧ Below wr.heap.size wr w' := by
                      have h := classes_any g c5 (si.split b) w wr hfin.st.pt hfin.st.ly hfin.st.ok (by rw [hfin.sn]; omega)
                      rw [hown, ← HK.out] at h
                      exact h
                    have hu := H5.out.2.1.kept hkj fun _ q hq => by have := H3.out.2.2.1 q hq; omega
                    have hcl : cls.length ≤ 1000000000000000 := by
                      rw [HK.out]
                      have : (natI (Sy.canon si.own)).length = si.n := by simp [natI, Sy.canon, Sy.canonG_len, own_len]
                      rw [this, HP.out.2.2.1]; omega
                    have HF : Hid _ := And.intro hfin (And.intro hCl2 (And.intro hu hcl))
                    clear hfin hown hCl2 hu hcl hvj hb1 hb2 hkj
                    cases al
                    · go_wp2_with (first
                        | (go_at_call 9; refine Calls.mono HF.out.2.1 ?_; rintro r w8 ⟨u8, rfl, hu8, hb8⟩; have hS8 := sameInts_b u u8 cls cls w8 HF.out.2.2.2 HF.out.2.2.2 (HF.out.2.2.1.below hb8) hu8.has; rw [beq_self_eq_true] at hS8; have H8 : Hid _ := And.intro hS8 (HF.out.1.below hb8); clear hu8 hb8 hS8)
                        | (go_at_call 12; refine Calls.mono H8.out.1 ?_; rintro r w9 ⟨rfl, hb9⟩; have H9 : Hid (Hv w w9 g mk N c5 (si.split b) (si.split b).isM) := H8.out.2.below hb9; clear hb9))
                      go_roundg (L - (i + 1))
                      case measure => omega
                      case rel => exact ⟨i + 1, c5, si.split b, by go_num, by omega, Nat.le_refl _, H9.out⟩
                    · go_wp2_with (first
                        | (go_at_call 9; refine Calls.mono HF.out.2.1 ?_; rintro r w8 ⟨u8, rfl, hu8, hb8⟩; have hS8 := sameInts_b u u8 cls cls w8 HF.out.2.2.2 HF.out.2.2.2 (HF.out.2.2.1.below hb8) hu8.has; rw [beq_self_eq_true] at hS8; have H8 : Hid _ := And.intro hS8 (HF.out.1.below hb8); clear hu8 hb8 hS8)
                        | (go_at_call 12; refine Calls.mono H8.out.1 ?_; rintro r w9 ⟨rfl, hb9⟩; have H9 : Hid (Hv w w9 g mk N c5 (si.split b) (si.split b).isM) := H8.out.2.below hb9; clear hb9))
                      go_roundg (L - (i + 1))
                      case measure => omega
                      case rel => exact ⟨i + 1, c5, si.split b, by go_num, by omega, Nat.le_refl _, H9.out⟩
      · have p1 : ¬ (i : Int) < (L : Int) := by omega
        have HS : Hid (Below w.heap.size w wq) := hHv.bl
        clear hHv HC
        go_wp2_with (go_at_call 6; refine Calls.mono (HA.out _) ?_; rintro r w4 ⟨rfl, hb4⟩)
        go_ret
        exact ⟨rfl, HS.out.trans (hb4.mono HS.out.size)⟩
end Go.Proofs.YthfnikglcpoioaaDoor
