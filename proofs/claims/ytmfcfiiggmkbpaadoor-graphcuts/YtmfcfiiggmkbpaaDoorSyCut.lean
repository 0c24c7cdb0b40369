/- Contract of the document's Cut. -/
import Derived.Test.YtmfcfiiggmkbpaaDoorPart10
namespace Go.Proofs.YtmfcfiiggmkbpaaDoor
open Go.RowKit Go.Maps
attribute [local go_sem ↓] Go.wp_at_zero Go.wp_at_succ
set_option linter.unusedSimpArgs false in
set_option maxRecDepth 100000 in
set_option maxHeartbeats 8000000 in
theorem refCut_any (n : Nat) (k s : Int) (v : Value) (es : List Sy.Ed) (w : World) (hn : n ≤ 1000000) (hv : HasE w v es) (hm : es.length ≤ 100000) (hr : ∀ e ∈ es, (0 ≤ e.1 ∧ e.1 < (n : Int)) ∧ 0 ≤ e.2.2 ∧ e.2.2 < (n : Int)) (hs : 0 < n → 0 ≤ s ∧ s < (n : Int)) :
    Calls Tryd.prog 18 #[sysV n k s v] w fun r w' => ∃ (bs : List Bool) (u va : Value), r = .returned (.tuple #[sysV (bs.count true : Nat) k (Sy.startOf n bs s) u, va]) ∧ bs.length = n ∧ (∀ p : Nat, p < n → (bs[p]? = some true ↔ Sy.Rea es s p)) ∧ BEdges.Own w' w.heap.size u (Sy.cutE bs (Sy.nf es)) ∧ OwnI w' w.heap.size va (Sy.ranks bs) ∧ Below w.heap.size w w' := by
  obtain ⟨i0, hi0, hz0, hz1, hz2⟩ := info_parts BEdges.Tryd.infoE
  obtain ⟨w1, hw1⟩ : ∃ w1, w1 = (w.alloc (.cells #[.int .i64 n, .int .i64 k, .int .i64 s, v] 24)).alloc (.cells #[.int .i64 0, .int .i64 0, .int .i64 0, .slice none 0 0] 24) := ⟨_, rfl⟩
  have hb1 : Below w.heap.size w w1 := by rw [hw1]; exact ((Below.refl _ _).alloc (Nat.le_refl _) _).alloc (by simp) _
  have hg1 : w1.heap[w.heap.size + 1]? = some (.cells #[.int .i64 0, .int .i64 0, .int .i64 0, .slice none 0 0] 24 (0, 0)) := by rw [hw1]; exact two_alloc w _ _
  have hg0 : w1.heap[w.heap.size]? = some (.cells #[.int .i64 n, .int .i64 k, .int .i64 s, v] 24 (0, 0)) := by rw [hw1, Below.heap_alloc _ _ _ (by simp)]; exact heap_alloc_new w _
  have hR := refReach_any n k s v es w1 hn (hv.below hb1) hm hr hs
  have hv0 := hv
  obtain ⟨ao, cap, rfl, _⟩ := hv0
  obtain ⟨m, hmm⟩ : ∃ m, m = es.length := ⟨_, rfl⟩
  have HM : Hid (m = es.length) := hmm
  rw [← hmm] at hR hw1 hg0 hv hm ⊢
  unfold sysV at hR ⊢
  obtain ⟨x0, x1, x2, x3⟩ := four_cells hg0
  have H1 : Hid _ := And.intro hR (And.intro hw1 (And.intro hb1 (And.intro hg0 (And.intro hg1 hv))))
  have HS : Hid _ := And.intro hs hr
  clear hR hw1 hb1 hg0 hg1 hv hs hr hmm
  go_enter Tryd.func18, Tryd.ntmps18
  go_upto_region 1 with fail
  rw [← H1.out.2.1]
  go_wp2_with fail
  refine Calls.mono H1.out.1 ?_
  rintro r w2 ⟨gi, bs, rfl, hAi, hlb, hrea⟩
  have hmk := makeI n hn w2
  obtain ⟨w3, hw3⟩ : ∃ w3, w3 = w2.alloc (.cells (madeV (.int .i64 0) n) 3) := ⟨_, rfl⟩
  have hAa := arr_new 3 (.int .i64 0) rfl n w2
  rw [← hw3] at hAa hmk
  have hg2 := (hAi.bl.block _ (t_lt H1.out.2.2.2.1)).trans H1.out.2.2.2.1
  have hg3 := (hAi.bl.block _ (t_lt H1.out.2.2.2.2.1)).trans H1.out.2.2.2.2.1
  obtain ⟨ga, hga⟩ : ∃ ga, ga = w2.heap.size := ⟨_, rfl⟩
  have hb02 : Below w.heap.size w w2 := H1.out.2.2.1.trans (hAi.bl.mono H1.out.2.2.1.size)
  have hC : CutA w w3 n k s (.slice ao m cap) gi ga bs (iC (Sy.ranks (bs.take 0)) ++ List.replicate (n - 0) (.int .i64 0)) := by
    rw [hga]
    exact ⟨(hAa.bl.block _ (t_lt hg2)).trans hg2, (hAa.bl.block _ (t_lt hg3)).trans hg3, (hAi.back H1.out.2.2.1).below hAa.bl, hAa.back hb02⟩
  rw [← hga] at hmk
  clear x0 x1 x2 x3
  obtain ⟨x0, x1, x2, x3⟩ := four_cells hg2
  have HC : Hid _ := And.intro hC (And.intro hlb hrea)
  clear hC hlb hrea hAi hAa hw3 hg2 hg3 hga hb02
  go_wp2_with fail
  clear x0 x1 x2 x3
  go_loopg [6, 7] n (fun q cv iv wr => ∃ i : Nat, q = n - i ∧ i ≤ n ∧ iv = .int .i64 i ∧ cv = .int .i64 (((bs.take i).count true : Nat) : Int) ∧ CutA w wr n k s (.slice ao m cap) gi ga bs (iC (Sy.ranks (bs.take i)) ++ List.replicate (n - i) (.int .i64 0)))
  case atStart => exact ⟨0, rfl, Nat.zero_le _, rfl, by simp, HC.out.1⟩
  case round =>
    obtain ⟨i, rfl, hi, rfl, rfl, hC⟩ := hrel
    obtain ⟨x0, x1, x2, x3⟩ := four_cells hC.box
    obtain ⟨c, hc⟩ : ∃ c, c = (bs.take i).count true := ⟨_, rfl⟩
    have hcl : c ≤ n := by have := List.count_le_length (a := true) (l := bs.take i); rw [List.length_take] at this; have := HC.out.2.1; omega
    rw [← hc]
    by_cases hlt : i < n
    · have hlr : (Sy.ranks (bs.take i)).length = i := by rw [Sy.ranks_len, List.length_take]; have := HC.out.2.1; omega
      obtain ⟨b, hb⟩ : ∃ b, bs[i]? = some b := ⟨bs[i]'(by have := HC.out.2.1; omega), List.getElem?_eq_getElem _⟩
      have hxi : (iC (Sy.ranks (bs.take i)) ++ List.replicate (n - i) (Value.int .i64 0))[i]? = some (.int .i64 0) := by
        rw [List.getElem?_append_right (by rw [iC_length, hlr]; omega), iC_length, hlr, Nat.mul_one, Nat.sub_self, List.getElem?_replicate, if_pos (by omega)]
      have ca := hC.nums.cell hxi
      have cf := hC.nums.free i
      have cb := hC.inn.cell (bC_at hb)
      obtain ⟨e1, e2, e3⟩ := hC.ne
      have e4 : ¬ ga = gi := fun e => e3 e.symm
      have q0 : (0 : Int) ≤ (i : Int) := by omega
      have q1 : (i : Int) < (n : Int) := by omega
      have h1 := hC.set i (.int .i64 (-1))
      have h2 := h1.set i (.int .i64 (c : Int))
      rw [iC_rank_step (-1) hlr hlt] at h1
      rw [List.set_set, iC_rank_step (c : Int) hlr hlt] at h2
      have hrt := Sy.ranks_take hb
      have hct := Sy.count_take hb
      rw [← hc] at hrt hct
      have HX : Hid _ := And.intro h1 (And.intro h2 (And.intro hrt hct))
      clear h1 h2 hrt hct hC hxi hc hb hlr x1 x2 x3
      cases b with
      | false =>
        go_wp2_with fail
        go_roundg (n - (i + 1))
        case measure => omega
        case rel => exact ⟨i + 1, rfl, by omega, by go_num, by rw [HX.out.2.2.2]; simp, by rw [HX.out.2.2.1]; exact HX.out.1⟩
      | true =>
        go_wp2_with fail
        go_roundg (n - (i + 1))
        case measure => omega
        case rel => exact ⟨i + 1, rfl, by omega, by go_num, by rw [HX.out.2.2.2]; go_num, by rw [HX.out.2.2.1]; exact HX.out.2.1⟩
    · obtain rfl : i = n := by omega
      have q1 : ¬ (i : Int) < (i : Int) := by omega
      have hbt : bs.take i = bs := List.take_of_length_le (by have := HC.out.2.1; omega)
      rw [hbt] at hC hc
      rw [Nat.sub_self, List.replicate_zero, List.append_nil] at hC
      have HX : Hid _ := And.intro hC hc
      clear hC hc hbt
      go_upto_region 12 with fail
      obtain ⟨w4, hw4⟩ : ∃ w4, w4 = wr.alloc (.cells #[.int .i64 c, .int .i64 k, .int .i64 0, .slice none 0 0] 24) := ⟨_, rfl⟩
      rw [← hw4]
      have hb4 : Below wr.heap.size wr w4 := by rw [hw4]; exact (Below.refl _ _).alloc (Nat.le_refl _) _
      have hg4 : w4.heap[wr.heap.size]? = some (.cells #[.int .i64 c, .int .i64 k, .int .i64 0, .slice none 0 0] 24 (0, 0)) := by rw [hw4]; exact heap_alloc_new _ _
      obtain ⟨bt, hbte⟩ : ∃ bt, bt = wr.heap.size := ⟨_, rfl⟩
      have hbt : w.heap.size + 1 < bt := by have := t_lt HX.out.1.res; omega
      rw [← hbte] at hg4 ⊢
      have hA4 := HX.out.1.below hb4
      clear hw4 hb4 hbte x1 x2 x3
      by_cases h0 : i = 0
      · have hc0 : c = 0 := by omega
        have p1 : ¬ (0 : Int) < (c : Int) := by omega
        have HY : Hid _ := And.intro hA4 hg4
        have HZ : Hid (i = 0) := h0
        clear hA4 hg4 h0 hc0
        have hSo := refSorted_any (.slice ao m cap) es w4 (H1.out.2.2.2.2.2.below HY.out.1.inn.bl) (by have := HM.out; omega)
        unfold SortedAt at hSo
        obtain ⟨x0, x1, x2, x3⟩ := four_cells HY.out.1.box
        have HSo : Hid _ := hSo
        clear hSo
        go_wp2_with fail
        refine Calls.mono HSo.out ?_
        rintro r w6 ⟨ul, rfl, hO, hb6⟩
        obtain ⟨bo, cl, rfl⟩ := row_shape hO
        obtain ⟨l, hl⟩ : ∃ l, l = Sy.nf es := ⟨_, rfl⟩
        have hll : l.length ≤ 100000 := by have := Sy.nf_len es; have := HM.out; rw [hl]; omega
        have hlr : ∀ e ∈ l, (0 ≤ e.1 ∧ e.1 < (i : Int)) ∧ 0 ≤ e.2.2 ∧ e.2.2 < (i : Int) := fun e he => HS.out.2 e ((Sy.nf_mem es e).1 (by rw [← hl]; exact he))
        rw [← hl] at hO ⊢
        have hT : CutT w w6 w6 i k s (.slice ao m cap) gi ga bt bs c 0 (.slice none 0 0) (.slice bo l.length cl) (Sy.cutE bs (l.take 0)) l := by
          have h1 := HY.out.1.inn.bl.size
          exact ⟨HY.out.1.below hb6, (hb6.block _ (t_lt HY.out.2)).trans HY.out.2, World.ownsRow_nil _ _ _ _, row_base hO h1, fun b hb => (hO.lt b hb).2, ⟨Nat.le_trans h1 hb6.size, Nat.le_refl _⟩, hbt⟩
        obtain ⟨L, hL⟩ : ∃ L, L = l.length := ⟨_, rfl⟩
        have HT : Hid _ := And.intro hT (And.intro hL (And.intro hlr hl))
        rw [← hL] at hll ⊢
        clear hT hlr hl hO hb6 HSo x0 x1 x2 x3 hL HY
        go_wp2_with fail
        go_loopg [10] L (fun q jv wr => ∃ (j : Nat) (uv : Value), q = L - j ∧ j ≤ L ∧ jv = .int .i64 j ∧ CutT w w6 wr i k s (.slice ao m cap) gi ga bt bs c 0 uv (.slice bo l.length cl) (Sy.cutE bs (l.take j)) l)
        case atStart => exact ⟨0, _, rfl, Nat.zero_le _, rfl, HT.out.1⟩
        case round =>
          obtain ⟨j, uv, rfl, hj, rfl, hT⟩ := hrel
          obtain ⟨au, cu, hu⟩ := row_shape hT.own
          obtain ⟨N, hN⟩ : ∃ N, N = (Sy.cutE bs (l.take j)).length := ⟨_, rfl⟩
          rw [← hN] at hu
          obtain rfl := hu
          by_cases hlt : j < L
          · obtain ⟨e, he⟩ : ∃ e, l[j]? = some e := ⟨l[j]'(by have := HT.out.2.1; omega), List.getElem?_eq_getElem _⟩
            obtain ⟨gl, rfl, e0, e1, e2⟩ := own_edge hT.lst he
            obtain ⟨⟨r1, r2⟩, r3, r4⟩ := HT.out.2.2.1 e (List.mem_of_getElem? he)
            obtain ⟨f, hf⟩ : ∃ f : Nat, e.1 = (f : Int) := ⟨e.1.toNat, by omega⟩
            obtain ⟨t, ht⟩ : ∃ t : Nat, e.2.2 = (t : Int) := ⟨e.2.2.toNat, by omega⟩
            have hfn : f < i := by omega
            have htn : t < i := by omega
            obtain ⟨b, hb⟩ : ∃ b, bs[f]? = some b := ⟨bs[f]'(by have := HC.out.2.1; omega), List.getElem?_eq_getElem _⟩
            have cb := hT.a.inn.cell (bC_at hb)
            rw [hf] at e0
            rw [ht] at e2
            have q0 : (0 : Int) ≤ (j : Int) := by omega
            have q1 : (j : Int) < (L : Int) := by omega
            have q2 : (0 : Int) ≤ (f : Int) := by omega
            have q3 : (f : Int) < (i : Int) := by omega
            have q4 : (0 : Int) ≤ (t : Int) := by omega
            have q5 : (t : Int) < (i : Int) := by omega
            have hgd : (bs[e.1.toNat]?).getD false = b := by rw [hf, Int.toNat_natCast, hb]; rfl
            clear r1 r2 r3 r4
            cases b with
            | false =>
              have HA : Hid _ := And.intro hT (And.intro he hgd)
              clear hT he hgd hb hN
              go_wp2_with fail
              go_roundg (L - (j + 1))
              case measure => omega
              case rel => exact ⟨j + 1, _, rfl, by omega, by go_num, by rw [Sy.cutE_take HA.out.2.1, if_neg (by rw [HA.out.2.2]; decide)]; exact HA.out.1⟩
            | true =>
              obtain ⟨ra, hra⟩ : ∃ ra, ra = Sy.rk bs e.1 := ⟨_, rfl⟩
              obtain ⟨rb, hrb⟩ : ∃ rb, rb = Sy.rk bs e.2.2 := ⟨_, rfl⟩
              have r0 : wr.cell? ⟨ga, f, none⟩ = some (.int .i64 ra) := hT.a.nums.cell (by rw [hra, hf]; unfold iC; rw [List.getElem?_map, Sy.rk_at (by have := HC.out.2.1; omega)]; rfl)
              have r1 : wr.cell? ⟨ga, t, none⟩ = some (.int .i64 rb) := hT.a.nums.cell (by rw [hrb, ht]; unfold iC; rw [List.getElem?_map, Sy.rk_at (by have := HC.out.2.1; omega)]; rfl)
              obtain ⟨_, _, _, t3⟩ := four_cells hT.tb
              have tf := blk_free hT.tb 3
              have hNl : N ≤ 100000 := by have := Sy.cutE_len bs (l.take j); rw [List.length_take] at this; omega
              have hml : N + 1 ≤ maxLen := by unfold maxLen; omega
              have hby : (N + 1) * 24 ≤ 140737488355328 := by omega
              obtain ⟨c2, g2, _⟩ := hT.a.nums.ids
              have hOw : wr.ownsRow w6.heap.size 49 3 (.slice au N cu) N (BEdges.C (Sy.cutE bs (l.take j))) := by have h1 := hT.own; unfold BEdges.Own at h1; rw [← hN] at h1; exact h1
              have HD : Hid ((wr.drew.alloc (.cells #[.int .i64 ra, .int .i64 e.2.1, .int .i64 rb] 49)).ownsRow w6.heap.size 49 3 (.slice au N cu) N (BEdges.C (Sy.cutE bs (l.take j)))) := (World.ownsRow.alloc (trow_at hOw fun _ _ => rfl) _ : (wr.drew.alloc (.cells #[.int .i64 ra, .int .i64 e.2.1, .int .i64 rb] 49)).ownsRow w6.heap.size 49 3 (.slice au N cu) N (BEdges.C (Sy.cutE bs (l.take j))))
              have hle : w6.heap.size ≤ (wr.drew.alloc (.cells #[.int .i64 ra, .int .i64 e.2.1, .int .i64 rb] 49)).heap.size := by have := hT.sz.2; simp; omega
              have HG : Hid (¬ (Value.slice au N cu).ownBlock = some gl ∧ ¬ (Value.slice au N cu).ownBlock = some ga ∧ ¬ (Value.slice au N cu).ownBlock = some bt) := (⟨fun h => by have h1 := hT.lo gl rfl; have h2 := (hOw.lt gl h).1; omega, own_bk hOw g2 (by decide), own_bk hOw hT.tb (by decide)⟩ : ¬ (Value.slice au N cu).ownBlock = some gl ∧ ¬ (Value.slice au N cu).ownBlock = some ga ∧ ¬ (Value.slice au N cu).ownBlock = some bt)
              have n1 : ¬ bt = gl := fun h => own_bk (bk := bt) hT.lst hT.tb (by decide) (by rw [h]; rfl)
              have n2 : ¬ bt = ga := fun h => by have h1 := hT.tb; rw [h, g2] at h1; exact absurd h1 (by simp)
              have n3 : ¬ gl = bt := fun h => n1 h.symm
              have n4 : ¬ ga = bt := fun h => n2 h.symm
              have m5 : gl < wr.heap.size := World.block_lt_of_cell? wr _ e0
              have m6 : ga < wr.heap.size := t_lt g2
              have m7 : bt < wr.heap.size := t_lt hT.tb
              have n5 : ¬ gl = wr.heap.size := by omega
              have n6 : ¬ ga = wr.heap.size := by have := t_lt g2; omega
              have n7 : ¬ bt = wr.heap.size := by have := t_lt hT.tb; omega
              have HA : Hid _ := And.intro hT (And.intro he (And.intro hgd (And.intro hra (And.intro hrb hN))))
              clear hT he hgd hra hrb hN hb hOw g2 hf ht
              go_upto_region 19 with fail
              refine wp_region_held_drew (S := (fun w' => w'.cell? ⟨gl, j * 3, none⟩ = some (.int .i64 f) ∧ w'.cell? ⟨gl, j * 3 + 1, none⟩ = some (.int .i64 e.2.1) ∧ w'.cell? ⟨gl, j * 3 + 2, none⟩ = some (.int .i64 t) ∧ w'.cell? ⟨ga, f, none⟩ = some (.int .i64 ra) ∧ w'.cell? ⟨ga, t, none⟩ = some (.int .i64 rb))) (by kernel_rfl) ?_ (fun hHeld => ?_)
              · exact ⟨e0, e1, e2, r0, r1⟩
              refine wpAnyH_take (i := 0) (oi := _) (v := ?_) rfl (by kernel_rfl) (by kernel_rfl) (by kernel_rfl) (fun _ _ _ h => h) (Or.inl ⟨by rfl, ?_⟩) (by assumption) ?_
              rotate_left
              · (intro w hSw; (try dsimp only at hSw); go_simp; (try with_reducible rfl))
              (try simp only [Act.put, List.setIfInBounds_toArray, List.set_cons_zero, List.set_cons_succ])
              refine wpAnyH_take (i := 2) (oi := _) (v := ?_) rfl (by kernel_rfl) (by kernel_rfl) (by kernel_rfl) (fun _ _ _ h => h) (Or.inl ⟨by rfl, ?_⟩) (by assumption) ?_
              rotate_left
              · (intro w hSw; (try dsimp only at hSw); go_simp; (try with_reducible rfl))
              (try simp only [Act.put, List.setIfInBounds_toArray, List.set_cons_zero, List.set_cons_succ])
              refine wpAnyH_take (i := 3) (oi := _) (v := ?_) rfl (by kernel_rfl) (by kernel_rfl) (by kernel_rfl) (fun _ _ _ h => h) (Or.inl ⟨by rfl, ?_⟩) (by assumption) ?_
              rotate_left
              · (intro w hSw; (try dsimp only at hSw); go_simp; (try with_reducible rfl))
              (try simp only [Act.put, List.setIfInBounds_toArray, List.set_cons_zero, List.set_cons_succ])
              refine wpAnyH_take (i := 4) (oi := _) (v := ?_) rfl (by kernel_rfl) (by kernel_rfl) (by kernel_rfl) (fun _ _ _ h => h) (Or.inl ⟨by rfl, ?_⟩) (by assumption) ?_
              rotate_left
              · (intro w hSw; (try dsimp only at hSw); go_simp; (try with_reducible rfl))
              (try simp only [Act.put, List.setIfInBounds_toArray, List.set_cons_zero, List.set_cons_succ])
              refine wpAnyH_take (i := 5) (oi := _) (v := ?_) rfl (by kernel_rfl) (by kernel_rfl) (by kernel_rfl) (fun _ _ _ h => h) (Or.inl ⟨by rfl, ?_⟩) (by assumption) ?_
              rotate_left
              · (intro w hSw; (try dsimp only at hSw); go_simp; (try with_reducible rfl))
              (try simp only [Act.put, List.setIfInBounds_toArray, List.set_cons_zero, List.set_cons_succ])
              refine wpAnyH_take (i := 6) (oi := _) (v := ?_) rfl (by kernel_rfl) (by kernel_rfl) (by kernel_rfl) (fun _ _ _ h => h) (Or.inl ⟨by rfl, ?_⟩) (by assumption) ?_
              rotate_left
              · (intro w hSw; (try dsimp only at hSw); go_simp; (try with_reducible rfl))
              (try simp only [Act.put, List.setIfInBounds_toArray, List.set_cons_zero, List.set_cons_succ])
              refine wpAnyH_take (i := 7) (oi := _) (v := ?_) rfl (by kernel_rfl) (by kernel_rfl) (by kernel_rfl) (fun _ _ _ h => h) (Or.inl ⟨by rfl, ?_⟩) (by assumption) ?_
              rotate_left
              · (intro w hSw; (try dsimp only at hSw); go_simp; (try with_reducible rfl))
              (try simp only [Act.put, List.setIfInBounds_toArray, List.set_cons_zero, List.set_cons_succ])
              refine wpAnyH_take (i := 8) (oi := _) (v := ?_) rfl (by kernel_rfl) (by kernel_rfl) (by kernel_rfl) (fun _ _ _ h => h) (Or.inl ⟨by rfl, ?_⟩) (by assumption) ?_
              rotate_left
              · (intro w hSw; (try dsimp only at hSw); go_simp; (try with_reducible rfl))
              (try simp only [Act.put, List.setIfInBounds_toArray, List.set_cons_zero, List.set_cons_succ])
              refine wpAnyH_take (i := 9) (oi := _) (v := ?_) rfl (by kernel_rfl) (by kernel_rfl) (by kernel_rfl) (fun _ _ _ h => h) (Or.inl ⟨by rfl, ?_⟩) (by assumption) ?_
              rotate_left
              · (intro w hSw; (try dsimp only at hSw); go_simp; (try with_reducible rfl))
              (try simp only [Act.put, List.setIfInBounds_toArray, List.set_cons_zero, List.set_cons_succ])
              refine wpAnyH_take (i := 10) (oi := _) (v := ?_) rfl (by kernel_rfl) (by kernel_rfl) (by kernel_rfl) (fun _ _ _ h => h) (Or.inl ⟨by rfl, ?_⟩) (by assumption) ?_
              rotate_left
              · (intro w hSw; (try dsimp only at hSw); go_simp; (try with_reducible rfl))
              (try simp only [Act.put, List.setIfInBounds_toArray, List.set_cons_zero, List.set_cons_succ])
              refine wpAnyH_take (i := 11) (oi := _) (v := ?_) rfl (by kernel_rfl) (by kernel_rfl) (by kernel_rfl) (fun _ _ _ h => h) (Or.inl ⟨by rfl, ?_⟩) (by assumption) ?_
              rotate_left
              · (intro w hSw; (try dsimp only at hSw); go_simp; (try with_reducible rfl))
              (try simp only [Act.put, List.setIfInBounds_toArray, List.set_cons_zero, List.set_cons_succ])
              refine wpAnyH_take (i := 12) (oi := _) (v := ?_) rfl (by kernel_rfl) (by kernel_rfl) (by kernel_rfl) (fun _ _ _ h => h) (Or.inl ⟨by rfl, ?_⟩) (by assumption) ?_
              rotate_left
              · (intro w hSw; (try dsimp only at hSw); go_simp; (try with_reducible rfl))
              (try simp only [Act.put, List.setIfInBounds_toArray, List.set_cons_zero, List.set_cons_succ])
              refine wpAnyH_take (i := 13) (oi := _) (v := ?_) rfl (by kernel_rfl) (by kernel_rfl) (by kernel_rfl) (fun _ _ _ h => h) (Or.inl ⟨by rfl, ?_⟩) (by assumption) ?_
              rotate_left
              · (intro w hSw; (try dsimp only at hSw); go_simp; (try with_reducible rfl))
              (try simp only [Act.put, List.setIfInBounds_toArray, List.set_cons_zero, List.set_cons_succ])
              refine wpAnyH_take (i := 14) (oi := _) (v := ?_) rfl (by kernel_rfl) (by kernel_rfl) (by kernel_rfl) (fun _ _ _ h => h) (Or.inl ⟨by rfl, ?_⟩) (by assumption) ?_
              rotate_left
              · (intro w hSw; (try dsimp only at hSw); go_simp; (try with_reducible rfl))
              (try simp only [Act.put, List.setIfInBounds_toArray, List.set_cons_zero, List.set_cons_succ])
              refine wpAnyH_take (i := 15) (oi := _) (v := ?_) rfl (by kernel_rfl) (by kernel_rfl) (by kernel_rfl) (fun _ _ _ h => h) (Or.inl ⟨by rfl, ?_⟩) (by assumption) ?_
              rotate_left
              · (intro w hSw; (try dsimp only at hSw); go_simp; (try with_reducible rfl))
              (try simp only [Act.put, List.setIfInBounds_toArray, List.set_cons_zero, List.set_cons_succ])
              refine wpAnyH_take (i := 16) (oi := _) (v := ?_) rfl (by kernel_rfl) (by kernel_rfl) (by kernel_rfl) (fun _ _ _ h => h) (Or.inl ⟨by rfl, ?_⟩) (by assumption) ?_
              rotate_left
              · (intro w hSw; (try dsimp only at hSw); go_simp; (try with_reducible rfl))
              (try simp only [Act.put, List.setIfInBounds_toArray, List.set_cons_zero, List.set_cons_succ])
              refine wpAnyH_take (i := 17) (oi := _) (v := ?_) rfl (by kernel_rfl) (by kernel_rfl) (by kernel_rfl) (fun _ _ _ h => h) (Or.inl ⟨by rfl, ?_⟩) (by assumption) ?_
              rotate_left
              · (intro w hSw; (try dsimp only at hSw); go_simp; (try with_reducible rfl))
              (try simp only [Act.put, List.setIfInBounds_toArray, List.set_cons_zero, List.set_cons_succ])
              refine wpAnyH_take (i := 18) (oi := _) (v := ?_) rfl (by kernel_rfl) (by kernel_rfl) (by kernel_rfl) (fun _ _ _ h => h) (Or.inl ⟨by rfl, ?_⟩) (by assumption) ?_
              rotate_left
              · (intro w hSw; (try dsimp only at hSw); go_simp; (try with_reducible rfl))
              (try simp only [Act.put, List.setIfInBounds_toArray, List.set_cons_zero, List.set_cons_succ])
              refine wpAnyH_take (i := 19) (oi := _) (v := ?_) rfl (by kernel_rfl) (by kernel_rfl) (by kernel_rfl) (fun _ _ _ h => h) (Or.inl ⟨by rfl, ?_⟩) (by assumption) ?_
              rotate_left
              · (intro w hSw; (try dsimp only at hSw); go_simp; (try with_reducible rfl))
              (try simp only [Act.put, List.setIfInBounds_toArray, List.set_cons_zero, List.set_cons_succ])
              refine wpAnyH_take (i := 20) (oi := _) (v := ?_) rfl (by kernel_rfl) (by kernel_rfl) (by kernel_rfl) (fun _ _ _ h => h) (Or.inl ⟨by rfl, ?_⟩) (by assumption) ?_
              rotate_left
              · (intro w hSw; (try dsimp only at hSw); go_simp; (try with_reducible rfl))
              (try simp only [Act.put, List.setIfInBounds_toArray, List.set_cons_zero, List.set_cons_succ])
              refine wpAnyH_take (i := 21) (oi := _) (v := ?_) rfl (by kernel_rfl) (by kernel_rfl) (by kernel_rfl) (fun _ _ _ h => h) (Or.inl ⟨by rfl, ?_⟩) (by assumption) ?_
              rotate_left
              · (intro w hSw; (try dsimp only at hSw); go_simp; (try with_reducible rfl))
              (try simp only [Act.put, List.setIfInBounds_toArray, List.set_cons_zero, List.set_cons_succ])
              refine wpAnyH_take (i := 22) (oi := _) (v := ?_) rfl (by kernel_rfl) (by kernel_rfl) (by kernel_rfl) (fun _ _ _ h => h) (Or.inl ⟨by rfl, ?_⟩) (by assumption) ?_
              rotate_left
              · (intro w hSw; (try dsimp only at hSw); go_simp; (try with_reducible rfl))
              (try simp only [Act.put, List.setIfInBounds_toArray, List.set_cons_zero, List.set_cons_succ])
              refine wpAnyH_take (i := 23) (oi := _) (v := ?_) rfl (by kernel_rfl) (by kernel_rfl) (by kernel_rfl) (fun _ _ _ h => h) (Or.inl ⟨by rfl, ?_⟩) (by assumption) ?_
              rotate_left
              · (intro w hSw; (try dsimp only at hSw); go_simp; (try with_reducible rfl))
              (try simp only [Act.put, List.setIfInBounds_toArray, List.set_cons_zero, List.set_cons_succ])
              refine wpAnyH_ready (rs := [1, 24]) (by kernel_rfl) (by simp) ?_
              refine AllReadyH.cons (o := _) rfl (fun K hK => ?_) ?_
              · go_simp
                refine hK.out _ _ ?_ (fun hHeld => ?_)
                · ((try dsimp only); go_keep)
                clear hK K
                (try simp only [Act.put, List.setIfInBounds_toArray, List.set_cons_zero, List.set_cons_succ])
                refine wpAnyH_ready (rs := [24]) (by kernel_rfl) (by simp) ?_
                refine AllReadyH.cons (o := _) rfl (fun K hK => ?_) ?_
                · go_simp
                  refine hK.out _ _ ?_ (fun hHeld => ?_)
                  · ((try dsimp only); go_keep)
                  clear hK K
                  (try simp only [Act.put, List.setIfInBounds_toArray, List.set_cons_zero, List.set_cons_succ])
                  refine wpAnyH_ready (rs := [25]) (by kernel_rfl) (by simp) ?_
                  refine AllReadyH.cons (o := _) rfl (fun K hK => ?_) ?_
                  · (refine step_append_lies _ (by rfl) _ _ _ (by rfl) w6.heap.size 49 i0 _ 3 24 Tryd.underlying22 hi0 hz0 hz1 hz2 rfl (by decide) (.slice au N cu) N (BEdges.C (Sy.cutE bs (l.take j))) (by rfl) HD.out ⟨wr.heap.size, 0, none⟩ 1 1 [.int .i64 ra, .int .i64 e.2.1, .int .i64 rb] (by rfl) (by rfl) (World.news_of_block (cs := #[.int .i64 ra, .int .i64 e.2.1, .int .i64 rb]) (t := 49) (fr := (0, 0)) (heap_alloc_new wr.drew _)) (by simp [Value.oneCell']) Nat.one_pos hml hby hle (wr.heap.size + 1) (by simp) ?_; intro g4 k4 w4 hown4 hgrow4 hat4 hlt4; have hk4 : Kept (fun b => (Value.slice au N cu).ownBlock = some b) wr w4 := (Kept.of_below ((Below.refl _ wr).drew)).trans (grown_alloc (w := wr.drew) hgrow4); have e0 := kcell hk4 HG.out.1 e0; have e1 := kcell hk4 HG.out.1 e1; have e2 := kcell hk4 HG.out.1 e2; have r0 := kcell hk4 HG.out.2.1 r0; have r1 := kcell hk4 HG.out.2.1 r1; have t3 := kcell hk4 HG.out.2.2 t3; have tf := blk_free ((hk4.block _ (t_lt HA.out.1.tb) HG.out.2.2).trans HA.out.1.tb) 3; have H4 : Hid _ := And.intro hown4 hk4; clear hown4 hgrow4 hat4 hlt4 hk4)
                    refine hK.out _ _ ?_ (fun hHeld => ?_)
                    · exact ⟨e0, e1, e2, r0, r1⟩
                    clear hK K
                    (try simp only [Act.put, List.setIfInBounds_toArray, List.set_cons_zero, List.set_cons_succ])
                    refine wpAnyH_take (i := 26) (oi := _) (v := ?_) rfl (by kernel_rfl) (by kernel_rfl) (by kernel_rfl) (fun _ _ _ h => h) (Or.inl ⟨by rfl, ?_⟩) (by assumption) ?_
                    rotate_left
                    · (intro w hSw; (try dsimp only at hSw); go_simp; (try with_reducible rfl))
                    (try simp only [Act.put, List.setIfInBounds_toArray, List.set_cons_zero, List.set_cons_succ])
                    refine wpAnyH_ready (rs := [27]) (by kernel_rfl) (by simp) ?_
                    refine AllReadyH.cons (o := _) rfl (fun K hK => ?_) ?_
                    · go_simp
                      refine hK.out _ _ ?_ (fun hHeld => ?_)
                      · ((try dsimp only); go_keep)
                      clear hK K
                      (try simp only [Act.put, List.setIfInBounds_toArray, List.set_cons_zero, List.set_cons_succ])
                      refine wpAnyH_done (by kernel_rfl) ?_ _
                      (try go_simp)
                      go_wp2_with fail
                      go_roundg (L - (j + 1))
                      case measure => omega
                      case rel => exact ⟨j + 1, _, rfl, by omega, by go_num, by rw [Sy.cutE_take HA.out.2.1, if_pos HA.out.2.2.1, ← HA.out.2.2.2.1, ← HA.out.2.2.2.2.1]; exact HA.out.1.grow HA.out.2.2.2.2.2 (ra, e.2.1, rb) H4.out.1 H4.out.2⟩
                    exact AllReadyH.nil
                  exact AllReadyH.nil
                exact AllReadyH.nil
              refine AllReadyH.cons (o := _) rfl (fun K hK => ?_) ?_
              · go_simp
                refine hK.out _ _ ?_ (fun hHeld => ?_)
                · ((try dsimp only); go_keep)
                clear hK K
                (try simp only [Act.put, List.setIfInBounds_toArray, List.set_cons_zero, List.set_cons_succ])
                refine wpAnyH_ready (rs := [1]) (by kernel_rfl) (by simp) ?_
                refine AllReadyH.cons (o := _) rfl (fun K hK => ?_) ?_
                · go_simp
                  refine hK.out _ _ ?_ (fun hHeld => ?_)
                  · ((try dsimp only); go_keep)
                  clear hK K
                  (try simp only [Act.put, List.setIfInBounds_toArray, List.set_cons_zero, List.set_cons_succ])
                  refine wpAnyH_ready (rs := [25]) (by kernel_rfl) (by simp) ?_
                  refine AllReadyH.cons (o := _) rfl (fun K hK => ?_) ?_
                  · (refine step_append_lies _ (by rfl) _ _ _ (by rfl) w6.heap.size 49 i0 _ 3 24 Tryd.underlying22 hi0 hz0 hz1 hz2 rfl (by decide) (.slice au N cu) N (BEdges.C (Sy.cutE bs (l.take j))) (by rfl) HD.out ⟨wr.heap.size, 0, none⟩ 1 1 [.int .i64 ra, .int .i64 e.2.1, .int .i64 rb] (by rfl) (by rfl) (World.news_of_block (cs := #[.int .i64 ra, .int .i64 e.2.1, .int .i64 rb]) (t := 49) (fr := (0, 0)) (heap_alloc_new wr.drew _)) (by simp [Value.oneCell']) Nat.one_pos hml hby hle (wr.heap.size + 1) (by simp) ?_; intro g4 k4 w4 hown4 hgrow4 hat4 hlt4; have hk4 : Kept (fun b => (Value.slice au N cu).ownBlock = some b) wr w4 := (Kept.of_below ((Below.refl _ wr).drew)).trans (grown_alloc (w := wr.drew) hgrow4); have e0 := kcell hk4 HG.out.1 e0; have e1 := kcell hk4 HG.out.1 e1; have e2 := kcell hk4 HG.out.1 e2; have r0 := kcell hk4 HG.out.2.1 r0; have r1 := kcell hk4 HG.out.2.1 r1; have t3 := kcell hk4 HG.out.2.2 t3; have tf := blk_free ((hk4.block _ (t_lt HA.out.1.tb) HG.out.2.2).trans HA.out.1.tb) 3; have H4 : Hid _ := And.intro hown4 hk4; clear hown4 hgrow4 hat4 hlt4 hk4)
                    refine hK.out _ _ ?_ (fun hHeld => ?_)
                    · exact ⟨e0, e1, e2, r0, r1⟩
                    clear hK K
                    (try simp only [Act.put, List.setIfInBounds_toArray, List.set_cons_zero, List.set_cons_succ])
                    refine wpAnyH_take (i := 26) (oi := _) (v := ?_) rfl (by kernel_rfl) (by kernel_rfl) (by kernel_rfl) (fun _ _ _ h => h) (Or.inl ⟨by rfl, ?_⟩) (by assumption) ?_
                    rotate_left
                    · (intro w hSw; (try dsimp only at hSw); go_simp; (try with_reducible rfl))
                    (try simp only [Act.put, List.setIfInBounds_toArray, List.set_cons_zero, List.set_cons_succ])
                    refine wpAnyH_ready (rs := [27]) (by kernel_rfl) (by simp) ?_
                    refine AllReadyH.cons (o := _) rfl (fun K hK => ?_) ?_
                    · go_simp
                      refine hK.out _ _ ?_ (fun hHeld => ?_)
                      · ((try dsimp only); go_keep)
                      clear hK K
                      (try simp only [Act.put, List.setIfInBounds_toArray, List.set_cons_zero, List.set_cons_succ])
                      refine wpAnyH_done (by kernel_rfl) ?_ _
                      (try go_simp)
                      go_wp2_with fail
                      go_roundg (L - (j + 1))
                      case measure => omega
                      case rel => exact ⟨j + 1, _, rfl, by omega, by go_num, by rw [Sy.cutE_take HA.out.2.1, if_pos HA.out.2.2.1, ← HA.out.2.2.2.1, ← HA.out.2.2.2.2.1]; exact HA.out.1.grow HA.out.2.2.2.2.2 (ra, e.2.1, rb) H4.out.1 H4.out.2⟩
                    exact AllReadyH.nil
                  exact AllReadyH.nil
                exact AllReadyH.nil
              exact AllReadyH.nil
          · obtain rfl : j = L := by omega
            have q1 : ¬ (j : Int) < (j : Int) := by omega
            have hjt : l.take j = l := List.take_of_length_le (by have := HT.out.2.1; omega)
            rw [hjt] at hT hN
            obtain ⟨t0, t1, t2, t3⟩ := four_cells hT.tb
            obtain ⟨y0, y1, y2, y3⟩ := four_cells hT.a.res
            have z0 := blk_free hT.a.res 0
            have z1 := blk_free hT.a.res 1
            have z2 := blk_free hT.a.res 2
            have z3 := blk_free hT.a.res 3
            have hbb : ¬ w.heap.size + 1 = bt := by have := hT.hi; omega
            have hbb2 : ¬ bt = w.heap.size + 1 := fun h => hbb h.symm
            have HA : Hid _ := And.intro hT hN
            clear hT hN hjt
            go_wp2_with fail
            obtain ⟨f1, f2, f3, f4⟩ := cut_fin HA.out.1 HC.out.2.1 hn rfl
            generalize ((((wr.setCell ⟨w.heap.size + 1, 0, none⟩ (.int .i64 c)).setCell ⟨w.heap.size + 1, 1, none⟩ (.int .i64 k)).setCell ⟨w.heap.size + 1, 2, none⟩ (.int .i64 0)).setCell ⟨w.heap.size + 1, 3, none⟩ (.slice au N cu)) = wf at f1 f2 f3 f4 ⊢
            clear t0 t1 t2 t3 y0 y1 y2 y3 z0 z1 z2 z3
            obtain ⟨d0, d1, d2, d3⟩ := four_cells f2
            refine bodyPost_ret (v := .tuple #[.agg #[.int .i64 c, .int .i64 k, .int .i64 0, .slice au N cu], .slice (some ⟨ga, 0, none⟩) i i]) (by simp [results, Tryd.results18, go_sem, d0, d1, d2, d3]) rfl ⟨bs, .slice au N cu, .slice (some ⟨ga, 0, none⟩) i i, ?_, HC.out.2.1, HC.out.2.2, by rw [← HT.out.2.2.2]; exact f3, f4, f1⟩
            rw [← HX.out.2]
            unfold Sy.startOf
            rw [if_neg (by have := HZ.out; omega)]
      · obtain ⟨s1, s2⟩ := HS.out.1 (by omega)
        obtain ⟨sn, rfl⟩ : ∃ sn : Nat, s = (sn : Int) := ⟨s.toNat, by omega⟩
        have hsn : sn < i := by omega
        have hst : bs[sn]? = some true := (HC.out.2.2 sn hsn).2 .start
        have hcp : 0 < c := by rw [HX.out.2]; exact List.count_pos_iff.2 (List.mem_of_getElem? hst)
        have p1 : (0 : Int) < (c : Int) := by omega
        have p2 : (0 : Int) ≤ (sn : Int) := by omega
        have p3 : (sn : Int) < (i : Int) := by omega
        obtain ⟨sr, hsr⟩ : ∃ sr, sr = Sy.rk bs (sn : Int) := ⟨_, rfl⟩
        have rs : w4.cell? ⟨ga, sn, none⟩ = some (.int .i64 sr) := hA4.nums.cell (by rw [hsr]; unfold iC; rw [List.getElem?_map, Sy.rk_at (by have := HC.out.2.1; omega)]; rfl)
        obtain ⟨x0, x1, x2, x3⟩ := four_cells hA4.box
        obtain ⟨t0, t1, t2, t3⟩ := four_cells hg4
        have tf := blk_free hg4 2
        obtain ⟨w5, hw5⟩ : ∃ w5, w5 = w4.setCell ⟨bt, 2, none⟩ (.int .i64 sr) := ⟨_, rfl⟩
        obtain ⟨c1, g1, _⟩ := hA4.inn.ids
        obtain ⟨c2, g2, _⟩ := hA4.nums.ids
        have hbi : bt ≠ gi := fun e => by rw [e, g1] at hg4; exact absurd hg4 (by simp)
        have hba : bt ≠ ga := fun e => by rw [e, g2] at hg4; exact absurd hg4 (by simp)
        have hks := Kept.setCell w4 bt 2 (.int .i64 sr)
        have hA5 : CutA w w5 i k sn (.slice ao m cap) gi ga bs (iC (Sy.ranks bs)) := by
          rw [hw5]
          exact ⟨(set_other _ _ _ _ _ (by omega)).trans hA4.box, (set_other _ _ _ _ _ (by omega)).trans hA4.res, hA4.inn.kept hks fun b hb => ⟨by omega, by rw [hb]; exact hbi⟩, hA4.nums.kept hks fun b hb => ⟨by omega, by rw [hb]; exact hba⟩⟩
        have hg5 : w5.heap[bt]? = some (.cells #[.int .i64 c, .int .i64 k, .int .i64 sr, .slice none 0 0] 24 (0, 0)) := by rw [hw5, heap_setCell_same w4 bt 2 _ _ _ hg4]; rfl
        have HY : Hid _ := And.intro hA5 hg5
        have HZ : Hid (0 < i ∧ sr = Sy.rk bs (sn : Int)) := (⟨by omega, hsr⟩ : 0 < i ∧ sr = Sy.rk bs (sn : Int))
        have HW5 : Hid _ := hw5
        clear hA4 hg4 h0 hsr hst hcp hA5 hg5 hks hbi hba g1 g2 hw5 s1 s2
        go_upto_region 14 with fail
        rw [← HW5.out]
        clear x0 x1 x2 x3 t0 t1 t2 t3 tf rs HW5
        have hSo := refSorted_any (.slice ao m cap) es w5 (H1.out.2.2.2.2.2.below HY.out.1.inn.bl) (by have := HM.out; omega)
        unfold SortedAt at hSo
        obtain ⟨x0, x1, x2, x3⟩ := four_cells HY.out.1.box
        have HSo : Hid _ := hSo
        clear hSo
        go_wp2_with fail
        refine Calls.mono HSo.out ?_
        rintro r w6 ⟨ul, rfl, hO, hb6⟩
        obtain ⟨bo, cl, rfl⟩ := row_shape hO
        obtain ⟨l, hl⟩ : ∃ l, l = Sy.nf es := ⟨_, rfl⟩
        have hll : l.length ≤ 100000 := by have := Sy.nf_len es; have := HM.out; rw [hl]; omega
        have hlr : ∀ e ∈ l, (0 ≤ e.1 ∧ e.1 < (i : Int)) ∧ 0 ≤ e.2.2 ∧ e.2.2 < (i : Int) := fun e he => HS.out.2 e ((Sy.nf_mem es e).1 (by rw [← hl]; exact he))
        rw [← hl] at hO ⊢
        have hT : CutT w w6 w6 i k sn (.slice ao m cap) gi ga bt bs c sr (.slice none 0 0) (.slice bo l.length cl) (Sy.cutE bs (l.take 0)) l := by
          have h1 := HY.out.1.inn.bl.size
          exact ⟨HY.out.1.below hb6, (hb6.block _ (t_lt HY.out.2)).trans HY.out.2, World.ownsRow_nil _ _ _ _, row_base hO h1, fun b hb => (hO.lt b hb).2, ⟨Nat.le_trans h1 hb6.size, Nat.le_refl _⟩, hbt⟩
        obtain ⟨L, hL⟩ : ∃ L, L = l.length := ⟨_, rfl⟩
        have HT : Hid _ := And.intro hT (And.intro hL (And.intro hlr hl))
        rw [← hL] at hll ⊢
        clear hT hlr hl hO hb6 HSo x0 x1 x2 x3 hL HY
        go_wp2_with fail
        go_loopg [10] L (fun q jv wr => ∃ (j : Nat) (uv : Value), q = L - j ∧ j ≤ L ∧ jv = .int .i64 j ∧ CutT w w6 wr i k sn (.slice ao m cap) gi ga bt bs c sr uv (.slice bo l.length cl) (Sy.cutE bs (l.take j)) l)
        case atStart => exact ⟨0, _, rfl, Nat.zero_le _, rfl, HT.out.1⟩
        case round =>
          obtain ⟨j, uv, rfl, hj, rfl, hT⟩ := hrel
          obtain ⟨au, cu, hu⟩ := row_shape hT.own
          obtain ⟨N, hN⟩ : ∃ N, N = (Sy.cutE bs (l.take j)).length := ⟨_, rfl⟩
          rw [← hN] at hu
          obtain rfl := hu
          by_cases hlt : j < L
          · obtain ⟨e, he⟩ : ∃ e, l[j]? = some e := ⟨l[j]'(by have := HT.out.2.1; omega), List.getElem?_eq_getElem _⟩
            obtain ⟨gl, rfl, e0, e1, e2⟩ := own_edge hT.lst he
            obtain ⟨⟨r1, r2⟩, r3, r4⟩ := HT.out.2.2.1 e (List.mem_of_getElem? he)
            obtain ⟨f, hf⟩ : ∃ f : Nat, e.1 = (f : Int) := ⟨e.1.toNat, by omega⟩
            obtain ⟨t, ht⟩ : ∃ t : Nat, e.2.2 = (t : Int) := ⟨e.2.2.toNat, by omega⟩
            have hfn : f < i := by omega
            have htn : t < i := by omega
            obtain ⟨b, hb⟩ : ∃ b, bs[f]? = some b := ⟨bs[f]'(by have := HC.out.2.1; omega), List.getElem?_eq_getElem _⟩
            have cb := hT.a.inn.cell (bC_at hb)
            rw [hf] at e0
            rw [ht] at e2
            have q0 : (0 : Int) ≤ (j : Int) := by omega
            have q1 : (j : Int) < (L : Int) := by omega
            have q2 : (0 : Int) ≤ (f : Int) := by omega
            have q3 : (f : Int) < (i : Int) := by omega
            have q4 : (0 : Int) ≤ (t : Int) := by omega
            have q5 : (t : Int) < (i : Int) := by omega
            have hgd : (bs[e.1.toNat]?).getD false = b := by rw [hf, Int.toNat_natCast, hb]; rfl
            clear r1 r2 r3 r4
            cases b with
            | false =>
              have HA : Hid _ := And.intro hT (And.intro he hgd)
              clear hT he hgd hb hN
              go_wp2_with fail
              go_roundg (L - (j + 1))
              case measure => omega
              case rel => exact ⟨j + 1, _, rfl, by omega, by go_num, by rw [Sy.cutE_take HA.out.2.1, if_neg (by rw [HA.out.2.2]; decide)]; exact HA.out.1⟩
            | true =>
              obtain ⟨ra, hra⟩ : ∃ ra, ra = Sy.rk bs e.1 := ⟨_, rfl⟩
              obtain ⟨rb, hrb⟩ : ∃ rb, rb = Sy.rk bs e.2.2 := ⟨_, rfl⟩
              have r0 : wr.cell? ⟨ga, f, none⟩ = some (.int .i64 ra) := hT.a.nums.cell (by rw [hra, hf]; unfold iC; rw [List.getElem?_map, Sy.rk_at (by have := HC.out.2.1; omega)]; rfl)
              have r1 : wr.cell? ⟨ga, t, none⟩ = some (.int .i64 rb) := hT.a.nums.cell (by rw [hrb, ht]; unfold iC; rw [List.getElem?_map, Sy.rk_at (by have := HC.out.2.1; omega)]; rfl)
              obtain ⟨_, _, _, t3⟩ := four_cells hT.tb
              have tf := blk_free hT.tb 3
              have hNl : N ≤ 100000 := by have := Sy.cutE_len bs (l.take j); rw [List.length_take] at this; omega
              have hml : N + 1 ≤ maxLen := by unfold maxLen; omega
              have hby : (N + 1) * 24 ≤ 140737488355328 := by omega
              obtain ⟨c2, g2, _⟩ := hT.a.nums.ids
              have hOw : wr.ownsRow w6.heap.size 49 3 (.slice au N cu) N (BEdges.C (Sy.cutE bs (l.take j))) := by have h1 := hT.own; unfold BEdges.Own at h1; rw [← hN] at h1; exact h1
              have HD : Hid ((wr.drew.alloc (.cells #[.int .i64 ra, .int .i64 e.2.1, .int .i64 rb] 49)).ownsRow w6.heap.size 49 3 (.slice au N cu) N (BEdges.C (Sy.cutE bs (l.take j)))) := (World.ownsRow.alloc (trow_at hOw fun _ _ => rfl) _ : (wr.drew.alloc (.cells #[.int .i64 ra, .int .i64 e.2.1, .int .i64 rb] 49)).ownsRow w6.heap.size 49 3 (.slice au N cu) N (BEdges.C (Sy.cutE bs (l.take j))))
              have hle : w6.heap.size ≤ (wr.drew.alloc (.cells #[.int .i64 ra, .int .i64 e.2.1, .int .i64 rb] 49)).heap.size := by have := hT.sz.2; simp; omega
              have HG : Hid (¬ (Value.slice au N cu).ownBlock = some gl ∧ ¬ (Value.slice au N cu).ownBlock = some ga ∧ ¬ (Value.slice au N cu).ownBlock = some bt) := (⟨fun h => by have h1 := hT.lo gl rfl; have h2 := (hOw.lt gl h).1; omega, own_bk hOw g2 (by decide), own_bk hOw hT.tb (by decide)⟩ : ¬ (Value.slice au N cu).ownBlock = some gl ∧ ¬ (Value.slice au N cu).ownBlock = some ga ∧ ¬ (Value.slice au N cu).ownBlock = some bt)
              have n1 : ¬ bt = gl := fun h => own_bk (bk := bt) hT.lst hT.tb (by decide) (by rw [h]; rfl)
              have n2 : ¬ bt = ga := fun h => by have h1 := hT.tb; rw [h, g2] at h1; exact absurd h1 (by simp)
              have n3 : ¬ gl = bt := fun h => n1 h.symm
              have n4 : ¬ ga = bt := fun h => n2 h.symm
              have m5 : gl < wr.heap.size := World.block_lt_of_cell? wr _ e0
              have m6 : ga < wr.heap.size := t_lt g2
              have m7 : bt < wr.heap.size := t_lt hT.tb
              have n5 : ¬ gl = wr.heap.size := by omega
              have n6 : ¬ ga = wr.heap.size := by have := t_lt g2; omega
              have n7 : ¬ bt = wr.heap.size := by have := t_lt hT.tb; omega
              have HA : Hid _ := And.intro hT (And.intro he (And.intro hgd (And.intro hra (And.intro hrb hN))))
              clear hT he hgd hra hrb hN hb hOw g2 hf ht
              go_upto_region 19 with fail
              refine wp_region_held_drew (S := (fun w' => w'.cell? ⟨gl, j * 3, none⟩ = some (.int .i64 f) ∧ w'.cell? ⟨gl, j * 3 + 1, none⟩ = some (.int .i64 e.2.1) ∧ w'.cell? ⟨gl, j * 3 + 2, none⟩ = some (.int .i64 t) ∧ w'.cell? ⟨ga, f, none⟩ = some (.int .i64 ra) ∧ w'.cell? ⟨ga, t, none⟩ = some (.int .i64 rb))) (by kernel_rfl) ?_ (fun hHeld => ?_)
              · exact ⟨e0, e1, e2, r0, r1⟩
              refine wpAnyH_take (i := 0) (oi := _) (v := ?_) rfl (by kernel_rfl) (by kernel_rfl) (by kernel_rfl) (fun _ _ _ h => h) (Or.inl ⟨by rfl, ?_⟩) (by assumption) ?_
              rotate_left
              · (intro w hSw; (try dsimp only at hSw); go_simp; (try with_reducible rfl))
              (try simp only [Act.put, List.setIfInBounds_toArray, List.set_cons_zero, List.set_cons_succ])
              refine wpAnyH_take (i := 2) (oi := _) (v := ?_) rfl (by kernel_rfl) (by kernel_rfl) (by kernel_rfl) (fun _ _ _ h => h) (Or.inl ⟨by rfl, ?_⟩) (by assumption) ?_
              rotate_left
              · (intro w hSw; (try dsimp only at hSw); go_simp; (try with_reducible rfl))
              (try simp only [Act.put, List.setIfInBounds_toArray, List.set_cons_zero, List.set_cons_succ])
              refine wpAnyH_take (i := 3) (oi := _) (v := ?_) rfl (by kernel_rfl) (by kernel_rfl) (by kernel_rfl) (fun _ _ _ h => h) (Or.inl ⟨by rfl, ?_⟩) (by assumption) ?_
              rotate_left
              · (intro w hSw; (try dsimp only at hSw); go_simp; (try with_reducible rfl))
              (try simp only [Act.put, List.setIfInBounds_toArray, List.set_cons_zero, List.set_cons_succ])
              refine wpAnyH_take (i := 4) (oi := _) (v := ?_) rfl (by kernel_rfl) (by kernel_rfl) (by kernel_rfl) (fun _ _ _ h => h) (Or.inl ⟨by rfl, ?_⟩) (by assumption) ?_
              rotate_left
              · (intro w hSw; (try dsimp only at hSw); go_simp; (try with_reducible rfl))
              (try simp only [Act.put, List.setIfInBounds_toArray, List.set_cons_zero, List.set_cons_succ])
              refine wpAnyH_take (i := 5) (oi := _) (v := ?_) rfl (by kernel_rfl) (by kernel_rfl) (by kernel_rfl) (fun _ _ _ h => h) (Or.inl ⟨by rfl, ?_⟩) (by assumption) ?_
              rotate_left
              · (intro w hSw; (try dsimp only at hSw); go_simp; (try with_reducible rfl))
              (try simp only [Act.put, List.setIfInBounds_toArray, List.set_cons_zero, List.set_cons_succ])
              refine wpAnyH_take (i := 6) (oi := _) (v := ?_) rfl (by kernel_rfl) (by kernel_rfl) (by kernel_rfl) (fun _ _ _ h => h) (Or.inl ⟨by rfl, ?_⟩) (by assumption) ?_
              rotate_left
              · (intro w hSw; (try dsimp only at hSw); go_simp; (try with_reducible rfl))
              (try simp only [Act.put, List.setIfInBounds_toArray, List.set_cons_zero, List.set_cons_succ])
              refine wpAnyH_take (i := 7) (oi := _) (v := ?_) rfl (by kernel_rfl) (by kernel_rfl) (by kernel_rfl) (fun _ _ _ h => h) (Or.inl ⟨by rfl, ?_⟩) (by assumption) ?_
              rotate_left
              · (intro w hSw; (try dsimp only at hSw); go_simp; (try with_reducible rfl))
              (try simp only [Act.put, List.setIfInBounds_toArray, List.set_cons_zero, List.set_cons_succ])
              refine wpAnyH_take (i := 8) (oi := _) (v := ?_) rfl (by kernel_rfl) (by kernel_rfl) (by kernel_rfl) (fun _ _ _ h => h) (Or.inl ⟨by rfl, ?_⟩) (by assumption) ?_
              rotate_left
              · (intro w hSw; (try dsimp only at hSw); go_simp; (try with_reducible rfl))
              (try simp only [Act.put, List.setIfInBounds_toArray, List.set_cons_zero, List.set_cons_succ])
              refine wpAnyH_take (i := 9) (oi := _) (v := ?_) rfl (by kernel_rfl) (by kernel_rfl) (by kernel_rfl) (fun _ _ _ h => h) (Or.inl ⟨by rfl, ?_⟩) (by assumption) ?_
              rotate_left
              · (intro w hSw; (try dsimp only at hSw); go_simp; (try with_reducible rfl))
              (try simp only [Act.put, List.setIfInBounds_toArray, List.set_cons_zero, List.set_cons_succ])
              refine wpAnyH_take (i := 10) (oi := _) (v := ?_) rfl (by kernel_rfl) (by kernel_rfl) (by kernel_rfl) (fun _ _ _ h => h) (Or.inl ⟨by rfl, ?_⟩) (by assumption) ?_
              rotate_left
              · (intro w hSw; (try dsimp only at hSw); go_simp; (try with_reducible rfl))
              (try simp only [Act.put, List.setIfInBounds_toArray, List.set_cons_zero, List.set_cons_succ])
              refine wpAnyH_take (i := 11) (oi := _) (v := ?_) rfl (by kernel_rfl) (by kernel_rfl) (by kernel_rfl) (fun _ _ _ h => h) (Or.inl ⟨by rfl, ?_⟩) (by assumption) ?_
              rotate_left
              · (intro w hSw; (try dsimp only at hSw); go_simp; (try with_reducible rfl))
              (try simp only [Act.put, List.setIfInBounds_toArray, List.set_cons_zero, List.set_cons_succ])
              refine wpAnyH_take (i := 12) (oi := _) (v := ?_) rfl (by kernel_rfl) (by kernel_rfl) (by kernel_rfl) (fun _ _ _ h => h) (Or.inl ⟨by rfl, ?_⟩) (by assumption) ?_
              rotate_left
              · (intro w hSw; (try dsimp only at hSw); go_simp; (try with_reducible rfl))
              (try simp only [Act.put, List.setIfInBounds_toArray, List.set_cons_zero, List.set_cons_succ])
              refine wpAnyH_take (i := 13) (oi := _) (v := ?_) rfl (by kernel_rfl) (by kernel_rfl) (by kernel_rfl) (fun _ _ _ h => h) (Or.inl ⟨by rfl, ?_⟩) (by assumption) ?_
              rotate_left
              · (intro w hSw; (try dsimp only at hSw); go_simp; (try with_reducible rfl))
              (try simp only [Act.put, List.setIfInBounds_toArray, List.set_cons_zero, List.set_cons_succ])
              refine wpAnyH_take (i := 14) (oi := _) (v := ?_) rfl (by kernel_rfl) (by kernel_rfl) (by kernel_rfl) (fun _ _ _ h => h) (Or.inl ⟨by rfl, ?_⟩) (by assumption) ?_
              rotate_left
              · (intro w hSw; (try dsimp only at hSw); go_simp; (try with_reducible rfl))
              (try simp only [Act.put, List.setIfInBounds_toArray, List.set_cons_zero, List.set_cons_succ])
              refine wpAnyH_take (i := 15) (oi := _) (v := ?_) rfl (by kernel_rfl) (by kernel_rfl) (by kernel_rfl) (fun _ _ _ h => h) (Or.inl ⟨by rfl, ?_⟩) (by assumption) ?_
              rotate_left
              · (intro w hSw; (try dsimp only at hSw); go_simp; (try with_reducible rfl))
              (try simp only [Act.put, List.setIfInBounds_toArray, List.set_cons_zero, List.set_cons_succ])
              refine wpAnyH_take (i := 16) (oi := _) (v := ?_) rfl (by kernel_rfl) (by kernel_rfl) (by kernel_rfl) (fun _ _ _ h => h) (Or.inl ⟨by rfl, ?_⟩) (by assumption) ?_
              rotate_left
              · (intro w hSw; (try dsimp only at hSw); go_simp; (try with_reducible rfl))
              (try simp only [Act.put, List.setIfInBounds_toArray, List.set_cons_zero, List.set_cons_succ])
              refine wpAnyH_take (i := 17) (oi := _) (v := ?_) rfl (by kernel_rfl) (by kernel_rfl) (by kernel_rfl) (fun _ _ _ h => h) (Or.inl ⟨by rfl, ?_⟩) (by assumption) ?_
              rotate_left
              · (intro w hSw; (try dsimp only at hSw); go_simp; (try with_reducible rfl))
              (try simp only [Act.put, List.setIfInBounds_toArray, List.set_cons_zero, List.set_cons_succ])
              refine wpAnyH_take (i := 18) (oi := _) (v := ?_) rfl (by kernel_rfl) (by kernel_rfl) (by kernel_rfl) (fun _ _ _ h => h) (Or.inl ⟨by rfl, ?_⟩) (by assumption) ?_
              rotate_left
              · (intro w hSw; (try dsimp only at hSw); go_simp; (try with_reducible rfl))
              (try simp only [Act.put, List.setIfInBounds_toArray, List.set_cons_zero, List.set_cons_succ])
              refine wpAnyH_take (i := 19) (oi := _) (v := ?_) rfl (by kernel_rfl) (by kernel_rfl) (by kernel_rfl) (fun _ _ _ h => h) (Or.inl ⟨by rfl, ?_⟩) (by assumption) ?_
              rotate_left
              · (intro w hSw; (try dsimp only at hSw); go_simp; (try with_reducible rfl))
              (try simp only [Act.put, List.setIfInBounds_toArray, List.set_cons_zero, List.set_cons_succ])
              refine wpAnyH_take (i := 20) (oi := _) (v := ?_) rfl (by kernel_rfl) (by kernel_rfl) (by kernel_rfl) (fun _ _ _ h => h) (Or.inl ⟨by rfl, ?_⟩) (by assumption) ?_
              rotate_left
              · (intro w hSw; (try dsimp only at hSw); go_simp; (try with_reducible rfl))
              (try simp only [Act.put, List.setIfInBounds_toArray, List.set_cons_zero, List.set_cons_succ])
              refine wpAnyH_take (i := 21) (oi := _) (v := ?_) rfl (by kernel_rfl) (by kernel_rfl) (by kernel_rfl) (fun _ _ _ h => h) (Or.inl ⟨by rfl, ?_⟩) (by assumption) ?_
              rotate_left
              · (intro w hSw; (try dsimp only at hSw); go_simp; (try with_reducible rfl))
              (try simp only [Act.put, List.setIfInBounds_toArray, List.set_cons_zero, List.set_cons_succ])
              refine wpAnyH_take (i := 22) (oi := _) (v := ?_) rfl (by kernel_rfl) (by kernel_rfl) (by kernel_rfl) (fun _ _ _ h => h) (Or.inl ⟨by rfl, ?_⟩) (by assumption) ?_
              rotate_left
              · (intro w hSw; (try dsimp only at hSw); go_simp; (try with_reducible rfl))
              (try simp only [Act.put, List.setIfInBounds_toArray, List.set_cons_zero, List.set_cons_succ])
              refine wpAnyH_take (i := 23) (oi := _) (v := ?_) rfl (by kernel_rfl) (by kernel_rfl) (by kernel_rfl) (fun _ _ _ h => h) (Or.inl ⟨by rfl, ?_⟩) (by assumption) ?_
              rotate_left
              · (intro w hSw; (try dsimp only at hSw); go_simp; (try with_reducible rfl))
              (try simp only [Act.put, List.setIfInBounds_toArray, List.set_cons_zero, List.set_cons_succ])
              refine wpAnyH_ready (rs := [1, 24]) (by kernel_rfl) (by simp) ?_
              refine AllReadyH.cons (o := _) rfl (fun K hK => ?_) ?_
              · go_simp
                refine hK.out _ _ ?_ (fun hHeld => ?_)
                · ((try dsimp only); go_keep)
                clear hK K
                (try simp only [Act.put, List.setIfInBounds_toArray, List.set_cons_zero, List.set_cons_succ])
                refine wpAnyH_ready (rs := [24]) (by kernel_rfl) (by simp) ?_
                refine AllReadyH.cons (o := _) rfl (fun K hK => ?_) ?_
                · go_simp
                  refine hK.out _ _ ?_ (fun hHeld => ?_)
                  · ((try dsimp only); go_keep)
                  clear hK K
                  (try simp only [Act.put, List.setIfInBounds_toArray, List.set_cons_zero, List.set_cons_succ])
                  refine wpAnyH_ready (rs := [25]) (by kernel_rfl) (by simp) ?_
                  refine AllReadyH.cons (o := _) rfl (fun K hK => ?_) ?_
                  · (refine step_append_lies _ (by rfl) _ _ _ (by rfl) w6.heap.size 49 i0 _ 3 24 Tryd.underlying22 hi0 hz0 hz1 hz2 rfl (by decide) (.slice au N cu) N (BEdges.C (Sy.cutE bs (l.take j))) (by rfl) HD.out ⟨wr.heap.size, 0, none⟩ 1 1 [.int .i64 ra, .int .i64 e.2.1, .int .i64 rb] (by rfl) (by rfl) (World.news_of_block (cs := #[.int .i64 ra, .int .i64 e.2.1, .int .i64 rb]) (t := 49) (fr := (0, 0)) (heap_alloc_new wr.drew _)) (by simp [Value.oneCell']) Nat.one_pos hml hby hle (wr.heap.size + 1) (by simp) ?_; intro g4 k4 w4 hown4 hgrow4 hat4 hlt4; have hk4 : Kept (fun b => (Value.slice au N cu).ownBlock = some b) wr w4 := (Kept.of_below ((Below.refl _ wr).drew)).trans (grown_alloc (w := wr.drew) hgrow4); have e0 := kcell hk4 HG.out.1 e0; have e1 := kcell hk4 HG.out.1 e1; have e2 := kcell hk4 HG.out.1 e2; have r0 := kcell hk4 HG.out.2.1 r0; have r1 := kcell hk4 HG.out.2.1 r1; have t3 := kcell hk4 HG.out.2.2 t3; have tf := blk_free ((hk4.block _ (t_lt HA.out.1.tb) HG.out.2.2).trans HA.out.1.tb) 3; have H4 : Hid _ := And.intro hown4 hk4; clear hown4 hgrow4 hat4 hlt4 hk4)
                    refine hK.out _ _ ?_ (fun hHeld => ?_)
                    · exact ⟨e0, e1, e2, r0, r1⟩
                    clear hK K
                    (try simp only [Act.put, List.setIfInBounds_toArray, List.set_cons_zero, List.set_cons_succ])
                    refine wpAnyH_take (i := 26) (oi := _) (v := ?_) rfl (by kernel_rfl) (by kernel_rfl) (by kernel_rfl) (fun _ _ _ h => h) (Or.inl ⟨by rfl, ?_⟩) (by assumption) ?_
                    rotate_left
                    · (intro w hSw; (try dsimp only at hSw); go_simp; (try with_reducible rfl))
                    (try simp only [Act.put, List.setIfInBounds_toArray, List.set_cons_zero, List.set_cons_succ])
                    refine wpAnyH_ready (rs := [27]) (by kernel_rfl) (by simp) ?_
                    refine AllReadyH.cons (o := _) rfl (fun K hK => ?_) ?_
                    · go_simp
                      refine hK.out _ _ ?_ (fun hHeld => ?_)
                      · ((try dsimp only); go_keep)
                      clear hK K
                      (try simp only [Act.put, List.setIfInBounds_toArray, List.set_cons_zero, List.set_cons_succ])
                      refine wpAnyH_done (by kernel_rfl) ?_ _
                      (try go_simp)
                      go_wp2_with fail
                      go_roundg (L - (j + 1))
                      case measure => omega
                      case rel => exact ⟨j + 1, _, rfl, by omega, by go_num, by rw [Sy.cutE_take HA.out.2.1, if_pos HA.out.2.2.1, ← HA.out.2.2.2.1, ← HA.out.2.2.2.2.1]; exact HA.out.1.grow HA.out.2.2.2.2.2 (ra, e.2.1, rb) H4.out.1 H4.out.2⟩
                    exact AllReadyH.nil
                  exact AllReadyH.nil
                exact AllReadyH.nil
              refine AllReadyH.cons (o := _) rfl (fun K hK => ?_) ?_
              · go_simp
                refine hK.out _ _ ?_ (fun hHeld => ?_)
                · ((try dsimp only); go_keep)
                clear hK K
                (try simp only [Act.put, List.setIfInBounds_toArray, List.set_cons_zero, List.set_cons_succ])
                refine wpAnyH_ready (rs := [1]) (by kernel_rfl) (by simp) ?_
                refine AllReadyH.cons (o := _) rfl (fun K hK => ?_) ?_
                · go_simp
                  refine hK.out _ _ ?_ (fun hHeld => ?_)
                  · ((try dsimp only); go_keep)
                  clear hK K
                  (try simp only [Act.put, List.setIfInBounds_toArray, List.set_cons_zero, List.set_cons_succ])
                  refine wpAnyH_ready (rs := [25]) (by kernel_rfl) (by simp) ?_
                  refine AllReadyH.cons (o := _) rfl (fun K hK => ?_) ?_
                  · (refine step_append_lies _ (by rfl) _ _ _ (by rfl) w6.heap.size 49 i0 _ 3 24 Tryd.underlying22 hi0 hz0 hz1 hz2 rfl (by decide) (.slice au N cu) N (BEdges.C (Sy.cutE bs (l.take j))) (by rfl) HD.out ⟨wr.heap.size, 0, none⟩ 1 1 [.int .i64 ra, .int .i64 e.2.1, .int .i64 rb] (by rfl) (by rfl) (World.news_of_block (cs := #[.int .i64 ra, .int .i64 e.2.1, .int .i64 rb]) (t := 49) (fr := (0, 0)) (heap_alloc_new wr.drew _)) (by simp [Value.oneCell']) Nat.one_pos hml hby hle (wr.heap.size + 1) (by simp) ?_; intro g4 k4 w4 hown4 hgrow4 hat4 hlt4; have hk4 : Kept (fun b => (Value.slice au N cu).ownBlock = some b) wr w4 := (Kept.of_below ((Below.refl _ wr).drew)).trans (grown_alloc (w := wr.drew) hgrow4); have e0 := kcell hk4 HG.out.1 e0; have e1 := kcell hk4 HG.out.1 e1; have e2 := kcell hk4 HG.out.1 e2; have r0 := kcell hk4 HG.out.2.1 r0; have r1 := kcell hk4 HG.out.2.1 r1; have t3 := kcell hk4 HG.out.2.2 t3; have tf := blk_free ((hk4.block _ (t_lt HA.out.1.tb) HG.out.2.2).trans HA.out.1.tb) 3; have H4 : Hid _ := And.intro hown4 hk4; clear hown4 hgrow4 hat4 hlt4 hk4)
                    refine hK.out _ _ ?_ (fun hHeld => ?_)
                    · exact ⟨e0, e1, e2, r0, r1⟩
                    clear hK K
                    (try simp only [Act.put, List.setIfInBounds_toArray, List.set_cons_zero, List.set_cons_succ])
                    refine wpAnyH_take (i := 26) (oi := _) (v := ?_) rfl (by kernel_rfl) (by kernel_rfl) (by kernel_rfl) (fun _ _ _ h => h) (Or.inl ⟨by rfl, ?_⟩) (by assumption) ?_
                    rotate_left
                    · (intro w hSw; (try dsimp only at hSw); go_simp; (try with_reducible rfl))
                    (try simp only [Act.put, List.setIfInBounds_toArray, List.set_cons_zero, List.set_cons_succ])
                    refine wpAnyH_ready (rs := [27]) (by kernel_rfl) (by simp) ?_
                    refine AllReadyH.cons (o := _) rfl (fun K hK => ?_) ?_
                    · go_simp
                      refine hK.out _ _ ?_ (fun hHeld => ?_)
                      · ((try dsimp only); go_keep)
                      clear hK K
                      (try simp only [Act.put, List.setIfInBounds_toArray, List.set_cons_zero, List.set_cons_succ])
                      refine wpAnyH_done (by kernel_rfl) ?_ _
                      (try go_simp)
                      go_wp2_with fail
                      go_roundg (L - (j + 1))
                      case measure => omega
                      case rel => exact ⟨j + 1, _, rfl, by omega, by go_num, by rw [Sy.cutE_take HA.out.2.1, if_pos HA.out.2.2.1, ← HA.out.2.2.2.1, ← HA.out.2.2.2.2.1]; exact HA.out.1.grow HA.out.2.2.2.2.2 (ra, e.2.1, rb) H4.out.1 H4.out.2⟩
                    exact AllReadyH.nil
                  exact AllReadyH.nil
                exact AllReadyH.nil
              exact AllReadyH.nil
          · obtain rfl : j = L := by omega
            have q1 : ¬ (j : Int) < (j : Int) := by omega
            have hjt : l.take j = l := List.take_of_length_le (by have := HT.out.2.1; omega)
            rw [hjt] at hT hN
            obtain ⟨t0, t1, t2, t3⟩ := four_cells hT.tb
            obtain ⟨y0, y1, y2, y3⟩ := four_cells hT.a.res
            have z0 := blk_free hT.a.res 0
            have z1 := blk_free hT.a.res 1
            have z2 := blk_free hT.a.res 2
            have z3 := blk_free hT.a.res 3
            have hbb : ¬ w.heap.size + 1 = bt := by have := hT.hi; omega
            have hbb2 : ¬ bt = w.heap.size + 1 := fun h => hbb h.symm
            have HA : Hid _ := And.intro hT hN
            clear hT hN hjt
            go_wp2_with fail
            obtain ⟨f1, f2, f3, f4⟩ := cut_fin HA.out.1 HC.out.2.1 hn rfl
            generalize ((((wr.setCell ⟨w.heap.size + 1, 0, none⟩ (.int .i64 c)).setCell ⟨w.heap.size + 1, 1, none⟩ (.int .i64 k)).setCell ⟨w.heap.size + 1, 2, none⟩ (.int .i64 sr)).setCell ⟨w.heap.size + 1, 3, none⟩ (.slice au N cu)) = wf at f1 f2 f3 f4 ⊢
            clear t0 t1 t2 t3 y0 y1 y2 y3 z0 z1 z2 z3
            obtain ⟨d0, d1, d2, d3⟩ := four_cells f2
            refine bodyPost_ret (v := .tuple #[.agg #[.int .i64 c, .int .i64 k, .int .i64 sr, .slice au N cu], .slice (some ⟨ga, 0, none⟩) i i]) (by simp [results, Tryd.results18, go_sem, d0, d1, d2, d3]) rfl ⟨bs, .slice au N cu, .slice (some ⟨ga, 0, none⟩) i i, ?_, HC.out.2.1, HC.out.2.2, by rw [← HT.out.2.2.2]; exact f3, f4, f1⟩
            rw [← HX.out.2]
            unfold Sy.startOf
            rw [if_pos HZ.out.1, ← HZ.out.2]
end Go.Proofs.YtmfcfiiggmkbpaaDoor
