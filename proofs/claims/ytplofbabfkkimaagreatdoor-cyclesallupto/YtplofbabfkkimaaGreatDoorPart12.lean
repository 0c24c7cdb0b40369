/- Texts of this claim, joined: TsDCyc, TsAgain, TsDCol, TsDOrd, TsBad, HaTau. -/
import Derived.Test.YtplofbabfkkimaaGreatDoorPart0
import Derived.Test.YtplofbabfkkimaaGreatDoorPart11
import Derived.Test.YtplofbabfkkimaaGreatDoorPart8
import Derived.Deep.RegionHeld3
import Derived.Test.YtplofbabfkkimaaGreatDoorPart6
import Derived.Test.YtplofbabfkkimaaGreatDoorPart5
import Derived.Deep.AppendLies
import Derived.Deep.DeepCutAuto
/- tauscc: the contract of the document's Cycles. -/
namespace Go.Proofs.YtplofbabfkkimaaGreatDoor.Ts
open Go.RowKit Go.Maps
attribute [local go_sem ↓] Go.wp_at_zero Go.wp_at_succ
theorem own_hasE {w : World} {B : Nat} {v : Value} {L : List Sy.Ed} (h : BEdges.Own w B v L) : HasE w v L := by
 have h1 := h.has
 rcases h.2 with ⟨rfl, h0⟩ | ⟨g, cap, cur, rfl, _, _, hc, _⟩
 ·exact ⟨none, 0, by rw [h0], by omega, h1⟩
 ·exact ⟨_, cap, rfl, hc, h1⟩
theorem arr_ownI {w wx : World} {gi n : Nat} {A : Nat → Int} (h : Arr 3 w wx gi (il n A)) (hn : n ≤ 1000000) : OwnI wx w.heap.size (.slice (some ⟨gi, 0, none⟩) n n) ((List.range n).map A) := by
 have h1 := h.own (by rw [il_len]; unfold maxLen; omega)
 rw [il_len] at h1
 unfold OwnI
 rw [List.length_map, List.length_range, show iC ((List.range n).map A) = il n A by simp [iC, il]]
 exact h1
set_option linter.unusedSimpArgs false in
set_option maxRecDepth 100000 in
set_option maxHeartbeats 8000000 in
theorem docCycles_any (n : Nat) (k s : Int) (v : Value) (es : List Sy.Ed) (w : World) (hv : HasE w v es) (hq : Sy.right n k s es = true) :
 Calls Tryz.prog 34 #[sysV n k s v] w fun r w' => ∃ (u : Value) (cl : List Nat), r = .returned u ∧ Cl n es cl ∧ OwnI w' w.heap.size u (natI cl) ∧ Below w.heap.size w w' := by
 obtain ⟨⟨_, hn1⟩, _, hl, _, _, hin⟩ := right_parts hq
 have hn : n ≤ 1000 := by omega
 obtain ⟨w1, hw1⟩ : ∃ w1, w1 = w.alloc (.cells #[.int .i64 n, .int .i64 k, .int .i64 s, v] 24) := ⟨_, rfl⟩
 have hb1 : Below w.heap.size w w1 := by rw [hw1]; exact (Below.refl _ _).alloc (Nat.le_refl _) _
 have hg1 : w1.heap[w.heap.size]? = some (.cells #[.int .i64 n, .int .i64 k, .int .i64 s, v] 24 (0, 0)) := by rw [hw1]; exact heap_alloc_new w _
 have hO := fun W (hb : Below w1.heap.size w1 W) => refOut_any n k s v es W (by omega) ((hv.below hb1).below hb) (by omega) fun e he => ⟨(hin e he).1, (hin e he).2.1⟩
 have hB := fun W (hb : Below w1.heap.size w1 W) => refBack_any n k s v es W ((hv.below hb1).below hb) (by omega)
 have hOB := fun W (u : Value) (hu : HasE W u (es.map Sy.turn)) => refOut_any n k s u (es.map Sy.turn) W (by omega) hu (by rw [List.length_map]; omega) fun e he => by
  obtain ⟨e1, e2, e3⟩ := e
  have h1 := hin _ (turn_mem2.1 he)
  simp only at h1
  exact ⟨h1.2.2.1, h1.2.2.2.1⟩
 have hF1 : RowsOk n fun i => Sy.steps (Sy.nf es) i := rowsOk_of (by omega) fun e he => ⟨(hin e he).2.2.1, (hin e he).2.2.2.1, (hin e he).2.2.2.2.1⟩
 have hF2 : RowsOk n fun i => Sy.steps (Sy.nf (es.map Sy.turn)) i := rowsOk_of (by rw [List.length_map]; omega) fun e he => by
  obtain ⟨e1, e2, e3⟩ := e
  have h1 := hin _ (turn_mem2.1 he)
  simp only at h1
  exact ⟨h1.1, h1.2.1, h1.2.2.2.2.1⟩
 unfold sysV at hO hB hOB ⊢
 have H1 : Hid _ := And.intro hw1 (And.intro hb1 (And.intro hg1 (And.intro hO (And.intro hB (And.intro hOB (And.intro hF1 (And.intro hF2 hq)))))))
 obtain ⟨x0, x1, x2, x3⟩ := four_cells hg1
 have HS : Hid (∀ W, Below w1.heap.size w1 W → (W.cell? ⟨w.heap.size, 0, none⟩ = some (.int .i64 n) ∧ W.cell? ⟨w.heap.size, 1, none⟩ = some (.int .i64 k) ∧ W.cell? ⟨w.heap.size, 2, none⟩ = some (.int .i64 s) ∧ W.cell? ⟨w.heap.size, 3, none⟩ = some v)) := (fun W hb => ⟨cell_up x0 hb, cell_up x1 hb, cell_up x2 hb, cell_up x3 hb⟩ : ∀ W, Below w1.heap.size w1 W → (W.cell? ⟨w.heap.size, 0, none⟩ = some (.int .i64 n) ∧ W.cell? ⟨w.heap.size, 1, none⟩ = some (.int .i64 k) ∧ W.cell? ⟨w.heap.size, 2, none⟩ = some (.int .i64 s) ∧ W.cell? ⟨w.heap.size, 3, none⟩ = some v))
 obtain ⟨va, vn, vc, rfl⟩ : ∃ a m c, v = .slice a m c := by obtain ⟨ao, cap, rfl, _⟩ := hv; exact ⟨_, _, _, rfl⟩
 clear hv hw1 hb1 hg1 hO hB hOB hF1 hF2 hq hin hl hn1
 go_enter Tryz.func34, Tryz.ntmps34
 go_upto_region 1 with fail
 rw [← H1.out.1]
 go_cut [3, 4] (fun s3 s4 wx => ∃ g1 g2 : Nat, s3 = .slice (some ⟨g1, 0, none⟩) n n ∧ s4 = .slice (some ⟨g2, 0, none⟩) n n ∧ Below w1.heap.size w1 wx ∧ RowsAt wx g1 n (fun i => Sy.steps (Sy.nf es) i) ∧ RowsAt wx g2 n (fun i => Sy.steps (Sy.nf (es.map Sy.turn)) i))
 case first =>
  refine wp_region_held_drew (S := (fun W => W.cell? ⟨w.heap.size, 0, none⟩ = some (.int .i64 n) ∧ W.cell? ⟨w.heap.size, 1, none⟩ = some (.int .i64 k) ∧ W.cell? ⟨w.heap.size, 2, none⟩ = some (.int .i64 s) ∧ W.cell? ⟨w.heap.size, 3, none⟩ = some (.slice va vn vc))) (by kernel_rfl) ?_ (fun hHeld => ?_)
  ·exact HS.out _ ((Below.refl _ _).drew)
  refine tk9 0 ?_ rfl (by kernel_rfl) (fun _ _ _ h => h) ⟨by rfl, ?_⟩ (by assumption) ?_; rotate_left; (focus (intro w hSw; (try dsimp only at hSw); go_simp; (try with_reducible rfl))); (try simp only [ty9, Act.put])
  refine tk9 2 ?_ rfl (by kernel_rfl) (fun _ _ _ h => h) ⟨by rfl, ?_⟩ (by assumption) ?_; rotate_left; (focus (intro w hSw; (try dsimp only at hSw); go_simp; (try with_reducible rfl))); (try simp only [ty9, Act.put])
  refine wpAnyH_ready (rs := [1]) (by kernel_rfl) (by simp) ?_
  refine AllReadyH.cons (o := _) rfl (fun K hK => ?_) ?_
  ·(go_simp; go_at_call 37; refine Calls.mono (H1.out.2.2.2.1 _ ((Below.refl _ _).drew)) ?_; rintro r3 w3 ⟨g1, us1, rfl, hA1, hO1⟩; have H3 : Hid _ := And.intro (((Below.refl w1.heap.size w1).drew).trans hA1.bl) (rowsAt_of hA1 hO1); clear hA1 hO1)
   (try go_wp2_with fail)
   refine hK.out _ _ ?_ (fun hHeld => ?_)
   ·exact HS.out _ H3.out.1
   clear hK K
   (try simp only [ty9, Act.put])
   refine wpAnyH_ready (rs := [3]) (by kernel_rfl) (by simp) ?_
   refine AllReadyH.cons (o := _) rfl (fun K hK => ?_) ?_
   ·(go_simp; go_at_call 101; refine Calls.mono (H1.out.2.2.2.2.1 _ H3.out.1) ?_; rintro r4 w4 ⟨ub, rfl, hOb, hb4⟩; have H4 : Hid _ := And.intro (own_hasE hOb) (And.intro hb4 (H3.out.1.trans (hb4.mono H3.out.1.size))); clear hOb hb4)
    (try go_wp2_with fail)
    refine hK.out _ _ ?_ (fun hHeld => ?_)
    ·exact HS.out _ H4.out.2.2
    clear hK K
    (try simp only [ty9, Act.put])
    refine wpAnyH_ready (rs := [4]) (by kernel_rfl) (by simp) ?_
    refine AllReadyH.cons (o := _) rfl (fun K hK => ?_) ?_
    ·(go_simp; go_at_call 37; refine Calls.mono (H1.out.2.2.2.2.2.1 _ ub H4.out.1) ?_; rintro r5 w5 ⟨g2, us2, rfl, hA2, hO2⟩; have H5 : Hid _ := And.intro hA2.bl (rowsAt_of hA2 hO2); clear hA2 hO2)
     (try go_wp2_with fail)
     refine hK.out _ _ ?_ (fun hHeld => ?_)
     ·exact HS.out _ (H4.out.2.2.trans (H5.out.1.mono H4.out.2.2.size))
     clear hK K
     (try simp only [ty9, Act.put])
     refine tk9 5 ?_ rfl (by kernel_rfl) (fun _ _ _ h => h) ⟨by rfl, ?_⟩ (by assumption) ?_; rotate_left; (focus (intro w hSw; (try dsimp only at hSw); go_simp; (try with_reducible rfl))); (try simp only [ty9, Act.put])
     refine tk9 6 ?_ rfl (by kernel_rfl) (fun _ _ _ h => h) ⟨by rfl, ?_⟩ (by assumption) ?_; rotate_left; (focus (intro w hSw; (try dsimp only at hSw); go_simp; (try with_reducible rfl))); (try simp only [ty9, Act.put])
     refine wpAnyH_done (by kernel_rfl) ?_ _
     refine Met.intro ?_
     apply_assumption
     refine Met.intro ?_
     apply_assumption
     (repeat apply Exists.intro)
     refine ⟨?_, rfl⟩
     exact ⟨g1, g2, rfl, rfl, H4.out.2.2.trans (H5.out.1.mono H4.out.2.2.size), (H3.out.2.below H4.out.2.1).below H5.out.1, H5.out.2⟩
    exact AllReadyH.nil
   exact AllReadyH.nil
  exact AllReadyH.nil
 case rest =>
  obtain ⟨g1, g2, rfl, rfl, hbc, hR1, hR2⟩ := hcut
  clear x0 x1 x2 x3
  obtain ⟨x0, x1, x2, x3⟩ := HS.out wc hbc
  have hmk := makeI n (by omega) wc
  have hA0 := arr_new 3 (.int .i64 0) rfl n wc
  obtain ⟨w5, hw5⟩ : ∃ w5, w5 = wc.alloc (.cells (madeV (.int .i64 0) n) 3) := ⟨_, rfl⟩
  rw [← hw5] at hmk hA0
  rw [il_zero] at hA0
  obtain ⟨gi, hgi⟩ : ∃ gi, gi = wc.heap.size := ⟨_, rfl⟩
  rw [← hgi] at hmk hA0
  have hFa := fun W (hb : Below wc.heap.size wc W) (i : Nat) (hi : i < n) => docFrom_any n i g1 _ W hn hi (hR1.below hb) H1.out.2.2.2.2.2.2.1
  have hFb := fun W (hb : Below wc.heap.size wc W) (i : Nat) (hi : i < n) => docFrom_any n i g2 _ W hn hi (hR2.below hb) H1.out.2.2.2.2.2.2.2.1
  have HC : Hid _ := And.intro hbc (And.intro hA0 (And.intro hFa hFb))
  clear hbc hR1 hR2 hA0 hw5 hgi hFa hFb
  go_wp2_with fail
  clear hmk
  go_loopg [6] n (fun q s6 wx => ∃ j : Nat, q = n - j ∧ j ≤ n ∧ s6 = .int .i64 j ∧ Arr 3 wc wx gi (il n fun k => if k < j then -1 else 0))
  case atStart => exact ⟨0, rfl, Nat.zero_le _, rfl, by have h9 := HC.out.2.1; rw [il_congr (v := fun k => if k < 0 then -1 else 0) (fun p _ => by simp)] at h9; exact h9⟩
  case round =>
   obtain ⟨j, rfl, hj, rfl, hA⟩ := hrel
   clear x0 x1 x2 x3
   obtain ⟨x0, x1, x2, x3⟩ := HS.out wr (HC.out.1.trans (hA.bl.mono HC.out.1.size))
   by_cases hlt : j < n
   ·have u0 := hA.cell (il_at (fun k => if k < j then (-1 : Int) else 0) hlt)
    rw [if_neg (Nat.lt_irrefl j)] at u0
    have uf := hA.free j
    have p0 : (0 : Int) ≤ (j : Int) := by omega
    have p1 : (j : Int) < (n : Int) := by omega
    have p6 : IntKind.i64.wrap ((j : Int) + 1) = (j : Int) + 1 := by rw [IntKind.wrap_i64]; omega
    have HA : Hid _ := hA
    clear hA
    go_wp2_with fail
    go_roundg (n - (j + 1))
    case measure => omega
    case rel =>
     refine ⟨j + 1, rfl, by omega, by go_num, ?_⟩
     have h9 := HA.out.set j (.int .i64 (-1))
     rw [il_set, il_congr (v := fun k => if k < j + 1 then -1 else 0) (fun p _ => by
      by_cases e : p = j
      ·subst e; simp
      ·by_cases h : p < j
       ·rw [if_neg e, if_pos h, if_pos (by omega)]
       ·rw [if_neg e, if_neg h, if_neg (by omega)])] at h9
     exact h9
   ·obtain rfl : n = j := by omega
    have p1 : ¬ (n : Int) < (n : Int) := by omega
    rw [il_congr (v := fun _ => -1) (fun p hp => by rw [if_pos hp])] at hA
    have HA : Hid _ := hA
    clear hA hj hlt
    obtain ⟨wo, rfl⟩ : ∃ wo, wo = wr := ⟨_, rfl⟩
    go_wp2_with fail
    go_loopg [7, 8] n (fun q s7 s8 wx => ∃ (i c : Nat) (A : Nat → Int), q = n - i ∧ i ≤ n ∧ c ≤ i ∧ s7 = .int .i64 c ∧ s8 = .int .i64 i ∧ Cg n (sil n es) i c A ∧ Arr 3 wc wx gi (il n A))
    case atStart => exact ⟨0, 0, fun _ => -1, rfl, Nat.zero_le _, Nat.le_refl _, rfl, rfl, Cg.new n (sil n es), HA.out⟩
    case round =>
     obtain ⟨i, c, A, rfl, hi, hci, rfl, rfl, hC, hA⟩ := hrel
     clear x0 x1 x2 x3 p1
     obtain ⟨x0, x1, x2, x3⟩ := HS.out wr (HC.out.1.trans (hA.bl.mono HC.out.1.size))
     by_cases hlt : i < n
     ·have u0 := hA.cell (il_at A hlt)
      obtain ⟨z, hz⟩ : ∃ z, z = A i := ⟨_, rfl⟩
      rw [← hz] at u0
      have p0 : (0 : Int) ≤ (i : Int) := by omega
      have p1 : (i : Int) < (n : Int) := by omega
      have p6 : IntKind.i64.wrap ((i : Int) + 1) = (i : Int) + 1 := by rw [IntKind.wrap_i64]; omega
      have p7 : IntKind.i64.wrap ((c : Int) + 1) = (c : Int) + 1 := by rw [IntKind.wrap_i64]; omega
      by_cases h0 : 0 ≤ z
      ·have HB : Hid _ := And.intro (hC.skip hlt (by rw [← hz]; exact h0)) hA
       clear hC hA hz
       go_wp2_with fail
       go_roundg (n - (i + 1))
       case measure => omega
       case rel => exact ⟨i + 1, c, A, rfl, by omega, by omega, rfl, by go_num, HB.out.1, HB.out.2⟩
      ·have hM := hC.more hlt (by rw [← hz]; omega)
       have HB : Hid _ := And.intro hM (And.intro hA (And.intro hlt hci))
       clear hC hA hz hM
       go_wp2_with fail
       refine Calls.mono (HC.out.2.2.1 wr HB.out.2.1.bl i HB.out.2.2.1) ?_
       rintro r6 w6 ⟨ga, rfl, hAa⟩
       have H6 : Hid _ := And.intro hAa (HB.out.2.1.bl.trans (hAa.bl.mono HB.out.2.1.bl.size))
       clear hAa u0 x0 x1 x2 x3
       obtain ⟨x0, x1, x2, x3⟩ := HS.out w6 (HC.out.1.trans (H6.out.2.mono HC.out.1.size))
       go_wp2_with fail
       refine Calls.mono (HC.out.2.2.2 w6 H6.out.2 i HB.out.2.2.1) ?_
       rintro r7 w7 ⟨gb, rfl, hAb⟩
       have H7 : Hid _ := And.intro hAb (H6.out.2.trans (hAb.bl.mono H6.out.2.size))
       clear hAb
       have hA7 : Arr 3 wc w7 gi (il n (clsT (sil n es) i c A 0)) := by
        have h9 := (HB.out.2.1.below H6.out.1.bl).below H7.out.1.bl
        rw [il_congr (v := clsT (sil n es) i c A 0) (fun p _ => (clsT_zero _ _ _ _ p).symm)] at h9
        exact h9
       have hAa7 := H6.out.1.below H7.out.1.bl
       have hlt6 : gi < w6.heap.size := by have := HB.out.2.1.lt; have := H6.out.1.bl.size; omega
       have H8 : Hid _ := And.intro hA7 (And.intro hAa7 (by have h1 := H6.out.1.gu; have h2 := H7.out.1.gu; have h3 := HB.out.2.1.lt; omega : ¬ ga = gi ∧ ¬ gb = gi))
       clear hA7 hAa7 hlt6 x0 x1 x2 x3
       obtain ⟨x0, x1, x2, x3⟩ := HS.out w7 (HC.out.1.trans (H7.out.2.mono HC.out.1.size))
       obtain ⟨wq, rfl⟩ : ∃ wq, wq = wr := ⟨_, rfl⟩
       go_wp2_with fail
       go_loopg [11] n (fun q s11 wx => ∃ k : Nat, q = n - k ∧ k ≤ n ∧ s11 = .int .i64 k ∧ Arr 3 wc wx gi (il n (clsT (sil n es) i c A k)) ∧ Kept (fun b => b = gi) w7 wx)
       case atStart => exact ⟨0, rfl, Nat.zero_le _, rfl, H8.out.1, Kept.refl _ _⟩
       case round =>
        obtain ⟨kk, rfl, hk, rfl, hA, hK⟩ := hrel
        clear x0 x1 x2 x3
        obtain ⟨x0, x1, x2, x3⟩ := HS.out wr (HC.out.1.trans (hA.bl.mono HC.out.1.size))
        by_cases hkn : kk < n
        ·have a0 := kcell hK H8.out.2.2.1 (H8.out.2.1.cell (bl_at _ hkn))
         have b0 := kcell hK H8.out.2.2.2 (H7.out.1.cell (bl_at _ hkn))
         have u1 := hA.cell (il_at (clsT (sil n es) i c A kk) hkn)
         have uf := hA.free kk
         have r0 : (0 : Int) ≤ (kk : Int) := by omega
         have r1 : (kk : Int) < (n : Int) := by omega
         have r6 : IntKind.i64.wrap ((kk : Int) + 1) = (kk : Int) + 1 := by rw [IntKind.wrap_i64]; omega
         have hbi := both_iff H1.out.2.2.2.2.2.2.2.2 i kk
         obtain ⟨av, hav⟩ : ∃ av, av = rtB (silF fun i => Sy.steps (Sy.nf es) i) i kk := ⟨_, rfl⟩
         obtain ⟨bv, hbv⟩ : ∃ bv, bv = rtB (silF fun i => Sy.steps (Sy.nf (es.map Sy.turn)) i) i kk := ⟨_, rfl⟩
         rw [← hav] at a0 hbi
         rw [← hbv] at b0 hbi
         clear hav hbv
         have HD : Hid _ := And.intro hA (And.intro hK hbi)
         clear hA hK hbi
         cases av with
         | true =>
           cases bv with
           | true =>
             go_wp2_with fail
             go_roundg (n - (kk + 1))
             case measure => omega
             case rel =>
              refine ⟨kk + 1, rfl, by omega, by go_num, ?_, HD.out.2.1.trans (Kept.setCell _ gi kk _)⟩
              have h9 := HD.out.1.set kk (.int .i64 c)
              rw [il_set, il_congr (fun p _ => clsT_hit (HD.out.2.2.1 (by simp)) p)] at h9
              exact h9
           | false =>
             go_wp2_with fail
             go_roundg (n - (kk + 1))
             case measure => omega
             case rel =>
              refine ⟨kk + 1, rfl, by omega, by go_num, ?_, HD.out.2.1⟩
              have h9 := HD.out.1
              rw [il_congr (fun p _ => clsT_miss (fun hT => by have := HD.out.2.2.2 hT; simp at this) p)] at h9
              exact h9
         | false =>
           go_wp2_with fail
           go_roundg (n - (kk + 1))
           case measure => omega
           case rel =>
            refine ⟨kk + 1, rfl, by omega, by go_num, ?_, HD.out.2.1⟩
            have h9 := HD.out.1
            rw [il_congr (fun p _ => clsT_miss (fun hT => by have := HD.out.2.2.2 hT; simp at this) p)] at h9
            exact h9
        ·obtain rfl : n = kk := by omega
         have r1 : ¬ (n : Int) < (n : Int) := by omega
         have HD : Hid _ := hA
         clear hA hK hk hkn
         go_wp2_with fail
         go_roundg (n - (i + 1))
         case measure => have := HB.out.2.2.1; omega
         case rel => exact ⟨i + 1, c + 1, _, rfl, by have := HB.out.2.2.1; omega, by have := HB.out.2.2.2; omega, by go_num, by go_num, HB.out.1, HD.out⟩
     ·obtain rfl : n = i := by omega
      have p1 : ¬ (n : Int) < (n : Int) := by omega
      have HB : Hid _ := And.intro hC hA
      clear hC hA hi hlt
      go_wp2_with fail
      go_ret
      obtain ⟨e1, e2⟩ := HB.out.1.cl
      have b1 := H1.out.2.1.trans (HC.out.1.mono H1.out.2.1.size)
      refine ⟨_, rfl, _, e2, ?_, b1.trans (HB.out.2.bl.mono b1.size)⟩
      rw [e1]
      exact own_lower (arr_ownI HB.out.2 (by omega)) b1.size
end Go.Proofs.YtplofbabfkkimaaGreatDoor.Ts
/- tauscc: Collapse and Order of a collapsed system. -/
namespace Go.Proofs.YtplofbabfkkimaaGreatDoor.Ts
open Go.RowKit Go.Maps
theorem btw_free {cl : List Nat} {es : List Sy.Ed} : ∀ e ∈ Sy.nf (btw cl es), ¬ (e.2.1 = 0 ∧ e.1 = e.2.2) := fun e he h => by
 obtain ⟨d, _, hk, rfl⟩ := btw_mem.1 ((Sy.nf_mem _ _).1 he)
 unfold Ts.onto at h
 simp only at h
 unfold keep at hk
 rw [h.1, h.2] at hk
 simp at hk
structure Again (m : Nat) (k s : Int) (E : List Sy.Ed) : Prop where
 right : Sy.right m k s E = true
 nf : Sy.nf E = E
 acy : Acy m (sil m E)
 free : ∀ e ∈ E, ¬ (e.2.1 = 0 ∧ e.1 = e.2.2)
theorem Cl.again {n : Nat} {k s : Int} {es : List Sy.Ed} {cl : List Nat} (h : Cl n es cl) (hr : Sy.right n k s es = true) : Again (tog cl) k (sta n cl s) (Sy.nf (btw cl es)) :=
 ⟨right_nf (small_right h hr), Sy.nf_idem _, (h.acy hr).nf, btw_free⟩
structure Od (m : Nat) (E : List Sy.Ed) (od : List Nat) : Prop where
 len : od.length = m
 nodup : od.Nodup
 lt : ∀ x ∈ od, x < m
 all : ∀ x, x < m → x ∈ od
 ends : ∀ (j x y : Nat), od[j]? = some x → y ∈ sil m E x → y ∈ od.take j
end Go.Proofs.YtplofbabfkkimaaGreatDoor.Ts
/- tauscc: the contract of the document's Collapse. -/
namespace Go.Proofs.YtplofbabfkkimaaGreatDoor.Ts
open Go.RowKit Go.Maps
attribute [local go_sem ↓] Go.wp_at_zero Go.wp_at_succ
theorem dcol_store {w W : World} {gm : Nat} (hb : Below w.heap.size w W) (hz : W.heap[gm]? = some (.cells #[.int .i64 0, .int .i64 0, .int .i64 0, .slice none 0 0] 24 (0, 0))) (hg : w.heap.size ≤ gm) (a b : Value) : ((((W.setCell ⟨gm, 0, none⟩ a).setCell ⟨gm, 1, none⟩ b).setCell ⟨gm, 2, none⟩ (.int .i64 0)).setCell ⟨gm, 3, none⟩ (.slice none 0 0)).heap[gm]? = some (.cells #[a, b, .int .i64 0, .slice none 0 0] 24 (0, 0)) ∧ Below w.heap.size w ((((W.setCell ⟨gm, 0, none⟩ a).setCell ⟨gm, 1, none⟩ b).setCell ⟨gm, 2, none⟩ (.int .i64 0)).setCell ⟨gm, 3, none⟩ (.slice none 0 0)) :=
 ⟨four_set hz, (((hb.setCell hg _).setCell hg _).setCell hg _).setCell hg _⟩
set_option linter.unusedSimpArgs false in
set_option maxRecDepth 100000 in
set_option maxHeartbeats 8000000 in
theorem docCollapse_any (n : Nat) (k s : Int) (v : Value) (es : List Sy.Ed) (w : World) (hv : HasE w v es) (hq : Sy.right n k s es = true) :
 Calls Tryz.prog 14 #[sysV n k s v] w fun r w' => ∃ (ue u : Value) (cl : List Nat), r = .returned (.tuple #[sysV (tog cl) k (sta n cl s) ue, u]) ∧ Cl n es cl ∧ BEdges.Own w' w.heap.size ue (Sy.nf (btw cl es)) ∧ OwnI w' w.heap.size u (natI cl) ∧ Below w.heap.size w w' := by
 obtain ⟨i0, hi0, hz0, hz1, hz2⟩ := info_parts BEdges.Tryz.infoE
 have hvs := hv
 obtain ⟨va, vc, rfl, hcap, hH⟩ := hvs
 obtain ⟨L, hL⟩ : ∃ L, L = es.length := ⟨_, rfl⟩
 rw [← hL] at hcap hv ⊢
 obtain ⟨w1, hw1⟩ : ∃ w1, w1 = (w.alloc (.cells #[.int .i64 n, .int .i64 k, .int .i64 s, .slice va L vc] 24)).alloc (.cells #[.int .i64 0, .int .i64 0, .int .i64 0, .slice none 0 0] 24) := ⟨_, rfl⟩
 have hb1 : Below w.heap.size w w1 := by rw [hw1]; exact ((Below.refl _ _).alloc (Nat.le_refl _) _).alloc (by simp) _
 have hr1 : w1.heap[w.heap.size + 1]? = some (.cells #[.int .i64 0, .int .i64 0, .int .i64 0, .slice none 0 0] 24 (0, 0)) := by rw [hw1]; exact two_alloc w _ _
 have hg1 : w1.heap[w.heap.size]? = some (.cells #[.int .i64 n, .int .i64 k, .int .i64 s, .slice va L vc] 24 (0, 0)) := by rw [hw1, Below.heap_alloc _ _ _ (by simp)]; exact heap_alloc_new w _
 have hC := docCycles_any n k s (.slice va L vc) es w1 (hv.below hb1) hq
 have hlen : L ≤ 10000 := by rw [hL]; exact (right_parts hq).2.2.1
 obtain ⟨x0, x1, x2, x3⟩ := four_cells hg1
 have hHw : BEdges.Has w (.slice va L vc) es := by rw [hL]; exact hH
 unfold sysV at hC ⊢
 have H1 : Hid _ := And.intro hw1 (And.intro hb1 (And.intro hr1 (And.intro hg1 (And.intro hHw (And.intro hL hq)))))
 have HC : Hid _ := hC
 clear hv hcap hH hHw hL hw1 hb1 hr1 hg1 hC hq
 go_enter Tryz.func14, Tryz.ntmps14
 go_upto_region 1 with fail
 rw [← H1.out.1]
 go_wp2_with fail
 refine Calls.mono HC.out ?_
 rintro r w2 ⟨u, cl, rfl, hCl, hOc, hb2⟩
 obtain ⟨au, cu, hu⟩ := row_shape hOc
 have hcn : (natI cl).length = n := by simp [natI, hCl.len]
 rw [hcn] at hu
 subst hu
 have hT := fun W (hb : Below w2.heap.size w2 W) => refTogether_any (.slice au n cu) (natI cl) W (OwnI.has (own_up4 hOc hb)) (by rw [hcn]; have := (right_parts H1.out.2.2.2.2.2.2).1.2; omega)
 obtain ⟨tg, htg⟩ : ∃ t : Nat, t = tog cl := ⟨_, rfl⟩
 have hT' : ∀ W, Below w2.heap.size w2 W → Calls Tryz.prog 35 #[.slice au n cu] W fun e w' => e = .returned (.int .i64 (tg : Int)) ∧ Below W.heap.size W w' := fun W hb => by rw [htg]; exact hT W hb
 have hb12 := H1.out.2.1.trans (hb2.mono H1.out.2.1.size)
 have hg2 := (hb2.block _ (t_lt H1.out.2.2.2.1)).trans H1.out.2.2.2.1
 have hr2 := (hb2.block _ (t_lt H1.out.2.2.1)).trans H1.out.2.2.1
 clear x0 x1 x2 x3 hT
 obtain ⟨x0, x1, x2, x3⟩ := four_cells hg2
 have c1 := x1
 have HT : Hid _ := hT'
 have H2 : Hid _ := And.intro hCl (And.intro hOc (And.intro hb12 (And.intro hg2 (And.intro hr2 (And.intro htg hcn)))))
 clear hCl hOc hb2 hb12 hg2 hr2 htg hcn hT'
 go_upto_region 2 with fail
 go_cut [5] (fun s5 wx => ∃ gm : Nat, s5 = .pointer (some ⟨gm, 0, none⟩) ∧ w2.heap.size ≤ gm ∧ wx.heap[gm]? = some (.cells #[.int .i64 tg, .int .i64 k, .int .i64 0, .slice none 0 0] 24 (0, 0)) ∧ Below w2.heap.size w2 wx)
 case first =>
  refine wp_region_held_drew (S := (fun w' => w'.cell? ⟨w.heap.size, 1, none⟩ = some (.int .i64 k))) (by kernel_rfl) ?_ (fun hHeld => ?_)
  ·exact c1
  have hb0 : Below w2.heap.size w2 w2.drew := (Below.refl _ _).drew
  refine tk9 0 ?_ rfl (by kernel_rfl) (fun _ _ _ h => h) ⟨by rfl, ?_⟩ (by assumption) ?_; rotate_left; (focus (intro w hSw; (try dsimp only at hSw); go_simp; (try with_reducible rfl))); (try simp only [ty9, Act.put])
  refine tk9 2 ?_ rfl (by kernel_rfl) (fun _ _ _ h => h) ⟨by rfl, ?_⟩ (by assumption) ?_; rotate_left; (focus (intro w hSw; (try dsimp only at hSw); go_simp; (try with_reducible rfl))); (try simp only [ty9, Act.put])
  refine tk9 3 ?_ rfl (by kernel_rfl) (fun _ _ _ h => h) ⟨by rfl, ?_⟩ (by assumption) ?_; rotate_left; (focus (intro w hSw; (try dsimp only at hSw); go_simp; (try with_reducible rfl))); (try simp only [ty9, Act.put])
  refine wpAnyH_ready (rs := [1, 5]) (by kernel_rfl) (by simp) ?_
  refine AllReadyH.cons (o := _) rfl (fun K hK => ?_) ?_
  ·(go_simp; go_at_call 35; refine Calls.mono (HT.out _ hb0) ?_; rintro r4 w4 ⟨rfl, hb⟩; have hb4 : Below w2.heap.size w2 w4 := hb0.trans (hb.mono hb0.size); have HB4 : Hid _ := hb; clear hb)
   (try go_wp2_with fail)
   refine hK.out _ _ ?_ (fun hHeld => ?_)
   ·exact cell_up c1 hb4
   clear hK K
   (try simp only [ty9, Act.put])
   refine tk9 4 ?_ rfl (by kernel_rfl) (fun _ _ _ h => h) ⟨by rfl, ?_⟩ (by assumption) ?_; rotate_left; (focus (intro w hSw; (try dsimp only at hSw); go_simp; (try with_reducible rfl))); (try simp only [ty9, Act.put])
   refine wpAnyH_ready (rs := [5]) (by kernel_rfl) (by simp) ?_
   refine AllReadyH.cons (o := _) rfl (fun K hK => ?_) ?_
   ·(go_simp)
    (try go_wp2_with fail)
    refine hK.out _ _ ?_ (fun hHeld => ?_)
    ·exact cell_al hHeld _
    clear hK K
    obtain ⟨wa, hwa⟩ : ∃ wa, wa = w4.alloc (.cells #[.int .i64 0, .int .i64 0, .int .i64 0, .slice none 0 0] 24) := ⟨_, rfl⟩
    obtain ⟨gm, hgm⟩ : ∃ gm, gm = w4.heap.size := ⟨_, rfl⟩
    have hza : wa.heap[gm]? = some (.cells #[.int .i64 0, .int .i64 0, .int .i64 0, .slice none 0 0] 24 (0, 0)) := (by rw [hwa, hgm]; exact heap_alloc_new w4 _)
    have hba : Below w2.heap.size w2 wa := (by rw [hwa]; exact (hb4.alloc hb4.size _))
    have hgu : w2.heap.size ≤ gm := (by rw [hgm]; exact hb4.size)
    rw [← hwa, ← hgm]
    rw [← hwa] at hHeld
    clear hwa hgm
    (try simp only [ty9, Act.put])
    have hz : wa.heap[gm]? = some (.cells #[.int .i64 0, .int .i64 0, .int .i64 0, .slice none 0 0] 24 (0, 0)) := hza
    obtain ⟨z0, z1, z2, z3⟩ := four_cells hz
    have f0 := blk_free hz 0
    have f1 := blk_free hz 1
    have f2 := blk_free hz 2
    have f3 := blk_free hz 3
    have H9 := dcol_store hba hz hgu (.int .i64 tg) (.int .i64 k)
    have HZ : Hid _ := H9
    clear H9 hz
    refine wpAnyH_ready (rs := [6]) (by kernel_rfl) (by simp) ?_
    refine AllReadyH.cons (o := _) rfl (fun K hK => ?_) ?_
    ·(go_simp)
     (try go_wp2_with fail)
     refine hK.out _ _ ?_ (fun hHeld => ?_)
     ·exact cell_up c1 HZ.out.2
     clear hK K
     (try simp only [ty9, Act.put])
     refine wpAnyH_done (by kernel_rfl) ?_ _
     refine Met.intro ?_
     apply_assumption
     refine Met.intro ?_
     apply_assumption
     (repeat apply Exists.intro)
     refine ⟨?_, rfl⟩
     exact ⟨gm, rfl, hgu, HZ.out.1, HZ.out.2⟩
    exact AllReadyH.nil
   exact AllReadyH.nil
  refine AllReadyH.cons (o := _) rfl (fun K hK => ?_) ?_
  ·(go_simp)
   (try go_wp2_with fail)
   refine hK.out _ _ ?_ (fun hHeld => ?_)
   ·exact cell_al hHeld _
   clear hK K
   obtain ⟨wa, hwa⟩ : ∃ wa, wa = (w2.alloc (.cells #[.int .i64 0, .int .i64 0, .int .i64 0, .slice none 0 0] 24)).drew := ⟨_, rfl⟩
   obtain ⟨gm, hgm⟩ : ∃ gm, gm = w2.heap.size := ⟨_, rfl⟩
   have hza : wa.heap[gm]? = some (.cells #[.int .i64 0, .int .i64 0, .int .i64 0, .slice none 0 0] 24 (0, 0)) := (by rw [hwa, hgm]; exact heap_alloc_new w2 _)
   have hba : Below w2.heap.size w2 wa := (by rw [hwa]; exact ((Below.refl w2.heap.size w2).alloc (Below.refl w2.heap.size w2).size _).drew)
   have hgu : w2.heap.size ≤ gm := (by rw [hgm]; exact (Below.refl w2.heap.size w2).size)
   rw [← hwa, ← hgm]
   rw [← hwa] at hHeld
   clear hwa hgm
   (try simp only [ty9, Act.put])
   refine wpAnyH_ready (rs := [1]) (by kernel_rfl) (by simp) ?_
   refine AllReadyH.cons (o := _) rfl (fun K hK => ?_) ?_
   ·(go_simp; go_at_call 35; refine Calls.mono (HT.out _ hba) ?_; rintro r4 w4 ⟨rfl, hb⟩; have hb4 : Below w2.heap.size w2 w4 := hba.trans (hb.mono hba.size); have HB4 : Hid _ := hb; clear hb)
    (try go_wp2_with fail)
    refine hK.out _ _ ?_ (fun hHeld => ?_)
    ·exact cell_up c1 hb4
    clear hK K
    (try simp only [ty9, Act.put])
    refine tk9 4 ?_ rfl (by kernel_rfl) (fun _ _ _ h => h) ⟨by rfl, ?_⟩ (by assumption) ?_; rotate_left; (focus (intro w hSw; (try dsimp only at hSw); go_simp; (try with_reducible rfl))); (try simp only [ty9, Act.put])
    have hz : w4.heap[gm]? = some (.cells #[.int .i64 0, .int .i64 0, .int .i64 0, .slice none 0 0] 24 (0, 0)) := (HB4.out.block _ (t_lt hza)).trans hza
    obtain ⟨z0, z1, z2, z3⟩ := four_cells hz
    have f0 := blk_free hz 0
    have f1 := blk_free hz 1
    have f2 := blk_free hz 2
    have f3 := blk_free hz 3
    have H9 := dcol_store hb4 hz hgu (.int .i64 tg) (.int .i64 k)
    have HZ : Hid _ := H9
    clear H9 hz
    refine wpAnyH_ready (rs := [6]) (by kernel_rfl) (by simp) ?_
    refine AllReadyH.cons (o := _) rfl (fun K hK => ?_) ?_
    ·(go_simp)
     (try go_wp2_with fail)
     refine hK.out _ _ ?_ (fun hHeld => ?_)
     ·exact cell_up c1 HZ.out.2
     clear hK K
     (try simp only [ty9, Act.put])
     refine wpAnyH_done (by kernel_rfl) ?_ _
     refine Met.intro ?_
     apply_assumption
     refine Met.intro ?_
     apply_assumption
     (repeat apply Exists.intro)
     refine ⟨?_, rfl⟩
     exact ⟨gm, rfl, hgu, HZ.out.1, HZ.out.2⟩
    exact AllReadyH.nil
   exact AllReadyH.nil
  exact AllReadyH.nil
 case rest =>
  obtain ⟨gm, rfl, hgu, hgm, hbc⟩ := hcut
  clear x0 x1 x2 x3 c1
  obtain ⟨w5, rfl⟩ : ∃ w5, w5 = wc := ⟨_, rfl⟩
  have hgc := (hbc.block _ (t_lt H2.out.2.2.2.1)).trans H2.out.2.2.2.1
  obtain ⟨x0, x1, x2, x3⟩ := four_cells hgc
  obtain ⟨m0, m1, m2, m3⟩ := four_cells hgm
  have g2 := blk_free hgm 2
  have hOw := own_up4 H2.out.2.1 hbc
  have HM : Hid _ := And.intro hgu (And.intro hgm (And.intro hbc (And.intro hgc hOw)))
  clear hgu hgm hbc hgc hOw
  go_upto_if 18 with fail
  go_cut [18] (fun s18 wx => ∃ b : Bool, s18 = .bool b ∧ wx.heap[gm]? = some (.cells #[.int .i64 tg, .int .i64 k, .int .i64 (sta n cl s), .slice none 0 0] 24 (0, 0)) ∧ Kept (fun b => b = gm) w5 wx)
  case first =>
   by_cases hn : 0 < n
   ·have n1 : (0 : Int) < (n : Int) := by omega
    have hr := (right_parts H1.out.2.2.2.2.2.2).2.2.2.2.1 n1
    obtain ⟨p, hp⟩ : ∃ p : Nat, s = (p : Int) := ⟨s.toNat, by omega⟩
    obtain ⟨x, hx⟩ : ∃ x, cl[p]? = some x := ⟨_, List.getElem?_eq_getElem (by rw [H2.out.1.len]; omega)⟩
    obtain ⟨gc, cc, hc1, d0⟩ := own_cell HM.out.2.2.2.2 (natI_at hx)
    simp only [Value.slice.injEq] at hc1
    obtain ⟨rfl, -, -⟩ := hc1
    have hsta : sta n cl s = (x : Int) := by unfold sta; rw [if_pos hn, hp, cla_at hx]
    have p0 : (0 : Int) ≤ (p : Int) := by omega
    have p1 : (p : Int) < (n : Int) := by omega
    rw [hp] at x2
    have HS : Hid _ := hsta
    clear hr hp hx hsta hn
    go_wp2_with fail
    go_meet
    exact ⟨_, rfl, by rw [HS.out]; exact heap_setCell_same w5 gm 2 _ _ _ HM.out.2.1, Kept.setCell w5 gm 2 _⟩
   ·have n1 : ¬ (0 : Int) < (n : Int) := by omega
    have hsta : sta n cl s = 0 := by unfold sta; rw [if_neg hn]
    have HS : Hid _ := hsta
    clear hn hsta
    go_wp2_with fail
    go_meet
    exact ⟨_, rfl, by rw [HS.out]; exact HM.out.2.1, Kept.refl _ _⟩
  case rest =>
   obtain ⟨b18, rfl, hgm, hK⟩ := hcut
   have b5c : Below w2.heap.size w2 wc := HM.out.2.2.1.trans (hK.below HM.out.2.2.1.size fun x hx => by have := HM.out.1; omega)
   have hgc := (b5c.block _ (t_lt H2.out.2.2.2.1)).trans H2.out.2.2.2.1
   have hrc := (b5c.block _ (t_lt H2.out.2.2.2.2.1)).trans H2.out.2.2.2.2.1
   have hOw := own_up4 H2.out.2.1 b5c
   have bw : Below w.heap.size w wc := H2.out.2.2.1.trans (b5c.mono H2.out.2.2.1.size)
   clear x0 x1 x2 x3 m0 m1 m2 m3 g2
   obtain ⟨x0, x1, x2, x3⟩ := four_cells hgc
   have HN : Hid _ := And.intro hgm (And.intro hgc (And.intro hrc (And.intro hOw bw)))
   clear hgm hK b5c hgc hrc hOw bw
   go_wp2_with fail
   go_loopg [6, 7] L (fun q s6 s7 wx => ∃ j : Nat, q = L - j ∧ j ≤ L ∧ s7 = .int .i64 j ∧ BEdges.Own wx wc.heap.size s6 (btw cl (es.take j)) ∧ Below wc.heap.size wc wx)
   case atStart => exact ⟨0, rfl, Nat.zero_le _, rfl, World.ownsRow_nil _ _ _ _, Below.refl _ _⟩
   case round =>
    obtain ⟨j, rfl, hj, rfl, hO, hbl⟩ := hrel
    clear x0 x1 x2 x3
    obtain ⟨x0, x1, x2, x3⟩ := four_cells ((hbl.block _ (t_lt HN.out.2.1)).trans HN.out.2.1)
    by_cases hlt : j < L
    ·obtain ⟨⟨e1, e2, e3⟩, hz⟩ : ∃ e, es[j]? = some e := ⟨es[j]'(by have := H1.out.2.2.2.2.2.1; omega), List.getElem?_eq_getElem _⟩
     have hin := (right_parts H1.out.2.2.2.2.2.2).2.2.2.2.2 _ (List.mem_of_getElem? hz)
     simp only at hin
     obtain ⟨p, rfl⟩ : ∃ p : Nat, e1 = (p : Int) := ⟨e1.toNat, by omega⟩
     obtain ⟨r3, rfl⟩ : ∃ p : Nat, e3 = (p : Int) := ⟨e3.toNat, by omega⟩
     have hcl := H2.out.1.len
     have gp : cl[p]? = some (cl[p]'(by omega)) := List.getElem?_eq_getElem _
     have gr : cl[r3]? = some (cl[r3]'(by omega)) := List.getElem?_eq_getElem _
     have hy1 := cla_at gp
     have hy3 := cla_at gr
     have b0 : Below w.heap.size w wr := HN.out.2.2.2.2.trans (hbl.mono HN.out.2.2.2.2.size)
     have hOr := own_up4 HN.out.2.2.2.1 hbl
     obtain ⟨gc, cc, hc1, d3⟩ := own_cell hOr (natI_at gp)
     obtain ⟨gc', cc', hc2, d4⟩ := own_cell hOr (natI_at gr)
     simp only [Value.slice.injEq] at hc1 hc2
     obtain ⟨rfl, -, -⟩ := hc1
     obtain ⟨hc3, -, -⟩ := hc2
     obtain rfl : gc = gc' := by injection hc3 with h; injection h
     clear hc3
     rw [← hy1] at d3
     rw [← hy3] at d4
     obtain ⟨a4, hae, d0, d1, d2⟩ := edge_at (H1.out.2.2.2.2.1.below b0) hz
     subst hae
     simp only at d0 d1 d2
     obtain ⟨y1, hY1⟩ : ∃ y, y = cla cl (p : Int) := ⟨_, rfl⟩
     obtain ⟨y3, hY3⟩ : ∃ y, y = cla cl (r3 : Int) := ⟨_, rfl⟩
     rw [← hY1] at d3
     rw [← hY3] at d4
     have hOn : Ts.onto cl ((p : Int), e2, (r3 : Int)) = (y1, e2, y3) := by unfold Ts.onto; rw [hY1, hY3]
     have hKp : keep cl ((p : Int), e2, (r3 : Int)) = !(decide (e2 = 0) && decide (y1 = y3)) := by unfold keep; rw [hY1, hY3]
     have htk : es.take (j + 1) = es.take j ++ [((p : Int), e2, (r3 : Int))] := by rw [List.take_add_one, hz]; rfl
     obtain ⟨al, cl6, hu⟩ := row_shape hO
     obtain ⟨N, hN⟩ : ∃ N, N = (btw cl (es.take j)).length := ⟨_, rfl⟩
     rw [← hN] at hu
     subst hu
     have hN1 : N ≤ j := by
      have h1 := btw_len cl (es.take j)
      rw [List.length_take] at h1
      omega
     have hml : N + 1 ≤ maxLen := by unfold maxLen; omega
     have hby : (N + 1) * 24 ≤ 140737488355328 := by omega
     have HS : Hid (∀ W, Below wr.heap.size wr W → (W.cell? ⟨w.heap.size, 3, none⟩ = some (.slice (some a4) L vc) ∧ W.cell? (a4.add (j * 3)) = some (.int .i64 p) ∧ W.cell? ⟨(a4.add (j * 3)).block, (a4.add (j * 3)).off + 1, none⟩ = some (.int .i64 e2) ∧ W.cell? ⟨(a4.add (j * 3)).block, (a4.add (j * 3)).off + 2, none⟩ = some (.int .i64 r3) ∧ W.cell? ⟨gc, p, none⟩ = some (.int .i64 y1) ∧ W.cell? ⟨gc, r3, none⟩ = some (.int .i64 y3))) := (fun W hb => ⟨cell_up x3 hb, (hb.cell (World.block_lt_of_cell? _ _ d0)).trans d0, cell_up d1 hb, cell_up d2 hb, cell_up d3 hb, cell_up d4 hb⟩ : ∀ W, Below wr.heap.size wr W → (W.cell? ⟨w.heap.size, 3, none⟩ = some (.slice (some a4) L vc) ∧ W.cell? (a4.add (j * 3)) = some (.int .i64 p) ∧ W.cell? ⟨(a4.add (j * 3)).block, (a4.add (j * 3)).off + 1, none⟩ = some (.int .i64 e2) ∧ W.cell? ⟨(a4.add (j * 3)).block, (a4.add (j * 3)).off + 2, none⟩ = some (.int .i64 r3) ∧ W.cell? ⟨gc, p, none⟩ = some (.int .i64 y1) ∧ W.cell? ⟨gc, r3, none⟩ = some (.int .i64 y3)))
     have p0 : (0 : Int) ≤ (j : Int) := by omega
     have p1 : (j : Int) < (L : Int) := by omega
     have p2 : (0 : Int) ≤ (p : Int) := by omega
     have p3 : (p : Int) < (n : Int) := by omega
     have p4 : (0 : Int) ≤ (r3 : Int) := by omega
     have p5 : (r3 : Int) < (n : Int) := by omega
     have p6 : IntKind.i64.wrap ((j : Int) + 1) = (j : Int) + 1 := by rw [IntKind.wrap_i64]; omega
     have HB : Hid _ := And.intro hO (And.intro hbl (And.intro hN (And.intro htk (And.intro hOn hKp))))
     clear hO hbl hN htk hOn hKp hin hcl gp gr hy1 hy3 hY1 hY3 b0 hOr hz d0 d1 d2 d3 d4 hN1
     go_upto_region 9 with fail
     refine wp_region_held_drew (S := (fun W => W.cell? ⟨w.heap.size, 3, none⟩ = some (.slice (some a4) L vc) ∧ W.cell? (a4.add (j * 3)) = some (.int .i64 p) ∧ W.cell? ⟨(a4.add (j * 3)).block, (a4.add (j * 3)).off + 1, none⟩ = some (.int .i64 e2) ∧ W.cell? ⟨(a4.add (j * 3)).block, (a4.add (j * 3)).off + 2, none⟩ = some (.int .i64 r3) ∧ W.cell? ⟨gc, p, none⟩ = some (.int .i64 y1) ∧ W.cell? ⟨gc, r3, none⟩ = some (.int .i64 y3))) (by kernel_rfl) ?_ (fun hHeld => ?_)
     ·exact HS.out _ ((Below.refl _ _).drew)
     refine tk9 0 ?_ rfl (by kernel_rfl) (fun _ _ _ h => h) ⟨by rfl, ?_⟩ (by assumption) ?_; rotate_left; (focus (intro w hSw; (try dsimp only at hSw); go_simp; (try with_reducible rfl))); (try simp only [ty9, Act.put])
     refine tk9 1 ?_ rfl (by kernel_rfl) (fun _ _ _ h => h) ⟨by rfl, ?_⟩ (by assumption) ?_; rotate_left; (focus (intro w hSw; (try dsimp only at hSw); go_simp; (try with_reducible rfl))); (try simp only [ty9, Act.put])
     refine tk9 2 ?_ rfl (by kernel_rfl) (fun _ _ _ h => h) ⟨by rfl, ?_⟩ (by assumption) ?_; rotate_left; (focus (intro w hSw; (try dsimp only at hSw); go_simp; (try with_reducible rfl))); (try simp only [ty9, Act.put])
     refine tk9 3 ?_ rfl (by kernel_rfl) (fun _ _ _ h => h) ⟨by rfl, ?_⟩ (by assumption) ?_; rotate_left; (focus (intro w hSw; (try dsimp only at hSw); go_simp; (try with_reducible rfl))); (try simp only [ty9, Act.put])
     refine tk9 4 ?_ rfl (by kernel_rfl) (fun _ _ _ h => h) ⟨by rfl, ?_⟩ (by assumption) ?_; rotate_left; (focus (intro w hSw; (try dsimp only at hSw); go_simp; (try with_reducible rfl))); (try simp only [ty9, Act.put])
     refine tk9 5 ?_ rfl (by kernel_rfl) (fun _ _ _ h => h) ⟨by rfl, ?_⟩ (by assumption) ?_; rotate_left; (focus (intro w hSw; (try dsimp only at hSw); go_simp; (try with_reducible rfl))); (try simp only [ty9, Act.put])
     refine tk9 6 ?_ rfl (by kernel_rfl) (fun _ _ _ h => h) ⟨by rfl, ?_⟩ (by assumption) ?_; rotate_left; (focus (intro w hSw; (try dsimp only at hSw); go_simp; (try with_reducible rfl))); (try simp only [ty9, Act.put])
     refine tk9 7 ?_ rfl (by kernel_rfl) (fun _ _ _ h => h) ⟨by rfl, ?_⟩ (by assumption) ?_; rotate_left; (focus (intro w hSw; (try dsimp only at hSw); go_simp; (try with_reducible rfl))); (try simp only [ty9, Act.put])
     refine tk9 8 ?_ rfl (by kernel_rfl) (fun _ _ _ h => h) ⟨by rfl, ?_⟩ (by assumption) ?_; rotate_left; (focus (intro w hSw; (try dsimp only at hSw); go_simp; (try with_reducible rfl))); (try simp only [ty9, Act.put])
     refine tk9 9 ?_ rfl (by kernel_rfl) (fun _ _ _ h => h) ⟨by rfl, ?_⟩ (by assumption) ?_; rotate_left; (focus (intro w hSw; (try dsimp only at hSw); go_simp; (try with_reducible rfl))); (try simp only [ty9, Act.put])
     refine tk9 10 ?_ rfl (by kernel_rfl) (fun _ _ _ h => h) ⟨by rfl, ?_⟩ (by assumption) ?_; rotate_left; (focus (intro w hSw; (try dsimp only at hSw); go_simp; (try with_reducible rfl))); (try simp only [ty9, Act.put])
     refine tk9 11 ?_ rfl (by kernel_rfl) (fun _ _ _ h => h) ⟨by rfl, ?_⟩ (by assumption) ?_; rotate_left; (focus (intro w hSw; (try dsimp only at hSw); go_simp; (try with_reducible rfl))); (try simp only [ty9, Act.put])
     refine tk9 12 ?_ rfl (by kernel_rfl) (fun _ _ _ h => h) ⟨by rfl, ?_⟩ (by assumption) ?_; rotate_left; (focus (intro w hSw; (try dsimp only at hSw); go_simp; (try with_reducible rfl))); (try simp only [ty9, Act.put])
     refine tk9 13 ?_ rfl (by kernel_rfl) (fun _ _ _ h => h) ⟨by rfl, ?_⟩ (by assumption) ?_; rotate_left; (focus (intro w hSw; (try dsimp only at hSw); go_simp; (try with_reducible rfl))); (try simp only [ty9, Act.put])
     refine tk9 14 ?_ rfl (by kernel_rfl) (fun _ _ _ h => h) ⟨by rfl, ?_⟩ (by assumption) ?_; rotate_left; (focus (intro w hSw; (try dsimp only at hSw); go_simp; (try with_reducible rfl))); (try simp only [ty9, Act.put])
     refine tk9 15 ?_ rfl (by kernel_rfl) (fun _ _ _ h => h) ⟨by rfl, ?_⟩ (by assumption) ?_; rotate_left; (focus (intro w hSw; (try dsimp only at hSw); go_simp; (try with_reducible rfl))); (try simp only [ty9, Act.put])
     refine tk9 16 ?_ rfl (by kernel_rfl) (fun _ _ _ h => h) ⟨by rfl, ?_⟩ (by assumption) ?_; rotate_left; (focus (intro w hSw; (try dsimp only at hSw); go_simp; (try with_reducible rfl))); (try simp only [ty9, Act.put])
     refine tk9 17 ?_ rfl (by kernel_rfl) (fun _ _ _ h => h) ⟨by rfl, ?_⟩ (by assumption) ?_; rotate_left; (focus (intro w hSw; (try dsimp only at hSw); go_simp; (try with_reducible rfl))); (try simp only [ty9, Act.put])
     refine tk9 18 ?_ rfl (by kernel_rfl) (fun _ _ _ h => h) ⟨by rfl, ?_⟩ (by assumption) ?_; rotate_left; (focus (intro w hSw; (try dsimp only at hSw); go_simp; (try with_reducible rfl))); (try simp only [ty9, Act.put])
     refine tk9 19 ?_ rfl (by kernel_rfl) (fun _ _ _ h => h) ⟨by rfl, ?_⟩ (by assumption) ?_; rotate_left; (focus (intro w hSw; (try dsimp only at hSw); go_simp; (try with_reducible rfl))); (try simp only [ty9, Act.put])
     refine tk9 20 ?_ rfl (by kernel_rfl) (fun _ _ _ h => h) ⟨by rfl, ?_⟩ (by assumption) ?_; rotate_left; (focus (intro w hSw; (try dsimp only at hSw); go_simp; (try with_reducible rfl))); (try simp only [ty9, Act.put])
     refine tk9 21 ?_ rfl (by kernel_rfl) (fun _ _ _ h => h) ⟨by rfl, ?_⟩ (by assumption) ?_; rotate_left; (focus (intro w hSw; (try dsimp only at hSw); go_simp; (try with_reducible rfl))); (try simp only [ty9, Act.put])
     refine tk9 22 ?_ rfl (by kernel_rfl) (fun _ _ _ h => h) ⟨by rfl, ?_⟩ (by assumption) ?_; rotate_left; (focus (intro w hSw; (try dsimp only at hSw); go_simp; (try with_reducible rfl))); (try simp only [ty9, Act.put])
     refine tk9 23 ?_ rfl (by kernel_rfl) (fun _ _ _ h => h) ⟨by rfl, ?_⟩ (by assumption) ?_; rotate_left; (focus (intro w hSw; (try dsimp only at hSw); go_simp; (try with_reducible rfl))); (try simp only [ty9, Act.put])
     refine tk9 24 ?_ rfl (by kernel_rfl) (fun _ _ _ h => h) ⟨by rfl, ?_⟩ (by assumption) ?_; rotate_left; (focus (intro w hSw; (try dsimp only at hSw); go_simp; (try with_reducible rfl))); (try simp only [ty9, Act.put])
     refine wpAnyH_ready (rs := [25]) (by kernel_rfl) (by simp) ?_
     refine AllReadyH.cons (o := _) rfl (fun K hK => ?_) ?_
     ·(go_simp)
      (try go_wp2_with fail)
      refine hK.out _ _ ?_ (fun hHeld => ?_)
      ·exact HS.out _ (by repeat (first | exact Below.refl _ _ | refine Below.drew ?_ | refine Below.setCell ?_ (by simp) _ | refine Below.alloc ?_ (by simp) _))
      clear hK K
      (try simp only [ty9, Act.put])
      refine wpAnyH_ready (rs := [26]) (by kernel_rfl) (by simp) ?_
      refine AllReadyH.cons (o := _) rfl (fun K hK => ?_) ?_
      ·(go_simp)
       (try go_wp2_with fail)
       refine hK.out _ _ ?_ (fun hHeld => ?_)
       ·exact HS.out _ (by repeat (first | exact Below.refl _ _ | refine Below.drew ?_ | refine Below.setCell ?_ (by simp) _ | refine Below.alloc ?_ (by simp) _))
       clear hK K
       (try simp only [ty9, Act.put])
       refine wpAnyH_done (by kernel_rfl) ?_ _
       (try go_simp)
       obtain ⟨w6, hw6⟩ : ∃ w6, w6 = (wr.alloc (.cells #[.int .i64 y1, .int .i64 e2, .int .i64 y3] 61)).drew := ⟨_, rfl⟩
       rw [← hw6]
       have hb6 : Below wr.heap.size wr w6 := by rw [hw6]; exact ((Below.refl _ _).alloc (Nat.le_refl _) _).drew
       have hx6 : w6.heap[wr.heap.size]? = some (.cells #[.int .i64 y1, .int .i64 e2, .int .i64 y3] 61 (0, 0)) := by rw [hw6]; exact heap_alloc_new wr _
       have f0 : w6.cell? ⟨wr.heap.size, 0, none⟩ = some (.int .i64 y1) := cell0_of hx6 rfl
       have f1 : w6.cell? ⟨wr.heap.size, 1, none⟩ = some (.int .i64 e2) := cell0_of hx6 rfl
       have f2 : w6.cell? ⟨wr.heap.size, 2, none⟩ = some (.int .i64 y3) := cell0_of hx6 rfl
       have hO1 : w6.ownsRow wc.heap.size 61 3 (.slice al N cl6) N (BEdges.C (btw cl (es.take j))) := by
        have h1 := HB.out.1
        unfold BEdges.Own at h1
        rw [← HB.out.2.2.1] at h1
        exact trow_at h1 fun b hb => hb6.block b (h1.lt b hb).2
       have hl1 : wc.heap.size ≤ w6.heap.size := Nat.le_trans HB.out.2.1.size hb6.size
       have hle : wc.heap.size ≤ (w6.alloc (.cells #[.int .i64 y1, .int .i64 e2, .int .i64 y3] 61)).heap.size := by rw [World.size_alloc]; omega
       have HW : Hid _ := And.intro hb6 (And.intro hO1 hl1)
       clear hw6 hb6 hx6 hO1 hl1 hHeld x0 x1 x2 x3
       by_cases h20 : e2 = 0
       ·subst h20
        by_cases h13 : y1 = y3
        ·have o3 : (y1 != y3) = false := by simp [h13]
         have HK : Hid _ := (by rw [HB.out.2.2.2.2.2]; simp [h13] : keep cl ((p : Int), 0, (r3 : Int)) = false)
         clear h13
         go_wp2_with fail
         go_roundg (L - (j + 1))
         case measure => omega
         case rel =>
          refine ⟨j + 1, rfl, by omega, by go_num, ?_, HB.out.2.1.trans (HW.out.1.mono HB.out.2.1.size)⟩
          rw [HB.out.2.2.2.1, btw_snoc, if_neg (by rw [HK.out]; simp)]
          unfold BEdges.Own
          rw [← HB.out.2.2.1]
          exact HW.out.2.1
        ·have o3 : (y1 != y3) = true := by simp [h13]
         have HK : Hid _ := (by rw [HB.out.2.2.2.2.2]; simp [h13] : keep cl ((p : Int), 0, (r3 : Int)) = true)
         clear h13
         go_wp2_with (at_builtin; refine wpList_append_own_at _ rfl _ _ 22 rfl wc.heap.size 61 i0 (.agg #[.int .i64 0, .int .i64 0, .int .i64 0]) 3 24 Tryz.underlying22 hi0 hz0 hz1 hz2 rfl (by decide) (.slice al N cl6) N (BEdges.C (btw cl (es.take j))) rfl (HW.out.2.1.alloc _) ⟨w6.heap.size, 0, none⟩ 1 1 [.int .i64 y1, .int .i64 0, .int .i64 y3] rfl rfl (World.news_of_block (cs := #[.int .i64 y1, .int .i64 0, .int .i64 y3]) (t := 61) (fr := (0, 0)) (heap_alloc_new w6 _)) (by simp [Value.oneCell']) hml hby hle ?_; intro v7 w7 hO7 hg7 hnil7 hat7; have hk7 := grown_alloc hg7; have H7 : Hid _ := And.intro hO7 hk7; clear hO7 hg7 hk7 hnil7 hat7)
         go_roundg (L - (j + 1))
         case measure => omega
         case rel =>
          have h1 := edges_grow (HB.out.2.1.trans (HW.out.1.mono HB.out.2.1.size)) (L := btw cl (es.take j)) (by unfold BEdges.Own; rw [← HB.out.2.2.1]; exact HW.out.2.1) HB.out.2.2.1 (y1, 0, y3) H7.out.1 H7.out.2
          refine ⟨j + 1, rfl, by omega, by go_num, ?_, h1.1⟩
          rw [HB.out.2.2.2.1, btw_snoc, if_pos HK.out, HB.out.2.2.2.2.1]
          exact h1.2
       ·have o2 : (e2 != 0) = true := by simp [h20]
        have HK : Hid _ := (by rw [HB.out.2.2.2.2.2]; simp [h20] : keep cl ((p : Int), e2, (r3 : Int)) = true)
        clear h20
        go_wp2_with (at_builtin; refine wpList_append_own_at _ rfl _ _ 22 rfl wc.heap.size 61 i0 (.agg #[.int .i64 0, .int .i64 0, .int .i64 0]) 3 24 Tryz.underlying22 hi0 hz0 hz1 hz2 rfl (by decide) (.slice al N cl6) N (BEdges.C (btw cl (es.take j))) rfl (HW.out.2.1.alloc _) ⟨w6.heap.size, 0, none⟩ 1 1 [.int .i64 y1, .int .i64 e2, .int .i64 y3] rfl rfl (World.news_of_block (cs := #[.int .i64 y1, .int .i64 e2, .int .i64 y3]) (t := 61) (fr := (0, 0)) (heap_alloc_new w6 _)) (by simp [Value.oneCell']) hml hby hle ?_; intro v7 w7 hO7 hg7 hnil7 hat7; have hk7 := grown_alloc hg7; have H7 : Hid _ := And.intro hO7 hk7; clear hO7 hg7 hk7 hnil7 hat7)
        go_roundg (L - (j + 1))
        case measure => omega
        case rel =>
         have h1 := edges_grow (HB.out.2.1.trans (HW.out.1.mono HB.out.2.1.size)) (L := btw cl (es.take j)) (by unfold BEdges.Own; rw [← HB.out.2.2.1]; exact HW.out.2.1) HB.out.2.2.1 (y1, e2, y3) H7.out.1 H7.out.2
         refine ⟨j + 1, rfl, by omega, by go_num, ?_, h1.1⟩
         rw [HB.out.2.2.2.1, btw_snoc, if_pos HK.out, HB.out.2.2.2.2.1]
         exact h1.2
      exact AllReadyH.nil
     exact AllReadyH.nil
    ·obtain rfl : L = j := by omega
     have p1 : ¬ (L : Int) < (L : Int) := by omega
     rw [List.take_of_length_le (by have := H1.out.2.2.2.2.2.1; omega)] at hO
     have hbL := btw_len cl es
     have hSo := refSorted_any _ _ wr (own_hasE hO) (by have := H1.out.2.2.2.2.2.1; omega)
     unfold SortedAt at hSo
     obtain ⟨al, cl6, hu⟩ := row_shape hO
     obtain ⟨N, hN⟩ : ∃ N, N = (btw cl es).length := ⟨_, rfl⟩
     rw [← hN] at hu
     subst hu
     have HB : Hid _ := And.intro hbl hSo
     clear hO hbl hN hbL hSo hj hlt
     go_upto_region 12 with fail
     go_wp2_with fail
     refine Calls.mono HB.out.2 ?_
     rintro r6 w6 ⟨ue, rfl, hOe, hb6⟩
     obtain ⟨ae, ce, hue⟩ := row_shape hOe
     obtain ⟨le, hle⟩ : ∃ l, l = (Sy.nf (btw cl es)).length := ⟨_, rfl⟩
     rw [← hle] at hue
     subst hue
     have bc6 : Below wc.heap.size wc w6 := HB.out.1.trans (hb6.mono HB.out.1.size)
     have hg6 := (bc6.block _ (t_lt HN.out.1)).trans HN.out.1
     have hr6 := (bc6.block _ (t_lt HN.out.2.2.1)).trans HN.out.2.2.1
     have g3 := blk_free hg6 3
     obtain ⟨m0, m1, m2, m3⟩ := four_cells hg6
     obtain ⟨w7, hw7⟩ : ∃ w7, w7 = w6.setCell ⟨gm, 3, none⟩ (.slice ae le ce) := ⟨_, rfl⟩
     have hg7 : w7.heap[gm]? = some (.cells #[.int .i64 tg, .int .i64 k, .int .i64 (sta n cl s), .slice ae le ce] 24 (0, 0)) := by rw [hw7]; exact heap_setCell_same w6 gm 3 _ _ _ hg6
     have hne : gm ≠ w.heap.size + 1 := by have h1 := HM.out.1; have h2 := t_lt H2.out.2.2.2.2.1; omega
     have hr7 : w7.heap[w.heap.size + 1]? = some (.cells #[.int .i64 0, .int .i64 0, .int .i64 0, .slice none 0 0] 24 (0, 0)) := by rw [hw7]; exact ((Kept.setCell w6 gm 3 _).block _ (t_lt hr6) (fun e => hne e.symm)).trans hr6
     have hk67 : Kept (fun b => b = gm) w6 w7 := by rw [hw7]; exact Kept.setCell w6 gm 3 _
     have HE : Hid _ := And.intro hOe (And.intro bc6 (And.intro hg6 (And.intro hw7 (And.intro hr7 (And.intro hk67 hg7)))))
     clear hOe hb6 bc6 hg6 hw7 hle hr6 hk67
     clear x0 x1 x2 x3
     go_upto_region 13 with fail
     rw [← HE.out.2.2.2.1]
     clear g3 m0 m1 m2 m3
     obtain ⟨m0, m1, m2, m3⟩ := four_cells hg7
     obtain ⟨z0, z1, z2, z3⟩ := four_cells hr7
     have f0 := blk_free hr7 0
     have f1 := blk_free hr7 1
     have f2 := blk_free hr7 2
     have f3 := blk_free hr7 3
     clear hg7 hr7
     go_wp2_with fail
     obtain ⟨wf, hwf⟩ : ∃ wf, wf = ((((w7.setCell ⟨w.heap.size + 1, 0, none⟩ (.int .i64 tg)).setCell ⟨w.heap.size + 1, 1, none⟩ (.int .i64 k)).setCell ⟨w.heap.size + 1, 2, none⟩ (.int .i64 (sta n cl s))).setCell ⟨w.heap.size + 1, 3, none⟩ (.slice ae le ce)) := ⟨_, rfl⟩
     rw [← hwf]
     have hgf : wf.heap[w.heap.size + 1]? = some (.cells #[.int .i64 tg, .int .i64 k, .int .i64 (sta n cl s), .slice ae le ce] 24 (0, 0)) := by rw [hwf]; exact four_set HE.out.2.2.2.2.1
     have hkf : Kept (fun b => b = w.heap.size + 1) w7 wf := by rw [hwf]; exact (((Kept.setCell _ _ _ _).trans (Kept.setCell _ _ _ _)).trans (Kept.setCell _ _ _ _)).trans (Kept.setCell _ _ _ _)
     clear hwf z0 z1 z2 z3 f0 f1 f2 f3 m0 m1 m2 m3
     obtain ⟨d0, d1, d2, d3⟩ := four_cells hgf
     refine bodyPost_ret (v := .tuple #[.agg #[.int .i64 tg, .int .i64 k, .int .i64 (sta n cl s), .slice ae le ce], .slice au n cu]) (by simp [results, Tryz.results14, go_sem, d0, d1, d2, d3]) rfl ?_
     have hgw : w.heap.size ≤ gm := Nat.le_trans H2.out.2.2.1.size HM.out.1
     have hk6f : Kept (fun b => b = gm ∨ b = w.heap.size + 1) w6 wf := (HE.out.2.2.2.2.2.1.mono fun b _ h => .inl h).trans (hkf.mono fun b _ h => .inr h)
     have hB6 : Below w.heap.size w w6 := HN.out.2.2.2.2.trans (HE.out.2.1.mono HN.out.2.2.2.2.size)
     have hO6 := own_up4 HN.out.2.2.2.1 HE.out.2.1
     have hrt : ∀ {B : Nat} {e : TypeId} {sz m : Nat} {v : Value} {xs : List Value}, w6.ownsRow B e sz v m xs → e ≠ 24 → ∀ b, v.ownBlock = some b → wf.heap[b]? = w6.heap[b]? := fun h hne b hb => hk6f.block b (h.lt b hb).2 fun e => by
      rcases e with e | e
      ·exact own_bk h HE.out.2.2.1 hne (by rw [← e]; exact hb)
      ·have hr6 : w6.heap[w.heap.size + 1]? = some (.cells #[.int .i64 0, .int .i64 0, .int .i64 0, .slice none 0 0] 24 (0, 0)) := (HE.out.2.1.block _ (t_lt HN.out.2.2.1)).trans HN.out.2.2.1
       exact own_bk h hr6 hne (by rw [← e]; exact hb)
     refine ⟨.slice ae le ce, .slice au n cu, cl, ?_, H2.out.1, ?_, ?_, hB6.trans (hk6f.below hB6.size fun x hx => by omega)⟩
     ·rw [← H2.out.2.2.2.2.2.1]
     ·exact edge_lower (trow_at HE.out.1 (hrt HE.out.1 (by decide))) (by have := HB.out.1.size; have := HN.out.2.2.2.2.size; omega)
     ·exact own_lower (trow_at hO6 (hrt hO6 (by decide))) H1.out.2.1.size
end Go.Proofs.YtplofbabfkkimaaGreatDoor.Ts
/- tauscc: the contract of the document's Order. -/
namespace Go.Proofs.YtplofbabfkkimaaGreatDoor.Ts
open Go.RowKit Go.Maps
attribute [local go_sem ↓] Go.wp_at_zero Go.wp_at_succ
def okB (row : List BSteps.El) (od : List Nat) : Bool := row.all fun e => !(decide (e.1 = 0)) || decide (e.2.toNat ∈ od)
theorem okB_iff {row : List BSteps.El} {od : List Nat} : okB row od = true ↔ ∀ e ∈ row, e.1 = 0 → e.2.toNat ∈ od := by
 unfold okB
 rw [List.all_eq_true]
 constructor
 ·intro h e he h0
  have h1 := h e he
  simpa [h0] using h1
 ·intro h e he
  by_cases h0 : e.1 = 0
  ·simp [h0, h e he h0]
  ·simp [h0]
set_option maxRecDepth 100000 in
set_option maxHeartbeats 4000000 in
theorem ready_any (m gs : Nat) (row : List BSteps.El) (v : Value) (od : List Nat) (w : World) (hv : BSteps.Has w v row) (hr : row.length ≤ 100000) (hto : ∀ e ∈ row, 0 ≤ e.2 ∧ e.2 < (m : Int)) (hst : ∀ y, y < m → w.cell? ⟨gs, y, none⟩ = some (.bool (decide (y ∈ od)))) :
 Calls Tryz.prog 38 #[v, .slice (some ⟨gs, 0, none⟩) m m] w fun r w' => r = .returned (.bool (okB row od)) ∧ w' = w := by
 obtain ⟨ar, cr, hur, -⟩ := id hv
 obtain ⟨R, hR⟩ : ∃ R, R = row.length := ⟨_, rfl⟩
 rw [← hR] at hur hr
 subst hur
 have H : Hid _ := And.intro hv (And.intro hto (And.intro hst hR))
 clear hv hto hst hR
 go_enter Tryz.func38, Tryz.ntmps38
 go_wp2_with fail
 go_loopg [5] R (fun q s5 wx => ∃ j : Nat, q = R - j ∧ j ≤ R ∧ s5 = .int .i64 j ∧ wx = w ∧ ∀ (i : Nat) (e : BSteps.El), i < j → row[i]? = some e → e.1 = 0 → e.2.toNat ∈ od)
 case atStart => exact ⟨0, rfl, Nat.zero_le _, rfl, rfl, fun i e hi => absurd hi (Nat.not_lt_zero i)⟩
 case round =>
  obtain ⟨j, rfl, hj, rfl, hw, hall⟩ := hrel
  subst hw
  by_cases hlt : j < R
  ·obtain ⟨⟨e1, e2⟩, he⟩ : ∃ e, row[j]? = some e := ⟨row[j]'(by have := H.out.2.2.2; omega), List.getElem?_eq_getElem _⟩
   obtain ⟨a5, hae, g0, g1⟩ := step_at H.out.1 he
   subst hae
   simp only at g0 g1
   have hto := H.out.2.1 _ (List.mem_of_getElem? he)
   simp only at hto
   obtain ⟨y, rfl⟩ : ∃ y : Nat, e2 = (y : Int) := ⟨e2.toNat, by omega⟩
   have u0 := H.out.2.2.1 y (by omega)
   have r0 : (0 : Int) ≤ (j : Int) := by omega
   have r1 : (j : Int) < (R : Int) := by omega
   have r2 : (0 : Int) ≤ (y : Int) := by omega
   have r3 : (y : Int) < (m : Int) := by omega
   have r6 : IntKind.i64.wrap ((j : Int) + 1) = (j : Int) + 1 := by rw [IntKind.wrap_i64]; omega
   by_cases hz : e1 = 0
   ·subst hz
    by_cases hy : y ∈ od
    ·simp only [hy, decide_true] at u0
     have HB : Hid _ := And.intro hall (And.intro he hy)
     clear hall he hy hto
     go_wp2_with fail
     go_roundg (R - (j + 1))
     case measure => omega
     case rel =>
      refine ⟨j + 1, rfl, by omega, by go_num, rfl, fun i e hi hie h0 => ?_⟩
      by_cases ei : i = j
      ·subst ei
       rw [HB.out.2.1] at hie
       cases hie
       simpa using HB.out.2.2
      ·exact HB.out.1 i e (by omega) hie h0
    ·simp only [hy, decide_false] at u0
     have HB : Hid _ := And.intro he hy
     clear hall he hy hto
     go_wp2_with fail
     go_ret
     have h9 : okB row od = false := by
      rw [Bool.eq_false_iff]
      intro h
      have h1 := okB_iff.1 h _ (List.mem_of_getElem? HB.out.1) rfl
      exact HB.out.2 (by simpa using h1)
     rw [h9]
     exact ⟨rfl, rfl⟩
   ·have q9 : (e1 == 0) = false := by simp [hz]
    have HB : Hid _ := And.intro hall (And.intro he hz)
    clear hall he hz hto
    go_wp2_with fail
    go_roundg (R - (j + 1))
    case measure => omega
    case rel =>
     refine ⟨j + 1, rfl, by omega, by go_num, rfl, fun i e hi hie h0 => ?_⟩
     by_cases ei : i = j
     ·subst ei
      rw [HB.out.2.1] at hie
      cases hie
      exact absurd h0 HB.out.2.2
     ·exact HB.out.1 i e (by omega) hie h0
  ·obtain rfl : R = j := by omega
   have r1 : ¬ (R : Int) < (R : Int) := by omega
   have h9 : okB row od = true := okB_iff.2 fun e he h0 => by
    obtain ⟨i, hi⟩ := List.mem_iff_getElem?.1 he
    exact hall i e (by have := (List.getElem?_eq_some_iff.1 hi).1; have := H.out.2.2.2; omega) hi h0
   have HB : Hid _ := h9
   clear hall h9 hj hlt
   go_wp2_with fail
   go_ret
   rw [HB.out]
   exact ⟨rfl, rfl⟩
theorem rd_ok {m : Nat} {f : Nat → List BSteps.El} {od : List Nat} {x : Nat} (h0 : ∀ e ∈ f x, 0 ≤ e.2) (hx : x < m) (hn : x ∉ od) : okB (f x) od = true ↔ Rd m (silF f) od x := by
 rw [okB_iff]
 unfold Rd
 constructor
 ·intro h
  refine ⟨hx, hn, fun y hy => ?_⟩
  have h1 := h _ ((silF_mem h0).1 hy) rfl
  simpa using h1
 ·rintro ⟨_, _, h⟩ e he he0
  refine h _ ((silF_mem h0).2 ?_)
  obtain ⟨e1, e2⟩ := e
  simp only at he0
  subst he0
  have h2 := h0 _ he
  simp only at h2
  rw [Int.toNat_of_nonneg h2]
  exact he
theorem Grd.some {n : Nat} {out : Nat → List Nat} {od : List Nat} (h : Grd n out od) (hA : Acy n out) (hl : od.length < n) : ∃ x, Rd n out od x := by
 by_cases he : ∃ x, Rd n out od x
 ·exact he
 ·have h1 := (h.all hA fun x hx => he ⟨x, hx⟩).1
  omega
set_option linter.unusedSimpArgs false in
set_option maxRecDepth 100000 in
set_option maxHeartbeats 8000000 in
theorem docOrder_any (n : Nat) (k s : Int) (v : Value) (es : List Sy.Ed) (w : World) (hv : HasE w v es) (hq : Sy.right n k s es = true) :
 Calls Tryz.prog 16 #[sysV n k s v] w fun r w' => ∃ (u : Value) (cl od : List Nat), r = .returned u ∧ Cl n es cl ∧ Grd (tog cl) (sil (tog cl) (btw cl es)) od ∧ (∀ x, ¬ Rd (tog cl) (sil (tog cl) (btw cl es)) od x) ∧ OwnI w' w.heap.size u (od.flatMap (memI cl)) ∧ Below w.heap.size w w' := by
 obtain ⟨i0, hi0, hz0, hz1, hz2⟩ := info_parts Tryz.infoI4
 obtain ⟨va, vn, vc, rfl⟩ : ∃ a m c, v = .slice a m c := by obtain ⟨ao, cap, rfl, _⟩ := hv; exact ⟨_, _, _, rfl⟩
 obtain ⟨w1, hw1⟩ : ∃ w1, w1 = w.alloc (.cells #[.int .i64 n, .int .i64 k, .int .i64 s, .slice va vn vc] 24) := ⟨_, rfl⟩
 have hb1 : Below w.heap.size w w1 := by rw [hw1]; exact (Below.refl _ _).alloc (Nat.le_refl _) _
 have hg1 : w1.heap[w.heap.size]? = some (.cells #[.int .i64 n, .int .i64 k, .int .i64 s, .slice va vn vc] 24 (0, 0)) := by rw [hw1]; exact heap_alloc_new w _
 have hC := docCollapse_any n k s (.slice va vn vc) es w1 (hv.below hb1) hq
 have hn1 : n ≤ 1000 := by have := (right_parts hq).1.2; omega
 obtain ⟨x0, x1, x2, x3⟩ := four_cells hg1
 unfold sysV at hC ⊢
 have H1 : Hid _ := And.intro hw1 (And.intro hb1 (And.intro hg1 (And.intro hC hq)))
 clear hv hw1 hb1 hg1 hC hq
 go_enter Tryz.func16, Tryz.ntmps16
 go_upto_region 1 with fail
 rw [← H1.out.1]
 go_wp2_with fail
 refine Calls.mono H1.out.2.2.2.1 ?_
 rintro r w2 ⟨ue, u, cl, rfl, hCl, hOe, hOc, hb2⟩
 obtain ⟨au, cu, hu⟩ := row_shape hOc
 obtain ⟨ae, ce, hue⟩ := row_shape hOe
 have hcn : (natI cl).length = n := by simp [natI, hCl.len]
 rw [hcn] at hu
 have hAg := hCl.again H1.out.2.2.2.2
 have hAc := hCl.acy H1.out.2.2.2.2
 obtain ⟨E, hEE⟩ : ∃ E, E = Sy.nf (btw cl es) := ⟨_, rfl⟩
 rw [← hEE] at hAg hOe hue
 obtain ⟨M, hM⟩ : ∃ M, M = E.length := ⟨_, rfl⟩
 rw [← hM] at hue
 subst hu
 subst hue
 obtain ⟨tg, htg⟩ : ∃ t : Nat, t = tog cl := ⟨_, rfl⟩
 obtain ⟨st, hst⟩ : ∃ z, z = sta n cl s := ⟨_, rfl⟩
 rw [← htg, ← hst] at hAg ⊢
 rw [← htg] at hAc
 have hsil : silF (fun i => Sy.steps (Sy.nf E) i) = sil tg (btw cl es) := by
  rw [silF_sil hAg.right, hEE]
  exact funext fun q => sil_nf tg (btw cl es) q
 have htn : tg ≤ 1000 := by have := (right_parts hAg.right).1.2; omega
 have hMl : M ≤ 10000 := by rw [hM]; exact (right_parts hAg.right).2.2.1
 have hpe := (right_parts hAg.right).2.2.2.2.2
 have hF : RowsOk tg fun i => Sy.steps (Sy.nf E) i := rowsOk_of (by omega) fun e he => ⟨(hpe e he).2.2.1, (hpe e he).2.2.2.1, (hpe e he).2.2.2.2.1⟩
 have hg2 := (hb2.block _ (t_lt H1.out.2.2.1)).trans H1.out.2.2.1
 have b2 := bel13 hb2 H1.out.2.1
 obtain ⟨w3, hw3⟩ : ∃ w3, w3 = w2.alloc (.cells #[.int .i64 (tg : Int), .int .i64 k, .int .i64 st, .slice ae M ce] 24) := ⟨_, rfl⟩
 have hb3 : Below w2.heap.size w2 w3 := by rw [hw3]; exact (Below.refl _ _).alloc (Nat.le_refl _) _
 have hg3 : w3.heap[w2.heap.size]? = some (.cells #[.int .i64 (tg : Int), .int .i64 k, .int .i64 st, .slice ae M ce] 24 (0, 0)) := by rw [hw3]; exact heap_alloc_new w2 _
 have hg23 := (hb3.block _ (t_lt hg2)).trans hg2
 have b3 := bel13 hb3 b2
 have hE3 := edge_up4 hOe hb3
 have hO := refOut_any tg k st (.slice ae M ce) E w3 (by omega) (own_hasE hE3) (by omega) fun e he => ⟨(hpe e he).1, (hpe e he).2.1⟩
 unfold sysV at hO
 have H3 : Hid _ := And.intro hw3 (And.intro b3 (And.intro hg3 (And.intro hg23 (And.intro hCl (And.intro (own_up4 hOc hb3) (And.intro hAc (And.intro hsil (And.intro hF (And.intro htg hO)))))))))
 clear hCl hOe hOc hb2 hM hcn x0 x1 x2 x3 hw3 hb3 b3 htg hst b2 hg2 hE3 hAg hO hEE hAc hsil hF hpe
 obtain ⟨x0, x1, x2, x3⟩ := four_cells hg23
 obtain ⟨t0, t1, t2, t3⟩ := four_cells hg3
 clear hg3 hg23
 go_upto_region 2 with fail
 rw [← H3.out.1]
 go_wp2_with fail
 refine Calls.mono H3.out.2.2.2.2.2.2.2.2.2.2 ?_
 rintro r w4 ⟨gr, us, rfl, hAr, hOr⟩
 have hRw := rowsAt_of hAr hOr
 have hb4 := hAr.bl
 have hgt4 := (hb4.block _ (t_lt H3.out.2.2.1)).trans H3.out.2.2.1
 have hgs4 := (hb4.block _ (t_lt H3.out.2.2.2.1)).trans H3.out.2.2.2.1
 have hOc4 := own_up4 H3.out.2.2.2.2.2.1 hb4
 have b4 := bel13 hb4 H3.out.2.1
 have hmk := makeB tg (by omega) w4
 have hA0 := arr_new 4 (.bool false) rfl tg w4
 obtain ⟨w5, hw5⟩ : ∃ w5, w5 = w4.alloc (.cells (madeV (.bool false) tg) 4) := ⟨_, rfl⟩
 rw [← hw5] at hmk hA0
 rw [bl_false] at hA0
 obtain ⟨gs, hgs⟩ : ∃ gs, gs = w4.heap.size := ⟨_, rfl⟩
 rw [← hgs] at hmk hA0
 have H4 : Hid _ := And.intro hRw (And.intro hgt4 (And.intro hgs4 (And.intro hOc4 (And.intro b4 hA0))))
 clear hAr hOr hRw hb4 hgt4 hgs4 hOc4 b4 hA0 hw5 hgs x0 x1 x2 x3 t0 t1 t2 t3
 obtain ⟨t0, t1, t2, t3⟩ := four_cells H4.out.2.1
 go_wp2_with fail
 clear hmk t0 t1 t2 t3
 go_loopg [7, 8] tg (fun q s7 s8 wx => ∃ od : List Nat, q = tg - od.length ∧ od.length ≤ tg ∧ s8 = .int .i64 od.length ∧ Grd tg (sil tg (btw cl es)) od ∧ Arr 4 w4 wx gs (bl tg fun x => decide (x ∈ od)) ∧ OwnI wx w4.heap.size s7 (od.flatMap (memI cl)))
 case atStart => exact ⟨[], rfl, Nat.zero_le _, rfl, .nil, by have h9 := H4.out.2.2.2.2.2; rw [bl_congr (v := fun x => decide (x ∈ ([] : List Nat))) (fun p _ => by simp)] at h9; exact h9, World.ownsRow_nil _ _ _ _⟩
 case round =>
  obtain ⟨od, rfl, hol, rfl, hG, hA, hOl⟩ := hrel
  obtain ⟨kk, hkk⟩ : ∃ kk, kk = od.length := ⟨_, rfl⟩
  rw [← hkk] at hol ⊢
  have hgt := (hA.bl.block _ (t_lt H4.out.2.1)).trans H4.out.2.1
  have hgsy := (hA.bl.block _ (t_lt H4.out.2.2.1)).trans H4.out.2.2.1
  obtain ⟨t0, t1, t2, t3⟩ := four_cells hgt
  by_cases hlt : kk < tg
  ·obtain ⟨z, hz⟩ := hG.some H3.out.2.2.2.2.2.2.1 (by omega)
   have p0 : (0 : Int) ≤ (kk : Int) := by omega
   have p1 : (kk : Int) < (tg : Int) := by omega
   have p6 : IntKind.i64.wrap ((kk : Int) + 1) = (kk : Int) + 1 := by rw [IntKind.wrap_i64]; omega
   obtain ⟨al, cl7, hul⟩ := row_shape hOl
   obtain ⟨N, hN⟩ : ∃ N, N = (od.flatMap (memI cl)).length := ⟨_, rfl⟩
   rw [← hN] at hul
   subst hul
   have hNl : N ≤ 1000000 := by
    have h1 := flat_len (fun x => memI_len cl x) od
    have h2 : od.length * cl.length ≤ 1000 * 1000 := Nat.mul_le_mul (by omega) (by have := H3.out.2.2.2.2.1.len; omega)
    omega
   have hst : ∀ y, y < tg → wr.cell? ⟨gs, y, none⟩ = some (.bool (decide (y ∈ od))) := fun y hy => hA.cell (bl_at _ hy)
   have hRw := H4.out.1.below hA.bl
   have hRy := fun (x : Nat) (u : Value) (hu : BSteps.Has wr u (Sy.steps (Sy.nf E) x)) => ready_any tg gs _ u od wr hu (H3.out.2.2.2.2.2.2.2.2.1.len x) (H3.out.2.2.2.2.2.2.2.2.1.tgt x) hst
   have hzt := hz.1
   have HA : Hid _ := And.intro hG (And.intro hA (And.intro hOl (And.intro hN (And.intro hkk (And.intro hgsy (And.intro hRw (And.intro hRy (And.intro hst hz))))))))
   clear hG hA hOl hN hkk hgsy hgt hRw hRy hst hz
   obtain ⟨wo, rfl⟩ : ∃ wo, wo = wr := ⟨_, rfl⟩
   go_wp2_with fail
   go_loopg [9] tg (fun q s9 wx => ∃ x : Nat, q = tg - x ∧ x ≤ z ∧ s9 = .int .i64 x ∧ wx = wo ∧ ∀ y, y < x → ¬ Rd tg (sil tg (btw cl es)) od y)
   case atStart => exact ⟨0, rfl, Nat.zero_le _, rfl, rfl, fun y hy => absurd hy (Nat.not_lt_zero y)⟩
   case round =>
    obtain ⟨x, rfl, hxz, rfl, hw, hno⟩ := hrel
    subst hw
    have hxt : x < tg := by omega
    have u0 := HA.out.2.2.2.2.2.2.2.2.1 x hxt
    have uf := HA.out.2.1.free x
    obtain ⟨ur, cr0, hur⟩ := HA.out.2.2.2.2.2.2.1 x hxt
    obtain ⟨ar, cr, hur2, -⟩ := id hur
    obtain ⟨R, hR⟩ : ∃ R, R = (Sy.steps (Sy.nf E) (x : Int)).length := ⟨_, rfl⟩
    rw [← hR] at hur2
    subst hur2
    have hRd := HA.out.2.2.2.2.2.2.2.1 x _ hur
    have q0 : (0 : Int) ≤ (x : Int) := by omega
    have q1 : (x : Int) < (tg : Int) := by omega
    have q6 : IntKind.i64.wrap ((x : Int) + 1) = (x : Int) + 1 := by rw [IntKind.wrap_i64]; omega
    by_cases hxo : x ∈ od
    ·simp only [hxo, decide_true] at u0
     have HB : Hid _ := And.intro hno (And.intro hxo HA.out.2.2.2.2.2.2.2.2.2)
     clear hno hxo hRd hur hR cr0
     have hxz2 : x < z := by
      rcases Nat.lt_or_ge x z with h | h
      ·exact h
      ·exact absurd (by rw [show z = x by omega]; exact HB.out.2.1) HB.out.2.2.2.1
     go_wp2_with fail
     go_roundg (tg - (x + 1))
     case measure => omega
     case rel => exact ⟨x + 1, rfl, by omega, by go_num, rfl, fun y hy => by
      by_cases e : y = x
      ·subst e; exact fun h => h.2.1 HB.out.2.1
      ·exact HB.out.1 y (by omega)⟩
    ·simp only [hxo, decide_false] at u0
     have hok := rd_ok (f := fun i => Sy.steps (Sy.nf E) i) (od := od) (fun e he => (H3.out.2.2.2.2.2.2.2.2.1.tgt x e he).1) hxt hxo
     rw [H3.out.2.2.2.2.2.2.2.1] at hok
     obtain ⟨bv, hbv⟩ : ∃ b, b = okB (Sy.steps (Sy.nf E) (x : Int)) od := ⟨_, rfl⟩
     rw [← hbv] at hok hRd
     have HB : Hid _ := And.intro hno (And.intro hok (And.intro hRd hxo))
     clear hno hok hRd hur hR hbv hxo
     cases bv with
     | false =>
       have hxz2 : x < z := by
        rcases Nat.lt_or_ge x z with h | h
        ·exact h
        ·have h9 := HB.out.2.1.2 (by rw [show x = z by omega]; exact HA.out.2.2.2.2.2.2.2.2.2)
         simp at h9
       go_wp2_with (go_at_call 38; refine Calls.mono HB.out.2.2.1 ?_; rintro r9 w9 ⟨rfl, hw9⟩; obtain rfl := hw9.symm; clear hw9)
       go_roundg (tg - (x + 1))
       case measure => omega
       case rel => exact ⟨x + 1, rfl, by omega, by go_num, rfl, fun y hy => by
        by_cases e : y = x
        ·subst e; exact fun h => by have h9 := HB.out.2.1.2 h; simp at h9
        ·exact HB.out.1 y (by omega)⟩
     | true =>
       have hRx := HB.out.2.1.1 rfl
       have hG2 := HA.out.1.snoc hRx HB.out.1
       have hA2 := HA.out.2.1.set x (.bool true)
       rw [fr_set] at hA2
       have hOl2 : OwnI (wr.setCell ⟨gs, x, none⟩ (.bool true)) w4.heap.size (.slice al N cl7) (od.flatMap (memI cl)) := by
        obtain ⟨cs9, hc9, -⟩ := HA.out.2.1.ids
        exact own_up HA.out.2.2.1 (Kept.setCell wr gs x (.bool true)) fun b hb e => own_bk HA.out.2.2.1 hc9 (by decide) (by rw [← e]; exact hb)
       obtain ⟨w6, hw6⟩ : ∃ w6, w6 = wr.setCell ⟨gs, x, none⟩ (.bool true) := ⟨_, rfl⟩
       rw [← hw6] at hA2 hOl2
       have HD : Hid _ := And.intro hG2 (And.intro hA2 (And.intro hOl2 hw6))
       clear hRx hG2 hA2 hOl2 hw6
       go_upto_region 12 with (go_at_call 38; refine Calls.mono HB.out.2.2.1 ?_; rintro r9 w9 ⟨rfl, hw9⟩; obtain rfl := hw9.symm; clear hw9)
       rw [← HD.out.2.2.2]
       clear t0 t1 t2 t3 u0 uf cr0
       go_wp2_with fail
       go_loopg [7, 10] n (fun q s7 s10 wx => ∃ i : Nat, q = n - i ∧ i ≤ n ∧ s10 = .int .i64 i ∧ Arr 4 w4 wx gs (bl tg fun y => decide (y ∈ od ++ [x])) ∧ OwnI wx w4.heap.size s7 (od.flatMap (memI cl) ++ memI (cl.take i) x))
       case atStart => exact ⟨0, rfl, Nat.zero_le _, rfl, HD.out.2.1, by have h9 := HD.out.2.2.1; rw [show od.flatMap (memI cl) = od.flatMap (memI cl) ++ memI (cl.take 0) x by simp [memI]] at h9; exact h9⟩
       case round =>
        obtain ⟨i, rfl, hi, rfl, hA, hOl⟩ := hrel
        obtain ⟨y0, y1, y2, y3⟩ := four_cells ((hA.bl.block _ (t_lt H4.out.2.2.1)).trans H4.out.2.2.1)
        by_cases hin : i < n
        ·obtain ⟨c, hc⟩ : ∃ c, cl[i]? = some c := ⟨cl[i]'(by have := H3.out.2.2.2.2.1.len; omega), List.getElem?_eq_getElem _⟩
         obtain ⟨gc, cc, hc1, d0⟩ := own_cell (own_up4 H4.out.2.2.2.1 hA.bl) (natI_at hc)
         simp only [Value.slice.injEq] at hc1
         obtain ⟨rfl, -, -⟩ := hc1
         have hnx := memI_next hc x
         have r0 : (0 : Int) ≤ (i : Int) := by omega
         have r1 : (i : Int) < (n : Int) := by omega
         have r6 : IntKind.i64.wrap ((i : Int) + 1) = (i : Int) + 1 := by rw [IntKind.wrap_i64]; omega
         by_cases hcx : c = x
         ·subst hcx
          rw [if_pos rfl] at hnx
          have o1 : ((c : Int) == (c : Int)) = true := by simp
          obtain ⟨al2, cl2, hu2⟩ := row_shape hOl
          obtain ⟨N2, hN2⟩ : ∃ N, N = (od.flatMap (memI cl) ++ memI (cl.take i) c).length := ⟨_, rfl⟩
          rw [← hN2] at hu2
          subst hu2
          have hN2l : N2 ≤ 1001000 := by
           rw [hN2, List.length_append, ← HA.out.2.2.2.1]
           have h1 := memI_len (cl.take i) c
           rw [List.length_take] at h1
           omega
          have hO2 : wr.ownsRow w4.heap.size 3 1 (.slice al2 N2 cl2) N2 (iC (od.flatMap (memI cl) ++ memI (cl.take i) c)) := by have h1 := hOl; unfold OwnI at h1; rw [← hN2] at h1; exact h1
          have hml : N2 + 1 ≤ maxLen := by unfold maxLen; omega
          have hby : (N2 + 1) * 8 ≤ 140737488355328 := by omega
          have hle : w4.heap.size ≤ (wr.alloc (.cells #[.int .i64 (i : Int)] 3)).heap.size := by have := hA.bl.size; rw [World.size_alloc]; omega
          have HE : Hid _ := And.intro hA (And.intro hO2 (And.intro hN2 hnx))
          clear hA hOl hO2 hN2 hnx hc
          go_wp2_with (at_builtin; refine wpList_append_own_at _ rfl _ _ 45 rfl w4.heap.size 3 i0 (.int .i64 0) 1 8 Tryz.underlying45 hi0 hz0 hz1 hz2 rfl (by decide) (.slice al2 N2 cl2) N2 (iC (od.flatMap (memI cl) ++ memI (cl.take i) c)) rfl (HE.out.2.1.alloc _) ⟨wr.heap.size, 0, none⟩ 1 1 [.int .i64 (i : Int)] rfl rfl (World.news_of_block (cs := #[.int .i64 (i : Int)]) (t := 3) (fr := (0, 0)) (heap_alloc_new wr _)) (by simp [Value.oneCell']) hml hby hle ?_; intro v5 w5' hO5 hg5 hnil5 hat5; have hk5 := grown_alloc hg5; have HX : Hid _ := And.intro hO5 hk5; clear hO5 hg5 hk5 hnil5 hat5)
          go_roundg (n - (i + 1))
          case measure => omega
          case rel =>
           refine ⟨i + 1, rfl, by omega, by go_num, HE.out.1.kept HX.out.2 fun b hb => ⟨(HE.out.2.1.lt b hb).1, fun e => ?_⟩, ?_⟩
           ·obtain ⟨cs9, hc9, -⟩ := HE.out.1.ids
            exact own_bk HE.out.2.1 hc9 (by decide) (by rw [← e]; exact hb)
           ·rw [← HE.out.2.2.2, ← List.append_assoc]
            unfold OwnI
            rw [List.length_append, List.length_singleton, ← HE.out.2.2.1, iC_snoc]
            exact HX.out.1
         ·rw [if_neg fun e => hcx e.symm] at hnx
          have o1 : ((c : Int) == (x : Int)) = false := by simp; omega
          have o2 : ¬ (c : Int) = (x : Int) := by omega
          rw [hnx] at hOl
          have HE : Hid _ := And.intro hA hOl
          clear hA hOl hnx hc hcx
          go_wp2_with fail
          go_roundg (n - (i + 1))
          case measure => omega
          case rel => exact ⟨i + 1, rfl, by omega, by go_num, HE.out.1, HE.out.2⟩
        ·obtain rfl : n = i := by omega
         have r1 : ¬ (n : Int) < (n : Int) := by omega
         rw [List.take_of_length_le (by have := H3.out.2.2.2.2.1.len; omega)] at hOl
         have HE : Hid _ := And.intro hA hOl
         clear hA hOl hi hin
         go_wp2_with fail
         go_roundg (tg - (od ++ [x]).length)
         case measure => have := HA.out.2.2.2.2.1; rw [List.length_append, List.length_singleton]; omega
         case rel =>
          have hk9 := HA.out.2.2.2.2.1
          exact ⟨od ++ [x], rfl, by rw [List.length_append, List.length_singleton]; omega, by rw [List.length_append, List.length_singleton, ← hk9]; go_num, HD.out.1, HE.out.1, by rw [List.flatMap_append]; simpa using HE.out.2⟩
  ·have hkt : od.length = tg := by omega
   obtain rfl : tg = kk := by omega
   have p1 : ¬ (tg : Int) < (tg : Int) := by omega
   have hno : ∀ x, ¬ Rd tg (sil tg (btw cl es)) od x := fun x hx => by
    have h1 := nodup_sub (x :: od) (List.range tg) (List.nodup_cons.2 ⟨hx.2.1, hG.nodup⟩) fun y hy => by
     rcases List.mem_cons.1 hy with rfl | hy
     ·exact List.mem_range.2 hx.1
     ·exact List.mem_range.2 (hG.lt y hy)
    rw [List.length_range, List.length_cons] at h1
    omega
   have HA : Hid _ := And.intro hG (And.intro hA (And.intro hOl hno))
   clear hG hA hOl hno hgt hgsy hlt hkt hol hkk
   go_wp2_with fail
   go_ret
   have b5 := H4.out.2.2.2.2.1.trans (HA.out.2.1.bl.mono H4.out.2.2.2.2.1.size)
   refine ⟨_, rfl, cl, H3.out.2.2.2.2.1, od, ?_, ?_, own_lower HA.out.2.2.1 H4.out.2.2.2.2.1.size, b5⟩
   ·rw [← H3.out.2.2.2.2.2.2.2.2.2.1]; exact HA.out.1
   ·rw [← H3.out.2.2.2.2.2.2.2.2.2.1]; exact HA.out.2.2.2
end Go.Proofs.YtplofbabfkkimaaGreatDoor.Ts
/- tauscc: Order of what is no system. -/
namespace Go.Proofs.YtplofbabfkkimaaGreatDoor.Ts
open Go.RowKit Go.Maps
attribute [local go_sem ↓] Go.wp_at_zero Go.wp_at_succ
set_option linter.unusedSimpArgs false in
set_option maxRecDepth 100000 in
set_option maxHeartbeats 4000000 in
theorem order_bad {M : Nat} (hS : SortOk M) (n k s : Int) (v : Value) (es : List Sy.Ed) (a : Addr) (w : World) (hA : Sent w 13 a) (hv : BEdges.Has w v es) (hM : es.length ≤ M) (hm : es.length ≤ 100000) (hq : Sy.right n k s es = false) :
 Calls Tryz.prog 10 #[sysV n k s v] w fun r w' => ∃ b, r = .returned (.tuple #[.slice none 0 0, .iface 74 (.pointer (some ⟨b, 0, none⟩))]) ∧ Chain w' 0 0 a [tauB, sysB] (.iface 74 (.pointer (some ⟨b, 0, none⟩))) ∧ Below w.heap.size w w' := by
 have hb1 := fun o => (Below.refl w.heap.size w).alloc (Nat.le_refl _) o
 have hN := fun o => collapsed_bad hS n k s v es a (w.alloc o) (hA.below (hb1 o)) (hv.below (hb1 o)) hM hm hq
 have H : Hid _ := And.intro hN hb1
 clear hN hb1 hA hv hM hm hq
 unfold sysV at H ⊢
 go_enter Tryz.func10, Tryz.ntmps10
 go_wp2_with (first | (go_at_call 26; refine Calls.mono (H.out.1 _) ?_; rintro r1 w1 ⟨x, rfl, hx, hb⟩; obtain ⟨T, ad, rfl⟩ := hx.iface; have HX : Hid _ := And.intro hx hb; clear hx hb) | (go_at_call 24; refine Calls.mono (tfault_any _ _ _ a [sysB] HX.out.1) ?_; rintro r3 w3 ⟨b, rfl, hC3, hb3⟩; have H3 : Hid _ := And.intro hC3 hb3; clear hC3 hb3))
 go_ret2
 have h1 := (H.out.2 _).trans (HX.out.2.mono (H.out.2 _).size)
 exact ⟨b, rfl, H3.out.1, h1.trans (H3.out.2.mono h1.size)⟩
end Go.Proofs.YtplofbabfkkimaaGreatDoor.Ts
/- Contracts of what the document tells of a system that is none, and of the law's Light. -/
namespace Go.Proofs.YtplofbabfkkimaaGreatDoor
open Go.RowKit Go.Maps
attribute [local go_sem ↓] Go.wp_at_zero Go.wp_at_succ
theorem bel6t {w W w8 : World} (hb : Below W.heap.size W w8) (h : Below w.heap.size w W) : Below w.heap.size w w8 := h.trans (hb.mono h.size)
theorem res_up6t {W w8 : World} {b : Nat} {o : Obj} (hb : Below W.heap.size W w8) (h : W.heap[b]? = some o) : w8.heap[b]? = some o := (hb.block b (t_lt h)).trans h
def tauB1 : ByteArray := ⟨#[116, 97, 117, 115, 99, 99, 32]⟩
def tauB2 : ByteArray := ⟨#[116, 97, 117, 115, 99, 99, 32, 115, 121, 115, 116, 101, 109, 32]⟩
theorem tau_join2 : joinS ⟨#[]⟩ [Ts.tauB, sysB] = tauB2 := by decide
def hndTau (ok : Bool) : Value := if ok then .agg #[.int .i64 0, .int .i64 0, .int .i64 0, .string ⟨#[]⟩] else .agg #[.int .i64 14, .int .i64 0, .int .i64 0, .string tauB2]
set_option maxRecDepth 100000 in
set_option maxHeartbeats 2000000 in
theorem on_tau (ok : Bool) (w : World) : Calls Tryz.prog 21 #[.string ⟨#[116, 97, 117, 115, 99, 99]⟩, chkV ok] w fun e w' => e = .returned (hndTau ok) ∧ Below w.heap.size w w' := by
 cases ok with
 | true =>
   show Calls Tryz.prog 21 #[.string ⟨#[116, 97, 117, 115, 99, 99]⟩, .agg #[.int .i64 0, .int .i64 0, .int .i64 0, .string ⟨#[]⟩]] w fun e w' => e = .returned (.agg #[.int .i64 0, .int .i64 0, .int .i64 0, .string ⟨#[]⟩]) ∧ Below w.heap.size w w'
   go_enter Tryz.func21, Tryz.ntmps21
   go_wp2
   refine bodyPost_ret (v := .agg #[.int .i64 0, .int .i64 0, .int .i64 0, .string ⟨#[]⟩]) (by simp [results, Tryz.results21, go_sem]) rfl ⟨rfl, ?_⟩
   first
    | exact ((Below.refl _ _).alloc (Nat.le_refl _) _).alloc (by simp) _
    | exact four_below (((Below.refl _ _).alloc (Nat.le_refl _) _).alloc (by simp) _) (by simp) _ _ _ _
 | false =>
   have zs : (⟨#[116, 97, 117, 115, 99, 99]⟩ ++ ⟨#[32]⟩ : ByteArray) = tauB1 := by decide
   have zt : tauB1 ++ sysB1 = tauB2 := by decide
   show Calls Tryz.prog 21 #[.string ⟨#[116, 97, 117, 115, 99, 99]⟩, .agg #[.int .i64 14, .int .i64 0, .int .i64 0, .string sysB1]] w fun e w' => e = .returned (.agg #[.int .i64 14, .int .i64 0, .int .i64 0, .string tauB2]) ∧ Below w.heap.size w w'
   go_enter Tryz.func21, Tryz.ntmps21
   go_wp2
   refine bodyPost_ret (v := .agg #[.int .i64 14, .int .i64 0, .int .i64 0, .string tauB2]) (by simp [results, Tryz.results21, go_sem]) rfl ⟨rfl, ?_⟩
   first
    | exact ((Below.refl _ _).alloc (Nat.le_refl _) _).alloc (by simp) _
    | exact (((Below.refl _ _).alloc (Nat.le_refl _) _).alloc (by simp) _).setCell (by simp) _
    | exact four_below (((((Below.refl _ _).alloc (Nat.le_refl _) _).alloc (by simp) _)).setCell (by simp) _) (by simp) _ _ _ _
set_option maxRecDepth 100000 in
set_option maxHeartbeats 2000000 in
theorem handed_tau (n k s : Int) (v : Value) (es : List Sy.Ed) (w : World) (hv : BEdges.Has w v es) :
 Calls Tryz.prog 7 #[.string ⟨#[116, 97, 117, 115, 99, 99]⟩, sysV n k s v] w fun e w' => e = .returned (hndTau (Sy.right n k s es)) ∧ Below w.heap.size w w' := by
 obtain ⟨w1, hw1⟩ : ∃ w1, w1 = (w.alloc (.cells #[.int .i64 n, .int .i64 k, .int .i64 s, v] 24)).alloc (.cells #[.int .i64 0, .int .i64 0, .int .i64 0, .string ⟨#[]⟩] 29) := ⟨_, rfl⟩
 have hb1 : Below w.heap.size w w1 := by rw [hw1]; exact ((Below.refl _ _).alloc (Nat.le_refl _) _).alloc (by simp) _
 have hR := refCheck_any n k s v es w1 (hv.below hb1)
 have hg : w1.heap[w.heap.size + 1]? = some (.cells #[.int .i64 0, .int .i64 0, .int .i64 0, .string ⟨#[]⟩] 29 (0, 0)) := by rw [hw1]; exact two_alloc w _ _
 obtain ⟨ok, hok⟩ : ∃ ok, ok = Sy.right n k s es := ⟨_, rfl⟩
 rw [← hok] at hR ⊢
 have H1 : Hid _ := And.intro hR (And.intro hb1 (And.intro hg hw1))
 obtain ⟨ao, cap, rfl, _⟩ := hv
 clear hR hb1 hg hw1 hok
 unfold sysV at H1 ⊢
 go_enter Tryz.func7, Tryz.ntmps7
 go_wp2_with fail
 rw [← H1.out.2.2.2]
 refine Calls.mono H1.out.1 ?_
 rintro e w2 ⟨rfl, hb2⟩
 have H2 : Hid (Below w1.heap.size w1 w2) := hb2
 clear hb2
 go_wp2_with fail
 refine Calls.mono (on_tau ok w2) ?_
 rintro e w3 ⟨rfl, hb3⟩
 have hb13 := bel6t hb3 H2.out
 have hg2 := (hb13.block _ (t_lt H1.out.2.2.1)).trans H1.out.2.2.1
 obtain ⟨y0, y1, y2, y3⟩ := four_cells hg2
 have z0 := blk_free hg2 0
 have z1 := blk_free hg2 1
 have z2 := blk_free hg2 2
 have z3 := blk_free hg2 3
 have H3 : Hid _ := And.intro (bel6t hb13 H1.out.2.1) hg2
 clear hb3 hb13 hg2
 cases ok with
 | true =>
   rw [show hndTau true = .agg #[.int .i64 0, .int .i64 0, .int .i64 0, .string ⟨#[]⟩] from rfl]
   go_wp2_with fail
   have hgf := four_set (a0 := .int .i64 0) (a1 := .int .i64 0) (a2 := .int .i64 0) (a3 := .string ⟨#[]⟩) H3.out.2
   have hbf := four_below H3.out.1 (b := w.heap.size + 1) (by omega) (.int .i64 0) (.int .i64 0) (.int .i64 0) (.string ⟨#[]⟩)
   generalize ((((w3.setCell ⟨w.heap.size + 1, 0, none⟩ (.int .i64 0)).setCell ⟨w.heap.size + 1, 1, none⟩ (.int .i64 0)).setCell ⟨w.heap.size + 1, 2, none⟩ (.int .i64 0)).setCell ⟨w.heap.size + 1, 3, none⟩ (.string ⟨#[]⟩)) = wf at hgf hbf ⊢
   obtain ⟨c0, c1, c2, c3⟩ := four_cells hgf
   exact bodyPost_ret (v := .agg #[.int .i64 0, .int .i64 0, .int .i64 0, .string ⟨#[]⟩]) (by simp [results, Tryz.results7, go_sem, c0, c1, c2, c3]) rfl ⟨rfl, hbf⟩
 | false =>
   rw [show hndTau false = .agg #[.int .i64 14, .int .i64 0, .int .i64 0, .string tauB2] from rfl]
   go_wp2_with fail
   have hgf := four_set (a0 := .int .i64 14) (a1 := .int .i64 0) (a2 := .int .i64 0) (a3 := .string tauB2) H3.out.2
   have hbf := four_below H3.out.1 (b := w.heap.size + 1) (by omega) (.int .i64 14) (.int .i64 0) (.int .i64 0) (.string tauB2)
   generalize ((((w3.setCell ⟨w.heap.size + 1, 0, none⟩ (.int .i64 14)).setCell ⟨w.heap.size + 1, 1, none⟩ (.int .i64 0)).setCell ⟨w.heap.size + 1, 2, none⟩ (.int .i64 0)).setCell ⟨w.heap.size + 1, 3, none⟩ (.string tauB2)) = wf at hgf hbf ⊢
   obtain ⟨c0, c1, c2, c3⟩ := four_cells hgf
   exact bodyPost_ret (v := .agg #[.int .i64 14, .int .i64 0, .int .i64 0, .string tauB2]) (by simp [results, Tryz.results7, go_sem, c0, c1, c2, c3]) rfl ⟨rfl, hbf⟩
def lightB (n : Int) (m : Nat) (ok : Bool) : Bool := decide (n ≤ 200) && decide (m ≤ 1500) || !ok && decide (m ≤ 11000)
set_option maxRecDepth 100000 in
set_option maxHeartbeats 2000000 in
theorem light_any (n k s : Int) (v : Value) (es : List Sy.Ed) (w : World) (hv : BEdges.Has w v es) :
 Calls Tryz.prog 4 #[sysV n k s v] w fun e w' => e = .returned (.bool (lightB n es.length (Sy.right n k s es))) ∧ Below w.heap.size w w' := by
 obtain ⟨w1, hw1⟩ : ∃ w1, w1 = w.alloc (.cells #[.int .i64 n, .int .i64 k, .int .i64 s, v] 24) := ⟨_, rfl⟩
 have hb1 : Below w.heap.size w w1 := by rw [hw1]; exact (Below.refl _ _).alloc (Nat.le_refl _) _
 have hg1 : w1.heap[w.heap.size]? = some (.cells #[.int .i64 n, .int .i64 k, .int .i64 s, v] 24 (0, 0)) := by rw [hw1]; exact heap_alloc_new w _
 have hR := right_any n k s v es w1 (hv.below hb1)
 obtain ⟨ok, hok⟩ : ∃ ok, ok = Sy.right n k s es := ⟨_, rfl⟩
 obtain ⟨m, hm⟩ : ∃ m, m = es.length := ⟨_, rfl⟩
 obtain ⟨ao, cap, rfl, _⟩ := hv
 rw [← hok] at hR ⊢
 rw [← hm] at hR hw1 hg1 ⊢
 have H1 : Hid _ := And.intro hR (And.intro hb1 (And.intro hw1 hg1))
 obtain ⟨x0, x1, x2, x3⟩ := four_cells hg1
 clear hR hb1 hw1 hok hm hg1
 unfold sysV at H1 ⊢
 by_cases h1 : n ≤ 200
 ·by_cases h2 : m ≤ 1500
  ·have e1 : decide (n ≤ 200) = true := decide_eq_true h1
   have e2 : decide (m ≤ 1500) = true := decide_eq_true h2
   have e3 : decide ((m : Int) ≤ 1500) = true := by simp; omega
   have e4 : lightB n m ok = true := by unfold lightB; rw [e1, e2]; rfl
   rw [e4]
   clear h1 h2 e4
   go_enter Tryz.func4, Tryz.ntmps4
   go_upto_region 1 with fail
   rw [← H1.out.2.2.1]
   go_wp2_with fail
   go_ret
   exact ⟨rfl, H1.out.2.1⟩
  ·have e1 : decide (n ≤ 200) = true := decide_eq_true h1
   have e2 : decide (m ≤ 1500) = false := decide_eq_false h2
   have e3 : decide ((m : Int) ≤ 1500) = false := by simp; omega
   cases ok with
   | true =>
     have e4 : lightB n m true = false := by unfold lightB; rw [e1, e2]; rfl
     rw [e4]
     clear h1 h2 e4
     go_enter Tryz.func4, Tryz.ntmps4
     go_upto_region 1 with fail
     rw [← H1.out.2.2.1]
     go_wp2_with fail
     refine Calls.mono H1.out.1 ?_
     rintro r w2 ⟨rfl, hb2⟩
     have HB : Hid (Below w1.heap.size w1 w2) := hb2
     clear hb2
     go_wp2_with fail
     go_ret
     exact ⟨rfl, bel6t HB.out H1.out.2.1⟩
   | false =>
     have e4 : lightB n m false = decide ((m : Int) ≤ 11000) := by unfold lightB; rw [e1, e2]; simp; omega
     rw [e4]
     clear h1 h2 e4
     go_enter Tryz.func4, Tryz.ntmps4
     go_upto_region 1 with fail
     rw [← H1.out.2.2.1]
     go_wp2_with fail
     refine Calls.mono H1.out.1 ?_
     rintro r w2 ⟨rfl, hb2⟩
     obtain ⟨y0, y1, y2, y3⟩ := four_cells (res_up6t hb2 H1.out.2.2.2)
     have HB : Hid (Below w1.heap.size w1 w2) := hb2
     clear hb2
     go_wp2_with fail
     go_ret
     exact ⟨rfl, bel6t HB.out H1.out.2.1⟩
 ·have e1 : decide (n ≤ 200) = false := decide_eq_false h1
  have e2 : decide (m ≤ 1500) = decide (m ≤ 1500) := rfl
  have h2 : True := trivial
  cases ok with
  | true =>
    have e4 : lightB n m true = false := by unfold lightB; rw [e1]; simp
    rw [e4]
    clear h1 h2 e4
    go_enter Tryz.func4, Tryz.ntmps4
    go_upto_region 1 with fail
    rw [← H1.out.2.2.1]
    go_wp2_with fail
    refine Calls.mono H1.out.1 ?_
    rintro r w2 ⟨rfl, hb2⟩
    have HB : Hid (Below w1.heap.size w1 w2) := hb2
    clear hb2
    go_wp2_with fail
    go_ret
    exact ⟨rfl, bel6t HB.out H1.out.2.1⟩
  | false =>
    have e4 : lightB n m false = decide ((m : Int) ≤ 11000) := by unfold lightB; rw [e1]; simp; omega
    rw [e4]
    clear h1 h2 e4
    go_enter Tryz.func4, Tryz.ntmps4
    go_upto_region 1 with fail
    rw [← H1.out.2.2.1]
    go_wp2_with fail
    refine Calls.mono H1.out.1 ?_
    rintro r w2 ⟨rfl, hb2⟩
    obtain ⟨y0, y1, y2, y3⟩ := four_cells (res_up6t hb2 H1.out.2.2.2)
    have HB : Hid (Below w1.heap.size w1 w2) := hb2
    clear hb2
    go_wp2_with fail
    go_ret
    exact ⟨rfl, bel6t HB.out H1.out.2.1⟩
end Go.Proofs.YtplofbabfkkimaaGreatDoor
