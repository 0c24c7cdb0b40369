/- The statement TermWeights as a call: whatever comes in, it returns true, and nothing that was there has turned. -/
import Derived.Test.YthnenpncajpibaaGreatDoorLawWeights0
import Derived.Deep.DeepCutAuto
import Derived.Deep.RegionHeld3
namespace Go.Proofs.YthnenpncajpibaaGreatDoor
open Go.RowKit Go.Maps
attribute [local go_sem ↓] Go.wp_at_zero Go.wp_at_succ
set_option maxRecDepth 100000 in
set_option maxHeartbeats 1600000 in
theorem lawWeights_long (ao : Option Addr) (n cap : Nat) (d x : Int) (w : World) (hn : 200 < n ∨ (¬ 200 < n ∧ (d < 0 ∨ (¬ d < 0 ∧ 70 < d)))) (hm : n ≤ maxLen) :
    Calls Tryz.prog 3 #[.slice ao n cap, .int .i64 d, .int .i64 x] w fun r w' => r = .returned (.bool true) ∧ Below w.heap.size w w' := by
  unfold maxLen at hm
  have hq : (200 : Int) < (n : Int) ∨ (¬ (200 : Int) < (n : Int) ∧ (d < 0 ∨ (¬ d < 0 ∧ 70 < d))) := by omega
  clear hn
  rcases hq with h1 | ⟨h1, h2 | ⟨h2, h3⟩⟩
  all_goals
    go_enter Tryz.func3, Tryz.ntmps3
    go_wp2_with (go_at_call 5; refine (alive3 _).mono ?_; rintro r w' ⟨rfl, hb⟩)
    go_ret
    exact ⟨rfl, hb⟩
set_option maxRecDepth 100000 in
set_option maxHeartbeats 16000000 in
theorem lawWeights_short (v : Value) (l : List Tm) (d : Nat) (x : Int) (aA aI aL : Addr) (w : World) (hl : l.length ≤ 200) (hd : d ≤ 70) (hT : HasT w v l) (hrm : ∀ t ∈ l, Room t) (hE : ErrT w aA aI aL) :
    Calls Tryz.prog 3 #[v, .int .i64 d, .int .i64 x] w fun r w' => r = .returned (.bool true) ∧ Below w.heap.size w w' := by
  obtain ⟨ao, cap, hv, _⟩ := id hT
  obtain ⟨n, hn⟩ : ∃ n, n = l.length := ⟨_, rfl⟩
  rw [← hn] at hl hv
  have h1 : ¬ (200 : Int) < (n : Int) := by omega
  have h2 : ¬ (d : Int) < 0 := by omega
  have h3 : ¬ (70 : Int) < (d : Int) := by omega
  subst hv
  have HO : Hid _ := And.intro hT (And.intro hn (And.intro hrm hE))
  clear hT hn hrm hE
  go_enter Tryz.func3, Tryz.ntmps3
  go_wp2_with fail
  refine (newA w).mono ?_
  rintro r w1 ⟨rfl, F1, hS1, hF1, hb1, hG1⟩
  have H1 : Hid _ := And.intro hS1 (And.intro hF1 hb1)
  clear hS1 hF1 hb1 hG1
  go_wp2_with fail
  refine (rnew_any w1).mono ?_
  rintro r w2 ⟨rfl, ⟨G1, hR1, hG1⟩, hb2⟩
  have HP : Hid (Pr w w2 w.heap.size w1.heap.size [⟨1, 0, 0, 0, [], []⟩]) := pr_new H1.out.1 H1.out.2.1 H1.out.2.2 hR1 hG1 hb2
  clear H1 hR1 hG1 hb2
  generalize w.heap.size = b, w1.heap.size = c at HP ⊢
  go_wp2_with fail
  refine (alive3 w2).mono ?_
  rintro r w3 ⟨rfl, hb3⟩
  have hPut := put_pr (.slice ao n cap) l b c _ aA w w3 (HP.out.below hb3) HO.out.1 HO.out.2.2.1 (by have := HO.out.2.1; simp; omega) HO.out.2.2.2.a
  have HPut : Hid _ := hPut
  clear HP hb3 hPut
  go_wp2_with fail
  refine Calls.mono HPut.out ?_
  rintro r w4 ⟨rfl, L4, hP4, hL4⟩
  have H4 : Hid _ := And.intro hP4 (show L4.length ≤ 201 by have := HO.out.2.1; simp at hL4; omega)
  clear HPut hP4 hL4
  go_wp2_with fail
  go_loopg [9] d (fun q kv wr => ∃ (k : Nat) (L : List Tm), q = d - k ∧ k ≤ d ∧ kv = .int .i64 k ∧ Pr w wr b c L ∧ L.length ≤ 201 + k)
  case atStart => exact ⟨0, L4, rfl, Nat.zero_le _, rfl, H4.out.1, H4.out.2⟩
  case round =>
    obtain ⟨k, L, rfl, hk, rfl, hPr, hLl⟩ := hrel
    clear H4
    obtain ⟨F, G, hS, hR, hd', hF, hG, hbl, hGo⟩ := _root_.id hPr
    obtain ⟨ay, cy, hc⟩ := hR.cell
    have hcl := World.block_lt_of_cell? wr _ hc
    by_cases hlt : k < d
    · have q1 : (k : Int) < (d : Int) := by omega
      have hPO := fun (kk aa dd : Int) W g => put_one kk aa dd b c L aA w wr W g hPr
      have HK : Hid _ := And.intro hPr (And.intro hPO hLl)
      clear hPr hS hR hd' hF hG hbl hGo hPO
      go_wp2_with fail
      go_region
      go_wp2_with fail
      refine Calls.mono (HK.out.2.1 (4 - (k : Int) % 2) ((L.length : Int) - 1) ((L.length : Int) - 1) _ (wr.heap.size + 1) ?hb (by omega) ?hblk (by omega) HO.out.2.2.2.a) ?_
      case hb => repeat (first | exact Below.refl _ _ | refine Below.drew ?_ | refine Below.alloc ?_ (by simp) _)
      case hblk => first | exact two_alloc wr _ _ | (have h9 := two_alloc wr; simpa using h9 _ _)
      rintro r w5 ⟨rfl, L5, hP5, hL5⟩
      have H5 : Hid (Pr w w5 b c L5) := hP5
      clear hP5
      go_wp2_with fail
      go_roundg (d - (k + 1))
      case measure => omega
      case rel => exact ⟨k + 1, L5, rfl, by omega, by go_num, H5.out, by omega⟩
    · obtain rfl : k = d := by omega
      have q1 : ¬ (k : Int) < (k : Int) := by omega
      have HK : Hid _ := And.intro hPr (And.intro hS (And.intro hR (And.intro hGo hbl)))
      clear hPr hS hR hd' hF hG hbl hGo
      go_wp2_with fail
      obtain ⟨wB, hwB⟩ : ∃ wB, wB = wr := ⟨_, rfl⟩
      rw [← hwB] at HK hc hcl ⊢
      have hlL : L.length ≤ 1000 := by omega
      clear hwB
      go_loopg [2, 12] 2 (fun q xv kv wx => ∃ (m : Nat) (y : Int) (vi vw : Value) (ls ws : List Value) (zss : List (List Int)), q = 2 - m ∧ m ≤ 2 ∧ kv = .int .i64 m ∧ xv = .int .i64 y ∧ Wk wB wx m vi vw ls ws zss)
      case atStart => exact ⟨0, x, _, _, [], [], [], rfl, Nat.zero_le _, rfl, rfl, wk_new wB⟩
      case round =>
        obtain ⟨m, y, vi, vw, ls, ws, zss, rfl, hm, rfl, rfl, hW⟩ := hrel
        by_cases hmt : m < 2
        · have p1 : (m : Int) < 2 := by omega
          have hS := HK.out.2.1.below hW.bl
          have hE := HO.out.2.2.2.below (HK.out.2.2.2.2.trans (hW.bl.mono HK.out.2.2.2.2.size))
          cases hy : Tm.has L.length y with
          | false =>
            have hyy : y < 0 ∨ (¬ y < 0 ∧ (L.length : Int) ≤ y) := by
              have h9 : ¬ (0 ≤ y ∧ y < (L.length : Int)) := fun e => by rw [has_iff.2 e] at hy; cases hy
              omega
            have hw1 := weight_no b L F y 201 (.pointer (some aI)) wr hS hy hE.i.1
            have hw2 := fun W (hb : Below wr.heap.size wr W) => consts_no b L F y 201 (.pointer (some aI)) W (hS.below hb) hy (hE.below hb).i.1
            unfold tFaultV at hw1 hw2
            have H1 : Hid _ := And.intro hw1 (And.intro hw2 (And.intro hW hE))
            clear hw1 hw2 hW hE hS hy
            go_wp2_with fail
            refine Calls.mono H1.out.1 ?_
            rintro r w1' ⟨rfl, hT1, hb1⟩
            have H2 : Hid _ := And.intro hT1 hb1
            clear hT1 hb1
            go_wp2_with fail
            refine Calls.mono (H1.out.2.1 w1' H2.out.2) ?_
            rintro r w2' ⟨rfl, hT2, hb2⟩
            have hb12 : Below wr.heap.size wr w2' := H2.out.2.trans (hb2.mono H2.out.2.size)
            have hT12 : TermFault w2' wr.heap.size _ := (hb2.block _ (t_lt H2.out.1)).trans H2.out.1
            have hW2 := H1.out.2.2.1.below hb12
            have hIn := hW2.ints (by omega) (.slice none 0 0) [] w2'.heap.size (World.ownsRow_nil _ _ _ _) hW2.bl.size hW2.ls_lt (by simp)
            have H3 : Hid _ := And.intro hT12 (And.intro hT2 (And.intro hW2 hIn))
            clear hT12 hT2 hW2 hIn hb12 hb2
            go_wp2_with fail
            refine Calls.mono H3.out.2.2.2 ?_
            rintro r w3' ⟨rfl, vi', vw', ws', hW3, _, hk3⟩
            have hc3 := cell_up hc hW3.bl
            have hE3 := HO.out.2.2.2.below (HK.out.2.2.2.2.trans (hW3.bl.mono HK.out.2.2.2.2.size))
            have hTa : TermFault w3' wr.heap.size (errV aI) := (hk3.block _ (t_lt H3.out.1) (H3.out.2.2.1.bs.far H3.out.1 (by decide) (by decide))).trans H3.out.1
            have hTb : TermFault w3' w1'.heap.size (errV aI) := (hk3.block _ (t_lt H3.out.2.1) (H3.out.2.2.1.bs.far H3.out.2.1 (by decide) (by decide))).trans H3.out.2.1
            have ht1 := told3_index wr.heap.size aA aI aL w3' hE3 hTa
            have ht2 := fun W (hb : Below w3'.heap.size w3' W) => told3_index w1'.heap.size aA aI aL W (hE3.below hb) ((hb.block _ (t_lt hTb)).trans hTb)
            unfold tFaultV at ht1 ht2
            have H4 : Hid _ := And.intro ht1 (And.intro ht2 hW3)
            clear ht1 ht2 hW3 hk3 hE3 hTa hTb H3 H1 H2
            rcases hyy with hy1 | ⟨hy1, hy2⟩
            all_goals
              go_wp2_with fail
              refine Calls.mono H4.out.1 ?_
              rintro r w4' ⟨rfl, hb4⟩
              have H5 : Hid _ := hb4
              clear hb4
              go_wp2_with fail
              refine Calls.mono (H4.out.2.1 w4' H5.out) ?_
              rintro r w5' ⟨rfl, hb5⟩
              have hb35 : Below w3'.heap.size w3' w5' := H5.out.trans (hb5.mono H5.out.size)
              have hc5 := cell_up hc3 hb35
              have H6 : Hid _ := H4.out.2.2.below hb35
              clear hb5 hb35
              go_wp2_with fail
              go_roundg (2 - (m + 1))
              case measure => omega
              case rel => exact ⟨m + 1, _, _, _, _, _, _, rfl, by omega, by go_num, rfl, H6.out⟩
          | true =>
            obtain ⟨hy0, hy1⟩ := has_iff.1 hy
            obtain ⟨i, rfl⟩ : ∃ i : Nat, y = i := ⟨y.toNat, by omega⟩
            have hid : i < L.length := by omega
            have p2 : ¬ (i : Int) < 0 := by omega
            have p3 : ¬ (L.length : Int) ≤ (i : Int) := by omega
            have hw1 := weight_yes b L F i wr hS HK.out.2.2.2.1 hid
            have hw2 := fun W (hb : Below wr.heap.size wr W) => consts_yes b L F i W (hS.below hb) HK.out.2.2.2.1 hid
            have H1 : Hid _ := And.intro hw1 (And.intro hw2 hW)
            clear hw1 hw2 hW hE hS hy
            go_wp2_with fail
            refine Calls.mono H1.out.1 ?_
            rintro r w1' ⟨rfl, hb1⟩
            have H2 : Hid _ := hb1
            clear hb1
            go_wp2_with fail
            refine Calls.mono (H1.out.2.1 w1' H2.out) ?_
            rintro r w2' ⟨v, cs, ts, rfl, hO2, hWi, hCs, hcl2, hb2⟩
            obtain ⟨av, kv, rfl⟩ := row_shape hO2
            have hW1 := H1.out.2.2.below H2.out
            have hW2 := hW1.below hb2
            have hIn := hW2.ints (by omega) _ cs w1'.heap.size hO2 hW1.bl.size hW1.ls_lt (by omega)
            have H3 : Hid _ := And.intro hIn (And.intro hWi hCs)
            clear hIn hWi hCs hO2 hW1 hW2 hb2 H1 H2
            go_wp2_with fail
            refine Calls.mono H3.out.1 ?_
            rintro r w3' ⟨rfl, vi', vw', ws', hW3, hV3, _⟩
            have hc3 := cell_up hc hW3.bl
            have hR3 := HK.out.2.2.1.below hW3.bl
            have hr1 := rweight_any c L G i w3' hR3 HK.out.2.2.2.1 hid
            have hr2 := fun W (hb : Below w3'.heap.size w3' W) => rconsts_any c L G i ts W (hR3.below hb) HK.out.2.2.2.1 hid H3.out.2.1
            have H4 : Hid _ := And.intro hr1 (And.intro hr2 (And.intro hW3 hV3))
            clear hr1 hr2 hW3 hV3 hR3
            go_wp2_with fail
            refine Calls.mono H4.out.1 ?_
            rintro r w4' ⟨rfl, hb4⟩
            have H5 : Hid _ := hb4
            clear hb4
            go_wp2_with fail
            refine Calls.mono (H4.out.2.1 w4' H5.out) ?_
            rintro r w5' ⟨v5, ds, rfl, hO5, hDs, hdl, hb5⟩
            have hb35 : Below w3'.heap.size w3' w5' := H5.out.trans (hb5.mono H5.out.size)
            obtain rfl : cs = ds := H3.out.2.2.ext hDs
            have hSm := sameInts_b _ _ cs cs w5' (by omega) (by omega) (H4.out.2.2.2.below hb35) hO5.has
            rw [beq_self_eq_true] at hSm
            have hc5 := cell_up hc3 hb35
            have H6 : Hid _ := And.intro hSm (H4.out.2.2.1.below hb35)
            clear hSm hO5 hDs hb5 hb35
            go_wp2_with fail
            refine Calls.mono H6.out.1 ?_
            rintro r w6' ⟨rfl, hb6⟩
            have hc6 := cell_up hc5 hb6
            have H7 : Hid _ := H6.out.2.below hb6
            clear hb6
            go_wp2_with fail
            go_roundg (2 - (m + 1))
            case measure => omega
            case rel => exact ⟨m + 1, _, _, _, _, _, _, rfl, by omega, by go_num, rfl, H7.out⟩
        · obtain rfl : m = 2 := by omega
          have p1 : ¬ (2 : Int) < 2 := by omega
          have hAp := apartI_any wB.heap.size vi vw ls ws zss wr hW.bs hW.ot
          have H1 : Hid _ := And.intro hAp hW
          clear hAp hW
          go_wp2_with fail
          refine Calls.mono H1.out.1 ?_
          rintro r w1' ⟨rfl, hk1⟩
          have hB1 : Below wB.heap.size wB w1' := H1.out.2.bl.trans (hk1.below H1.out.2.bl.size fun b ⟨l, hl, hb⟩ => H1.out.2.lis l hl b hb)
          have H2 : Hid (Below w.heap.size w w1') := HK.out.2.2.2.2.trans (hB1.mono HK.out.2.2.2.2.size)
          clear hk1 hB1
          go_wp2_with fail
          go_ret
          exact ⟨rfl, H2.out⟩
theorem lawWeights_any (v : Value) (l : List Tm) (d x : Int) (aA aI aL : Addr) (w : World) (hm : l.length ≤ maxLen) (hT : HasT w v l) (hrm : ∀ t ∈ l, Room t) (hE : ErrT w aA aI aL) :
    Calls Tryz.prog 3 #[v, .int .i64 d, .int .i64 x] w fun r w' => r = .returned (.bool true) ∧ Below w.heap.size w w' := by
  by_cases h : l.length ≤ 200 ∧ 0 ≤ d ∧ d ≤ 70
  · obtain ⟨k, rfl⟩ : ∃ k : Nat, d = k := ⟨d.toNat, by omega⟩
    exact lawWeights_short v l k x aA aI aL w h.1 (by omega) hT hrm hE
  · obtain ⟨ao, cap, rfl, _⟩ := hT
    exact lawWeights_long ao l.length cap d x w (by omega) hm
end Go.Proofs.YthnenpncajpibaaGreatDoor
