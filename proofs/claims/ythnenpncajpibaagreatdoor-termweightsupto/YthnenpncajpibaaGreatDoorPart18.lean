/- Texts of this claim, joined: LawWeights, TmArg, TmArg2. -/
import Derived.Test.YthnenpncajpibaaGreatDoorPart17
import Derived.Deep.DeepCutAuto
import Derived.Deep.RegionHeld3
import Derived.Test.YthnenpncajpibaaGreatDoorPart10
import Derived.Test.YthnenpncajpibaaGreatDoorRows
import Derived.ProofKit
import Derived.LaidMore
import Derived.Stop.LaidErr
import Derived.Deep.SlicePairs
import Derived.Test.YthnenpncajpibaaGreatDoorPart11
import Derived.SizedLaws
/- The statement TermWeights as a call: whatever comes in, it returns true, and nothing that was there has turned. -/
namespace Go.Proofs.YthnenpncajpibaaGreatDoor
open Go.RowKit Go.Maps
attribute [local go_sem ↓] Go.wp_at_zero Go.wp_at_succ
set_option maxRecDepth 100000 in
set_option maxHeartbeats 1600000 in
theorem lawWeights_long (ao : Option Addr) (n cap : Nat) (d x : Int) (w : World) (hn : 200 < n ∨ (¬ 200 < n ∧ (d < 0 ∨ (¬ d < 0 ∧ 70 < d)))) (hm : n ≤ maxLen) :
    Calls Tryz.prog 3 #[.slice ao n cap, .int .i64 d, .int .i64 x] w fun r w' => r = .returned (.bool true) ∧ Below w.heap.size w w' := by
  unfold maxLen at hm
  have hq : (200 : Int) < (n : Int) ∨ (¬ (200 : Int) < (n : Int) ∧ (d < 0 ∨ (¬ d < 0 ∧ 70 < d))) := by omega
  clear hn
  rcases hq with h1 | ⟨h1, h2 | ⟨h2, h3⟩⟩
  all_goals
    go_enter Tryz.func3, Tryz.ntmps3
    go_wp2_with (go_at_call 5; refine (alive3 _).mono ?_; rintro r w' ⟨rfl, hb⟩)
    go_ret
    exact ⟨rfl, hb⟩
set_option maxRecDepth 100000 in
set_option maxHeartbeats 16000000 in
theorem lawWeights_short (v : Value) (l : List Tm) (d : Nat) (x : Int) (aA aI aL : Addr) (w : World) (hl : l.length ≤ 200) (hd : d ≤ 70) (hT : HasT w v l) (hrm : ∀ t ∈ l, Room t) (hE : ErrT w aA aI aL) :
    Calls Tryz.prog 3 #[v, .int .i64 d, .int .i64 x] w fun r w' => r = .returned (.bool true) ∧ Below w.heap.size w w' := by
  obtain ⟨ao, cap, hv, _⟩ := id hT
  obtain ⟨n, hn⟩ : ∃ n, n = l.length := ⟨_, rfl⟩
  rw [← hn] at hl hv
  have h1 : ¬ (200 : Int) < (n : Int) := by omega
  have h2 : ¬ (d : Int) < 0 := by omega
  have h3 : ¬ (70 : Int) < (d : Int) := by omega
  subst hv
  have HO : Hid _ := And.intro hT (And.intro hn (And.intro hrm hE))
  clear hT hn hrm hE
  go_enter Tryz.func3, Tryz.ntmps3
  go_wp2_with fail
  refine (newA w).mono ?_
  rintro r w1 ⟨rfl, F1, hS1, hF1, hb1, hG1⟩
  have H1 : Hid _ := And.intro hS1 (And.intro hF1 hb1)
  clear hS1 hF1 hb1 hG1
  go_wp2_with fail
  refine (rnew_any w1).mono ?_
  rintro r w2 ⟨rfl, ⟨G1, hR1, hG1⟩, hb2⟩
  have HP : Hid (Pr w w2 w.heap.size w1.heap.size [⟨1, 0, 0, 0, [], []⟩]) := pr_new H1.out.1 H1.out.2.1 H1.out.2.2 hR1 hG1 hb2
  clear H1 hR1 hG1 hb2
  generalize w.heap.size = b, w1.heap.size = c at HP ⊢
  go_wp2_with fail
  refine (alive3 w2).mono ?_
  rintro r w3 ⟨rfl, hb3⟩
  have hPut := put_pr (.slice ao n cap) l b c _ aA w w3 (HP.out.below hb3) HO.out.1 HO.out.2.2.1 (by have := HO.out.2.1; simp; omega) HO.out.2.2.2.a
  have HPut : Hid _ := hPut
  clear HP hb3 hPut
  go_wp2_with fail
  refine Calls.mono HPut.out ?_
  rintro r w4 ⟨rfl, L4, hP4, hL4⟩
  have H4 : Hid _ := And.intro hP4 (show L4.length ≤ 201 by have := HO.out.2.1; simp at hL4; omega)
  clear HPut hP4 hL4
  go_wp2_with fail
  go_loopg [9] d (fun q kv wr => ∃ (k : Nat) (L : List Tm), q = d - k ∧ k ≤ d ∧ kv = .int .i64 k ∧ Pr w wr b c L ∧ L.length ≤ 201 + k)
  case atStart => exact ⟨0, L4, rfl, Nat.zero_le _, rfl, H4.out.1, H4.out.2⟩
  case round =>
    obtain ⟨k, L, rfl, hk, rfl, hPr, hLl⟩ := hrel
    clear H4
    obtain ⟨F, G, hS, hR, hd', hF, hG, hbl, hGo⟩ := _root_.id hPr
    obtain ⟨ay, cy, hc⟩ := hR.cell
    have hcl := World.block_lt_of_cell? wr _ hc
    by_cases hlt : k < d
    · have q1 : (k : Int) < (d : Int) := by omega
      have hPO := fun (kk aa dd : Int) W g => put_one kk aa dd b c L aA w wr W g hPr
      have HK : Hid _ := And.intro hPr (And.intro hPO hLl)
      clear hPr hS hR hd' hF hG hbl hGo hPO
      go_wp2_with fail
      go_region
      go_wp2_with fail
      refine Calls.mono (HK.out.2.1 (4 - (k : Int) % 2) ((L.length : Int) - 1) ((L.length : Int) - 1) _ (wr.heap.size + 1) ?hb (by omega) ?hblk (by omega) HO.out.2.2.2.a) ?_
      case hb => repeat (first | exact Below.refl _ _ | refine Below.drew ?_ | refine Below.alloc ?_ (by simp) _)
      case hblk => first | exact two_alloc wr _ _ | (have h9 := two_alloc wr; simpa using h9 _ _)
      rintro r w5 ⟨rfl, L5, hP5, hL5⟩
      have H5 : Hid (Pr w w5 b c L5) := hP5
      clear hP5
      go_wp2_with fail
      go_roundg (d - (k + 1))
      case measure => omega
      case rel => exact ⟨k + 1, L5, rfl, by omega, by go_num, H5.out, by omega⟩
    · obtain rfl : k = d := by omega
      have q1 : ¬ (k : Int) < (k : Int) := by omega
      have HK : Hid _ := And.intro hPr (And.intro hS (And.intro hR (And.intro hGo hbl)))
      clear hPr hS hR hd' hF hG hbl hGo
      go_wp2_with fail
      obtain ⟨wB, hwB⟩ : ∃ wB, wB = wr := ⟨_, rfl⟩
      rw [← hwB] at HK hc hcl ⊢
      have hlL : L.length ≤ 1000 := by omega
      clear hwB
      go_loopg [2, 12] 2 (fun q xv kv wx => ∃ (m : Nat) (y : Int) (vi vw : Value) (ls ws : List Value) (zss : List (List Int)), q = 2 - m ∧ m ≤ 2 ∧ kv = .int .i64 m ∧ xv = .int .i64 y ∧ Wk wB wx m vi vw ls ws zss)
      case atStart => exact ⟨0, x, _, _, [], [], [], rfl, Nat.zero_le _, rfl, rfl, wk_new wB⟩
      case round =>
        obtain ⟨m, y, vi, vw, ls, ws, zss, rfl, hm, rfl, rfl, hW⟩ := hrel
        by_cases hmt : m < 2
        · have p1 : (m : Int) < 2 := by omega
          have hS := HK.out.2.1.below hW.bl
          have hE := HO.out.2.2.2.below (HK.out.2.2.2.2.trans (hW.bl.mono HK.out.2.2.2.2.size))
          cases hy : Tm.has L.length y with
          | false =>
            have hyy : y < 0 ∨ (¬ y < 0 ∧ (L.length : Int) ≤ y) := by
              have h9 : ¬ (0 ≤ y ∧ y < (L.length : Int)) := fun e => by rw [has_iff.2 e] at hy; cases hy
              omega
            have hw1 := weight_no b L F y 201 (.pointer (some aI)) wr hS hy hE.i.1
            have hw2 := fun W (hb : Below wr.heap.size wr W) => consts_no b L F y 201 (.pointer (some aI)) W (hS.below hb) hy (hE.below hb).i.1
            unfold tFaultV at hw1 hw2
            have H1 : Hid _ := And.intro hw1 (And.intro hw2 (And.intro hW hE))
            clear hw1 hw2 hW hE hS hy
            go_wp2_with fail
            refine Calls.mono H1.out.1 ?_
            rintro r w1' ⟨rfl, hT1, hb1⟩
            have H2 : Hid _ := And.intro hT1 hb1
            clear hT1 hb1
            go_wp2_with fail
            refine Calls.mono (H1.out.2.1 w1' H2.out.2) ?_
            rintro r w2' ⟨rfl, hT2, hb2⟩
            have hb12 : Below wr.heap.size wr w2' := H2.out.2.trans (hb2.mono H2.out.2.size)
            have hT12 : TermFault w2' wr.heap.size _ := (hb2.block _ (t_lt H2.out.1)).trans H2.out.1
            have hW2 := H1.out.2.2.1.below hb12
            have hIn := hW2.ints (by omega) (.slice none 0 0) [] w2'.heap.size (World.ownsRow_nil _ _ _ _) hW2.bl.size hW2.ls_lt (by simp)
            have H3 : Hid _ := And.intro hT12 (And.intro hT2 (And.intro hW2 hIn))
            clear hT12 hT2 hW2 hIn hb12 hb2
            go_wp2_with fail
            refine Calls.mono H3.out.2.2.2 ?_
            rintro r w3' ⟨rfl, vi', vw', ws', hW3, _, hk3⟩
            have hc3 := cell_up hc hW3.bl
            have hE3 := HO.out.2.2.2.below (HK.out.2.2.2.2.trans (hW3.bl.mono HK.out.2.2.2.2.size))
            have hTa : TermFault w3' wr.heap.size (errV aI) := (hk3.block _ (t_lt H3.out.1) (H3.out.2.2.1.bs.far H3.out.1 (by decide) (by decide))).trans H3.out.1
            have hTb : TermFault w3' w1'.heap.size (errV aI) := (hk3.block _ (t_lt H3.out.2.1) (H3.out.2.2.1.bs.far H3.out.2.1 (by decide) (by decide))).trans H3.out.2.1
            have ht1 := told3_index wr.heap.size aA aI aL w3' hE3 hTa
            have ht2 := fun W (hb : Below w3'.heap.size w3' W) => told3_index w1'.heap.size aA aI aL W (hE3.below hb) ((hb.block _ (t_lt hTb)).trans hTb)
            unfold tFaultV at ht1 ht2
            have H4 : Hid _ := And.intro ht1 (And.intro ht2 hW3)
            clear ht1 ht2 hW3 hk3 hE3 hTa hTb H3 H1 H2
            rcases hyy with hy1 | ⟨hy1, hy2⟩
            all_goals
              go_wp2_with fail
              refine Calls.mono H4.out.1 ?_
              rintro r w4' ⟨rfl, hb4⟩
              have H5 : Hid _ := hb4
              clear hb4
              go_wp2_with fail
              refine Calls.mono (H4.out.2.1 w4' H5.out) ?_
              rintro r w5' ⟨rfl, hb5⟩
              have hb35 : Below w3'.heap.size w3' w5' := H5.out.trans (hb5.mono H5.out.size)
              have hc5 := cell_up hc3 hb35
              have H6 : Hid _ := H4.out.2.2.below hb35
              clear hb5 hb35
              go_wp2_with fail
              go_roundg (2 - (m + 1))
              case measure => omega
              case rel => exact ⟨m + 1, _, _, _, _, _, _, rfl, by omega, by go_num, rfl, H6.out⟩
          | true =>
            obtain ⟨hy0, hy1⟩ := has_iff.1 hy
            obtain ⟨i, rfl⟩ : ∃ i : Nat, y = i := ⟨y.toNat, by omega⟩
            have hid : i < L.length := by omega
            have p2 : ¬ (i : Int) < 0 := by omega
            have p3 : ¬ (L.length : Int) ≤ (i : Int) := by omega
            have hw1 := weight_yes b L F i wr hS HK.out.2.2.2.1 hid
            have hw2 := fun W (hb : Below wr.heap.size wr W) => consts_yes b L F i W (hS.below hb) HK.out.2.2.2.1 hid
            have H1 : Hid _ := And.intro hw1 (And.intro hw2 hW)
            clear hw1 hw2 hW hE hS hy
            go_wp2_with fail
            refine Calls.mono H1.out.1 ?_
            rintro r w1' ⟨rfl, hb1⟩
            have H2 : Hid _ := hb1
            clear hb1
            go_wp2_with fail
            refine Calls.mono (H1.out.2.1 w1' H2.out) ?_
            rintro r w2' ⟨v, cs, ts, rfl, hO2, hWi, hCs, hcl2, hb2⟩
            obtain ⟨av, kv, rfl⟩ := row_shape hO2
            have hW1 := H1.out.2.2.below H2.out
            have hW2 := hW1.below hb2
            have hIn := hW2.ints (by omega) _ cs w1'.heap.size hO2 hW1.bl.size hW1.ls_lt (by omega)
            have H3 : Hid _ := And.intro hIn (And.intro hWi hCs)
            clear hIn hWi hCs hO2 hW1 hW2 hb2 H1 H2
            go_wp2_with fail
            refine Calls.mono H3.out.1 ?_
            rintro r w3' ⟨rfl, vi', vw', ws', hW3, hV3, _⟩
            have hc3 := cell_up hc hW3.bl
            have hR3 := HK.out.2.2.1.below hW3.bl
            have hr1 := rweight_any c L G i w3' hR3 HK.out.2.2.2.1 hid
            have hr2 := fun W (hb : Below w3'.heap.size w3' W) => rconsts_any c L G i ts W (hR3.below hb) HK.out.2.2.2.1 hid H3.out.2.1
            have H4 : Hid _ := And.intro hr1 (And.intro hr2 (And.intro hW3 hV3))
            clear hr1 hr2 hW3 hV3 hR3
            go_wp2_with fail
            refine Calls.mono H4.out.1 ?_
            rintro r w4' ⟨rfl, hb4⟩
            have H5 : Hid _ := hb4
            clear hb4
            go_wp2_with fail
            refine Calls.mono (H4.out.2.1 w4' H5.out) ?_
            rintro r w5' ⟨v5, ds, rfl, hO5, hDs, hdl, hb5⟩
            have hb35 : Below w3'.heap.size w3' w5' := H5.out.trans (hb5.mono H5.out.size)
            obtain rfl : cs = ds := H3.out.2.2.ext hDs
            have hSm := sameInts_b _ _ cs cs w5' (by omega) (by omega) (H4.out.2.2.2.below hb35) hO5.has
            rw [beq_self_eq_true] at hSm
            have hc5 := cell_up hc3 hb35
            have H6 : Hid _ := And.intro hSm (H4.out.2.2.1.below hb35)
            clear hSm hO5 hDs hb5 hb35
            go_wp2_with fail
            refine Calls.mono H6.out.1 ?_
            rintro r w6' ⟨rfl, hb6⟩
            have hc6 := cell_up hc5 hb6
            have H7 : Hid _ := H6.out.2.below hb6
            clear hb6
            go_wp2_with fail
            go_roundg (2 - (m + 1))
            case measure => omega
            case rel => exact ⟨m + 1, _, _, _, _, _, _, rfl, by omega, by go_num, rfl, H7.out⟩
        · obtain rfl : m = 2 := by omega
          have p1 : ¬ (2 : Int) < 2 := by omega
          have hAp := apartI_any wB.heap.size vi vw ls ws zss wr hW.bs hW.ot
          have H1 : Hid _ := And.intro hAp hW
          clear hAp hW
          go_wp2_with fail
          refine Calls.mono H1.out.1 ?_
          rintro r w1' ⟨rfl, hk1⟩
          have hB1 : Below wB.heap.size wB w1' := H1.out.2.bl.trans (hk1.below H1.out.2.bl.size fun b ⟨l, hl, hb⟩ => H1.out.2.lis l hl b hb)
          have H2 : Hid (Below w.heap.size w w1') := HK.out.2.2.2.2.trans (hB1.mono HK.out.2.2.2.2.size)
          clear hk1 hB1
          go_wp2_with fail
          go_ret
          exact ⟨rfl, H2.out⟩
theorem lawWeights_any (v : Value) (l : List Tm) (d x : Int) (aA aI aL : Addr) (w : World) (hm : l.length ≤ maxLen) (hT : HasT w v l) (hrm : ∀ t ∈ l, Room t) (hE : ErrT w aA aI aL) :
    Calls Tryz.prog 3 #[v, .int .i64 d, .int .i64 x] w fun r w' => r = .returned (.bool true) ∧ Below w.heap.size w w' := by
  by_cases h : l.length ≤ 200 ∧ 0 ≤ d ∧ d ≤ 70
  · obtain ⟨k, rfl⟩ : ∃ k : Nat, d = k := ⟨d.toNat, by omega⟩
    exact lawWeights_short v l k x aA aI aL w h.1 (by omega) hT hrm hE
  · obtain ⟨ao, cap, rfl, _⟩ := hT
    exact lawWeights_long ao l.length cap d x w (by omega) hm
end Go.Proofs.YthnenpncajpibaaGreatDoor
/- A list of terms that came in, out of its reading; what the listed package variables give. -/
namespace Go.Proofs.YthnenpncajpibaaGreatDoor
open Go.ChangeShapes Go.WideShapes Go.ChangeAt Go.WideMaps Go.WideElems Go.RowKit
theorem Tryz.own : ownKnob Tryz.prog.godebug = none := by kernel_rfl
theorem Tryz.laidOut : laidOutB Tryz.prog = true := by kernel_rfl
theorem Tryz.cTerm : Tryz.prog.cellsOf 35 = 6 := by kernel_rfl
theorem Tryz.cInt : Tryz.prog.cellsOf 3 = 1 := by kernel_rfl
theorem Tryz.cPair : Tryz.prog.cellsOf 75 = 2 := by kernel_rfl
theorem Tryz.cInts : Tryz.prog.cellsOf 29 = 1 := by kernel_rfl
theorem Tryz.cPairs : Tryz.prog.cellsOf 33 = 1 := by kernel_rfl
theorem cell_plain {w : World} {a : Addr} {v : Value} (h : w.cell? a = some v) : a = ⟨a.block, a.off, none⟩ := by
  obtain ⟨b, o, s⟩ := a
  cases s with
  | none => rfl
  | some s =>
    simp [World.cell?] at h
    split at h <;> cases h
set_option maxRecDepth 100000 in
theorem ints_in {H : Type} {enc : TypeId × Value → H} {W : World} {fuel : Nat} {v : Value} {x : DataW H × List MemPlace} (h : DataW.trod enc Tryz.prog W 0 (fun _ => true) true fuel 29 [v] = some x) : ∃ zs, HasI W v zs ∧ zs.length ≤ maxLen := by
  rcases Go.ChangeShapes.open_ints Tryz.underlying29 Tryz.underlying3 Tryz.cInt h with ⟨hc, _⟩ | ⟨a, len, cap, zs, hc, _, hl, hm, hlen, _, hcell, _⟩
  · obtain rfl : v = .slice none 0 0 := by injection hc
    exact ⟨[], ⟨none, 0, rfl, fun i s h => by simp at h⟩, by simp⟩
  · obtain rfl : v = .slice (some a) len cap := by injection hc
    have hlen' : zs.length = cap := by simpa using hlen
    refine ⟨zs.take len, ⟨some a, cap, by simp; omega, fun i z h => ⟨a, rfl, ?_⟩⟩, by rw [List.length_take]; omega⟩
    have hi : i < len := by have := (List.getElem?_eq_some_iff.1 h).1; simp at this; omega
    rw [List.getElem?_take_of_lt hi] at h
    rw [hcell i (by omega), List.getD_eq_getElem?_getD, h]; rfl
set_option maxRecDepth 100000 in
theorem pairs_in {H : Type} {enc : TypeId × Value → H} {W : World} {fuel : Nat} {v : Value} {x : DataW H × List MemPlace} (h : DataW.trod enc Tryz.prog W 0 (fun _ => true) true fuel 33 [v] = some x) : ∃ ps, HasP W v ps ∧ ps.length ≤ maxLen := by
  rcases Go.Deep.open_slice_pairs Tryz.underlying33 Tryz.underlying75 Tryz.cPair rfl rfl Tryz.cInt Tryz.cInt h with ⟨hc, _⟩ | ⟨a, len, cap, m, n, V0, V1, D0, D1, P0, P1, hc, _, hl, hm, hmm, _, hx⟩
  · obtain rfl : v = .slice none 0 0 := by injection hc
    exact ⟨[], ⟨none, 0, rfl, fun i s h => by simp at h⟩, by simp⟩
  · obtain rfl : v = .slice (some a) len cap := by injection hc
    have hm' : m = cap := by simpa using hmm
    have each : ∀ i, i < len → ∃ p : Int × Int, W.cell? (a.add (i * 2)) = some (.int .i64 p.1) ∧ W.cell? (a.add (i * 2 + 1)) = some (.int .i64 p.2) := fun i hi => by
      obtain ⟨c0, c1, t0, t1⟩ := hx i (by omega)
      obtain ⟨x0, e0, _⟩ := DataW.trod_int Tryz.underlying3 t0
      obtain ⟨x1, e1, _⟩ := DataW.trod_int Tryz.underlying3 t1
      have e0' : V0 i = .int .i64 x0 := by simpa using e0
      have e1' : V1 i = .int .i64 x1 := by simpa using e1
      exact ⟨(x0, x1), by rw [c0, e0'], by rw [c1, e1']⟩
    obtain ⟨f, hf'⟩ := Go.Deep.choose_lt each
    refine ⟨(List.range len).map f, ⟨some a, cap, by simp, fun i p h => ⟨a, rfl, ?_⟩⟩, by simp; omega⟩
    have hi : i < len := by have := (List.getElem?_eq_some_iff.1 h).1; simpa using this
    have hp : p = f i := by
      rw [List.getElem?_map, List.getElem?_range hi] at h
      simpa using h.symm
    rw [hp]; exact hf' i hi
theorem add_off (g o i : Nat) : (⟨g, o, none⟩ : Addr).add i = ⟨g, o + i, none⟩ := by unfold Addr.add; split <;> simp_all
theorem tm_choose {n : Nat} {p : Nat → Tm → Prop} (h : ∀ i, i < n → ∃ x, p i x) : ∃ f : Nat → Tm, ∀ i, i < n → p i (f i) := by
  classical
  refine ⟨fun i => if hi : i < n then Classical.choose (h i hi) else ⟨0, 0, 0, 0, [], []⟩, fun i hi => ?_⟩
  simp only [hi, dif_pos]
  exact Classical.choose_spec (h i hi)
set_option maxRecDepth 100000 in
/-- One term, out of its six cells. -/
theorem term_in {H : Type} {enc : TypeId × Value → H} {W : World} {fuel i g o : Nat} {cs : List Value} {x : DataW H × List MemPlace} (hc : W.cells? 0 ((⟨g, o, none⟩ : Addr).add (i * 6)) 6 = some cs) (h : DataW.trod enc Tryz.prog W 0 (fun _ => true) true fuel 35 cs = some x) :
    ∃ t vn vp, OneT W (some ⟨g, o, none⟩) i t g o vn vp := by
  obtain ⟨_, hlen, hcell⟩ := World.cells?_some hc
  obtain ⟨xs, k, hk, _, _, hxl, hf⟩ := DataW.trod_struct Tryz.underlying35 h
  match xs, hxl, cs, hlen with
  | [y0, y1, y2, y3, y4, y5], _, [v0, v1, v2, v3, v4, v5], _ =>
    have g0 := hf 0 _ rfl
    have g1 := hf 1 _ rfl
    have g2 := hf 2 _ rfl
    have g3 := hf 3 _ rfl
    have g4 := hf 4 _ rfl
    have g5 := hf 5 _ rfl
    simp [Tryz.cInt, Tryz.cInts, Tryz.cPairs] at g0 g1 g2 g3 g4 g5
    obtain ⟨z0, e0, _⟩ := DataW.trod_int Tryz.underlying3 g0
    obtain ⟨z1, e1, _⟩ := DataW.trod_int Tryz.underlying3 g1
    obtain ⟨z2, e2, _⟩ := DataW.trod_int Tryz.underlying3 g2
    obtain ⟨z3, e3, _⟩ := DataW.trod_int Tryz.underlying3 g3
    obtain rfl : v0 = .int .i64 z0 := by simpa using e0
    obtain rfl : v1 = .int .i64 z1 := by simpa using e1
    obtain rfl : v2 = .int .i64 z2 := by simpa using e2
    obtain rfl : v3 = .int .i64 z3 := by simpa using e3
    obtain ⟨ns, hn, ln⟩ := ints_in g4
    obtain ⟨ps, hp, lp⟩ := pairs_in g5
    have c0 := hcell 0 (by omega)
    have c1 := hcell 1 (by omega)
    have c2 := hcell 2 (by omega)
    have c3 := hcell 3 (by omega)
    have c4 := hcell 4 (by omega)
    have c5 := hcell 5 (by omega)
    rw [Go.Deep.add_add, add_off] at c0 c1 c2 c3 c4 c5
    refine ⟨⟨z0, z1, z2, z3, ns, ps⟩, v4, v5, rfl, ⟨?_, ?_, ?_, ?_, ?_, ?_⟩, hn, hp, ln, lp⟩
    · simpa using c0
    · simpa [Nat.add_assoc] using c1
    · simpa [Nat.add_assoc] using c2
    · simpa [Nat.add_assoc] using c3
    · simpa [Nat.add_assoc] using c4
    · simpa [Nat.add_assoc] using c5
set_option maxRecDepth 100000 in
theorem has_terms {H : Type} {enc : TypeId × Value → H} {W : World} {base : Nat} {v : Value} {d : DataW H} {ps : List MemPlace} (hok : Value.okWide Tryz.prog W .any base 22 v) (h : DataW.Trod enc Tryz.prog W 0 (fun _ => true) true 22 v d ps) : ∃ l, HasT W v l ∧ l.length ≤ maxLen := by
  obtain ⟨a0, len0, cap0, rfl⟩ := okWide_slice Tryz.underlying22 hok
  obtain ⟨fuel, hf⟩ := h
  rcases Go.Deep.open_slice Tryz.underlying22 hf with ⟨hc, _⟩ | ⟨a, len, cap, m, n, D, Pl, hc, _, hl, hm, hmm, _, hx⟩
  · have hc' : [Value.slice a0 len0 cap0] = [Value.slice none 0 0] := hc
    injection hc' with hc' _
    injection hc' with h1 h2 h3
    subst h1; subst h2; subst h3
    exact ⟨[], ⟨none, 0, rfl, fun i s h => by simp at h⟩, by simp⟩
  · have hc' : [Value.slice a0 len0 cap0] = [Value.slice (some a) len cap] := hc
    injection hc' with hc' _
    injection hc' with h1 h2 h3
    subst h1; subst h2; subst h3
    have hm' : m = cap0 := by simpa using hmm
    rw [Tryz.cTerm] at hx
    have ha : 0 < len0 → a = ⟨a.block, a.off, none⟩ := fun h0 => by
      obtain ⟨cs, h1, _⟩ := hx 0 (by omega)
      obtain ⟨_, hl1, hcell⟩ := World.cells?_some h1
      have c0 := hcell 0 (by omega)
      rw [Go.Deep.add_add] at c0
      obtain ⟨u, hu⟩ : ∃ u, cs[0]? = some u := ⟨cs[0]'(by omega), List.getElem?_eq_getElem _⟩
      rw [hu] at c0
      simpa [Addr.add] using cell_plain c0
    have each : ∀ i, i < len0 → ∃ t : Tm, ∃ g o vn vp, OneT W (some a) i t g o vn vp := fun i hi => by
      obtain ⟨cs, h1, h2⟩ := hx i (by omega)
      rw [ha (by omega)] at h1 ⊢
      obtain ⟨t, vn, vp, hT⟩ := term_in h1 h2
      exact ⟨t, _, _, vn, vp, hT⟩
    obtain ⟨f, hf'⟩ := tm_choose each
    refine ⟨(List.range len0).map f, ⟨some a, cap0, by simp, fun i t h => ?_⟩, by simp; omega⟩
    have hi : i < len0 := by have := (List.getElem?_eq_some_iff.1 h).1; simpa using this
    have hp : t = f i := by
      rw [List.getElem?_map, List.getElem?_range hi] at h
      simpa using h.symm
    rw [hp]; exact hf' i hi
theorem Tryz.gA : Tryz.prog.globalNamed "semblance/api.ErrArg" = some 0 := by kernel_rfl
theorem Tryz.tA : (Tryz.prog.globals[0]?).map (·.type) = some 51 := by kernel_rfl
theorem Tryz.gL : Tryz.prog.globalNamed "semblance/api.ErrLong" = some 2 := by kernel_rfl
theorem Tryz.tL : (Tryz.prog.globals[2]?).map (·.type) = some 51 := by kernel_rfl
theorem Tryz.gI : Tryz.prog.globalNamed "semblance/api.ErrIndex" = some 1 := by kernel_rfl
theorem Tryz.tI : (Tryz.prog.globals[1]?).map (·.type) = some 51 := by kernel_rfl
theorem Tryz.cellsE : Tryz.prog.cellsOf 225 = 1 := by kernel_rfl
theorem Tryz.cellsS : Tryz.prog.cellsOf 9 = 1 := by kernel_rfl
set_option maxRecDepth 100000 in
theorem Tryz.star : "*" ++ "errors.errorString" = "*errors.errorString" := by decide
set_option maxRecDepth 100000 in
theorem Tryz.rowE (u : TypeId) (h : Tryz.prog.typeName? 3 u = some "*errors.errorString") : u = 201 :=
  typeName_ptr_named (nm := "errors.errorString") (by rw [Tryz.star]; kernel_rfl) (by kernel_rfl) (by decide) u (by rw [Tryz.star]; exact h)
set_option maxRecDepth 100000 in
/-- One listed error: its variable's cell, its place; and the rest of the list. -/
theorem laid_step {W : World} {n : String} {g : Nat} {text : List UInt8} {r : List (String × DataW Unit)} {ps : List MemPlace} (hg : Tryz.prog.globalNamed n = some g) (ht : (Tryz.prog.globals[g]?).map (·.type) = some 51)
    (h : DataW.LaidVars Tryz.prog W ((n, .iface "*errors.errorString" (.ptr (.agg [.lit (.string text)]))) :: r) ps)
    (hrows : ∀ b off, MemPlace.cell b off ∈ ps → (∃ c t, W.heap[b]? = some (.cells c t (0, 0))) ∧ ∀ u v, W.cell? ⟨b, off, none⟩ = some (.iface u v) → Value.okWide Tryz.prog W .any 0 u v) :
    ∃ a q, Sent W g a ∧ DataW.LaidVars Tryz.prog W r q ∧ ps = MemPlace.cell g 0 :: MemPlace.cell a.block a.off :: q := by
  obtain ⟨g0, t0, cs0, f0, p0, q0, hg0, ht0, hv0, hd0, hr, e0⟩ := h
  obtain rfl := Option.some.inj (hg.symm.trans hg0)
  obtain rfl := Option.some.inj (ht.symm.trans ht0)
  subst e0
  obtain ⟨l0⟩ := cs0
  have ok0 : ∀ u v, l0 = [.iface u v] → Value.okWide Tryz.prog W .any 0 u v := fun u v e => by
    subst e
    exact (hrows g 0 (by simp [MemPlace.row])).2 u v (by simpa using World.var?_cell hg0 hv0 0)
  obtain ⟨a0, s0, rfl, hc0, hs0, hz0, rfl⟩ := errorString_of_trod Tryz.underlying51 Tryz.rowE Tryz.underlying201 Tryz.underlying225 rfl rfl Tryz.underlying9 Tryz.cellsE Tryz.cellsS hd0 ok0
  refine ⟨a0, q0, ⟨by simpa using World.var?_cell hg0 hv0 0, (hrows a0.block a0.off (by simp [MemPlace.row])).1⟩, hr, ?_⟩
  simp [MemPlace.row]
/-- ErrArg, the first of the list. -/
theorem arg_of {W : World} {x0 : List UInt8} {r : List (String × DataW Unit)} (h : laidMet Tryz.prog (("semblance/api.ErrArg", .iface "*errors.errorString" (.ptr (.agg [.lit (.string x0)]))) :: r) W) : ∃ aA, Sent W 0 aA := by
  obtain ⟨ps, h0, hnd, hrows⟩ := h
  obtain ⟨aA, q0, sA, h1, rfl⟩ := laid_step Tryz.gA Tryz.tA h0 hrows
  exact ⟨aA, sA⟩
/-- ErrArg and ErrIndex, side by side. -/
theorem argIndex_of {W : World} {x0 x1 : List UInt8} {r : List (String × DataW Unit)} (h : laidMet Tryz.prog (("semblance/api.ErrArg", .iface "*errors.errorString" (.ptr (.agg [.lit (.string x0)]))) :: ("semblance/api.ErrIndex", .iface "*errors.errorString" (.ptr (.agg [.lit (.string x1)]))) :: r) W) : ∃ aA aI, Sent W 0 aA ∧ Sent W 1 aI := by
  obtain ⟨ps, h0, hnd, hrows⟩ := h
  obtain ⟨aA, q0, sA, h1, rfl⟩ := laid_step Tryz.gA Tryz.tA h0 hrows
  obtain ⟨aI, q1, sI, h2, rfl⟩ := laid_step Tryz.gI Tryz.tI h1 (fun b o hb => hrows b o (by simp only [List.mem_cons]; exact .inr (.inr hb)))
  exact ⟨aA, aI, sA, sI⟩
end Go.Proofs.YthnenpncajpibaaGreatDoor
/- A list of terms that came in, and the reach: the lengths of the names and of the pairs within it. -/
namespace Go.Proofs.YthnenpncajpibaaGreatDoor
open Go.ChangeShapes Go.WideShapes Go.ChangeAt Go.WideMaps Go.WideElems Go.RowKit
theorem Tryz.bInt : Tryz.prog.bytesOf 3 = 8 := by kernel_rfl
theorem Tryz.bPair : Tryz.prog.bytesOf 75 = 16 := by kernel_rfl
theorem weights_in_all {H : Type} {P : Program} {e : TypeId} : ∀ {l : List (DataW H)} {d : DataW H}, d ∈ l → ∀ n ∈ d.weights P e, n ∈ DataW.weightsAll P e l := by
  intro l
  induction l with
  | nil => intro d hd; cases hd
  | cons x r ih =>
    intro d hd n hn
    rw [DataW.weightsAll, List.mem_append]
    rcases List.mem_cons.1 hd with rfl | hd
    · exact .inl hn
    · exact .inr (ih hd n hn)
set_option maxRecDepth 100000 in
theorem ints_in2 {H : Type} {enc : TypeId × Value → H} {W : World} {fuel : Nat} {v : Value} {x : DataW H × List MemPlace} (h : DataW.trod enc Tryz.prog W 0 (fun _ => true) true fuel 29 [v] = some x) (hw : ∀ n ∈ x.1.weights Tryz.prog 29, n ≤ reachBytes) : ∃ zs, HasI W v zs ∧ zs.length ≤ maxLen ∧ zs.length * 8 ≤ 140737488351232 := by
  rcases Go.ChangeShapes.open_ints Tryz.underlying29 Tryz.underlying3 Tryz.cInt h with ⟨hc, _⟩ | ⟨a, len, cap, zs, hc, _, hl, hm, hlen, hx, hcell, _⟩
  · obtain rfl : v = .slice none 0 0 := by injection hc
    exact ⟨[], ⟨none, 0, rfl, fun i s h => by simp at h⟩, by simp, by simp⟩
  · obtain rfl : v = .slice (some a) len cap := by injection hc
    have hlen' : zs.length = cap := by simpa using hlen
    have hb : ((lits .i64 (zs.take len) : List (DataW H)).length + (lits .i64 (zs.drop len) : List (DataW H)).length) * 8 ≤ reachBytes := hw _ (by rw [hx]; simp [DataW.weights, Tryz.underlying29, Tryz.bInt])
    refine ⟨zs.take len, ⟨some a, cap, by simp; omega, fun i z h => ⟨a, rfl, ?_⟩⟩, by rw [List.length_take]; omega, ?_⟩
    · have hi : i < len := by have := (List.getElem?_eq_some_iff.1 h).1; simp at this; omega
      rw [List.getElem?_take_of_lt hi] at h
      rw [hcell i (by omega), List.getD_eq_getElem?_getD, h]; rfl
    · simp [lits, reachBytes] at hb
      rw [List.length_take]; omega
set_option maxRecDepth 100000 in
theorem pairs_in2 {H : Type} {enc : TypeId × Value → H} {W : World} {fuel : Nat} {v : Value} {x : DataW H × List MemPlace} (h : DataW.trod enc Tryz.prog W 0 (fun _ => true) true fuel 33 [v] = some x) (hw : ∀ n ∈ x.1.weights Tryz.prog 33, n ≤ reachBytes) : ∃ ps, HasP W v ps ∧ ps.length ≤ maxLen ∧ ps.length * 16 ≤ 140737488351232 := by
  rcases Go.Deep.open_slice_pairs Tryz.underlying33 Tryz.underlying75 Tryz.cPair rfl rfl Tryz.cInt Tryz.cInt h with ⟨hc, _⟩ | ⟨a, len, cap, m, n, V0, V1, D0, D1, P0, P1, hc, _, hl, hm, hmm, hxx, hx⟩
  · obtain rfl : v = .slice none 0 0 := by injection hc
    exact ⟨[], ⟨none, 0, rfl, fun i s h => by simp at h⟩, by simp, by simp⟩
  · obtain rfl : v = .slice (some a) len cap := by injection hc
    have hm' : m = cap := by simpa using hmm
    have hb : (((List.range len).map fun i => DataW.agg [D0 i, D1 i]).length + ((List.range (m - len)).map fun j => DataW.agg [D0 (len + j), D1 (len + j)]).length) * 16 ≤ reachBytes := hw _ (by rw [hxx]; simp [DataW.weights, Tryz.underlying33, Tryz.bPair])
    have each : ∀ i, i < len → ∃ p : Int × Int, W.cell? (a.add (i * 2)) = some (.int .i64 p.1) ∧ W.cell? (a.add (i * 2 + 1)) = some (.int .i64 p.2) := fun i hi => by
      obtain ⟨c0, c1, t0, t1⟩ := hx i (by omega)
      obtain ⟨x0, e0, _⟩ := DataW.trod_int Tryz.underlying3 t0
      obtain ⟨x1, e1, _⟩ := DataW.trod_int Tryz.underlying3 t1
      have e0' : V0 i = .int .i64 x0 := by simpa using e0
      have e1' : V1 i = .int .i64 x1 := by simpa using e1
      exact ⟨(x0, x1), by rw [c0, e0'], by rw [c1, e1']⟩
    obtain ⟨f, hf'⟩ := Go.Deep.choose_lt each
    refine ⟨(List.range len).map f, ⟨some a, cap, by simp, fun i p h => ⟨a, rfl, ?_⟩⟩, by simp; omega, ?_⟩
    · have hi : i < len := by have := (List.getElem?_eq_some_iff.1 h).1; simpa using this
      have hp : p = f i := by
        rw [List.getElem?_map, List.getElem?_range hi] at h
        simpa using h.symm
      rw [hp]; exact hf' i hi
    · simp [reachBytes] at hb
      rw [List.length_map, List.length_range]; omega
set_option maxRecDepth 100000 in
theorem term_in2 {H : Type} {enc : TypeId × Value → H} {W : World} {fuel i g o : Nat} {cs : List Value} {x : DataW H × List MemPlace} (hc : W.cells? 0 ((⟨g, o, none⟩ : Addr).add (i * 6)) 6 = some cs) (h : DataW.trod enc Tryz.prog W 0 (fun _ => true) true fuel 35 cs = some x) (hw : ∀ n ∈ x.1.weights Tryz.prog 35, n ≤ reachBytes) :
    ∃ t vn vp, OneT W (some ⟨g, o, none⟩) i t g o vn vp ∧ Room t := by
  obtain ⟨_, hlen, hcell⟩ := World.cells?_some hc
  obtain ⟨xs, k, hk, hx, _, hxl, hf⟩ := DataW.trod_struct Tryz.underlying35 h
  match xs, hxl, cs, hlen with
  | [y0, y1, y2, y3, y4, y5], _, [v0, v1, v2, v3, v4, v5], _ =>
    have w4 : ∀ n ∈ y4.1.weights Tryz.prog 29, n ≤ reachBytes := fun n hn => hw n (by rw [hx]; simp [DataW.weights, DataW.weightsEach, Tryz.underlying35, hn])
    have w5 : ∀ n ∈ y5.1.weights Tryz.prog 33, n ≤ reachBytes := fun n hn => hw n (by rw [hx]; simp [DataW.weights, DataW.weightsEach, Tryz.underlying35, hn])
    have g0 := hf 0 _ rfl
    have g1 := hf 1 _ rfl
    have g2 := hf 2 _ rfl
    have g3 := hf 3 _ rfl
    have g4 := hf 4 _ rfl
    have g5 := hf 5 _ rfl
    simp [Tryz.cInt, Tryz.cInts, Tryz.cPairs] at g0 g1 g2 g3 g4 g5
    obtain ⟨z0, e0, _⟩ := DataW.trod_int Tryz.underlying3 g0
    obtain ⟨z1, e1, _⟩ := DataW.trod_int Tryz.underlying3 g1
    obtain ⟨z2, e2, _⟩ := DataW.trod_int Tryz.underlying3 g2
    obtain ⟨z3, e3, _⟩ := DataW.trod_int Tryz.underlying3 g3
    obtain rfl : v0 = .int .i64 z0 := by simpa using e0
    obtain rfl : v1 = .int .i64 z1 := by simpa using e1
    obtain rfl : v2 = .int .i64 z2 := by simpa using e2
    obtain rfl : v3 = .int .i64 z3 := by simpa using e3
    obtain ⟨ns, hn, ln, rn⟩ := ints_in2 g4 w4
    obtain ⟨ps, hp, lp, rp⟩ := pairs_in2 g5 w5
    have c0 := hcell 0 (by omega)
    have c1 := hcell 1 (by omega)
    have c2 := hcell 2 (by omega)
    have c3 := hcell 3 (by omega)
    have c4 := hcell 4 (by omega)
    have c5 := hcell 5 (by omega)
    rw [Go.Deep.add_add, add_off] at c0 c1 c2 c3 c4 c5
    refine ⟨⟨z0, z1, z2, z3, ns, ps⟩, v4, v5, ⟨rfl, ⟨?_, ?_, ?_, ?_, ?_, ?_⟩, hn, hp, ln, lp⟩, rn, rp⟩
    · simpa using c0
    · simpa [Nat.add_assoc] using c1
    · simpa [Nat.add_assoc] using c2
    · simpa [Nat.add_assoc] using c3
    · simpa [Nat.add_assoc] using c4
    · simpa [Nat.add_assoc] using c5
set_option maxRecDepth 100000 in
theorem has_terms2 {H : Type} {enc : TypeId × Value → H} {W : World} {base : Nat} {v : Value} {d : DataW H} {ps : List MemPlace} (hok : Value.okWide Tryz.prog W .any base 22 v) (h : DataW.Trod enc Tryz.prog W 0 (fun _ => true) true 22 v d ps) (hw : ∀ n ∈ d.weights Tryz.prog 22, n ≤ reachBytes) : ∃ l, HasT W v l ∧ l.length ≤ maxLen ∧ ∀ t ∈ l, Room t := by
  obtain ⟨a0, len0, cap0, rfl⟩ := okWide_slice Tryz.underlying22 hok
  obtain ⟨fuel, hf⟩ := h
  rcases Go.Deep.open_slice Tryz.underlying22 hf with ⟨hc, _⟩ | ⟨a, len, cap, m, n, D, Pl, hc, _, hl, hm, hmm, hxx, hx⟩
  · have hc' : [Value.slice a0 len0 cap0] = [Value.slice none 0 0] := hc
    injection hc' with hc' _
    injection hc' with h1 h2 h3
    subst h1; subst h2; subst h3
    exact ⟨[], ⟨none, 0, rfl, fun i s h => by simp at h⟩, by simp, fun t ht => by cases ht⟩
  · have hc' : [Value.slice a0 len0 cap0] = [Value.slice (some a) len cap] := hc
    injection hc' with hc' _
    injection hc' with h1 h2 h3
    subst h1; subst h2; subst h3
    have hm' : m = cap0 := by simpa using hmm
    rw [Tryz.cTerm] at hx
    have hd : d = .slice ((List.range len0).map D) ((List.range (m - len0)).map fun j => D (len0 + j)) := congrArg Prod.fst hxx
    have hwi : ∀ i, i < len0 → ∀ n ∈ (D i).weights Tryz.prog 35, n ≤ reachBytes := fun i hi n hn => hw n (by
      have h1 : n ∈ DataW.weightsAll Tryz.prog 35 ((List.range len0).map D) := weights_in_all (d := D i) (List.mem_map.2 ⟨i, List.mem_range.2 hi, rfl⟩) n hn
      rw [hd]; simp [DataW.weights, Tryz.underlying22, h1])
    have ha : 0 < len0 → a = ⟨a.block, a.off, none⟩ := fun h0 => by
      obtain ⟨cs, h1, _⟩ := hx 0 (by omega)
      obtain ⟨_, hl1, hcell⟩ := World.cells?_some h1
      have c0 := hcell 0 (by omega)
      rw [Go.Deep.add_add] at c0
      obtain ⟨u, hu⟩ : ∃ u, cs[0]? = some u := ⟨cs[0]'(by omega), List.getElem?_eq_getElem _⟩
      rw [hu] at c0
      simpa [Addr.add] using cell_plain c0
    have each : ∀ i, i < len0 → ∃ t : Tm, (∃ g o vn vp, OneT W (some a) i t g o vn vp) ∧ Room t := fun i hi => by
      obtain ⟨cs, h1, h2⟩ := hx i (by omega)
      rw [ha (by omega)] at h1 ⊢
      obtain ⟨t, vn, vp, hT, hR⟩ := term_in2 h1 h2 (hwi i hi)
      exact ⟨t, ⟨_, _, vn, vp, hT⟩, hR⟩
    obtain ⟨f, hf'⟩ := tm_choose each
    refine ⟨(List.range len0).map f, ⟨some a, cap0, by simp, fun i t h => ?_⟩, by simp; omega, fun t ht => ?_⟩
    · have hi : i < len0 := by have := (List.getElem?_eq_some_iff.1 h).1; simpa using this
      have hp : t = f i := by
        rw [List.getElem?_map, List.getElem?_range hi] at h
        simpa using h.symm
      rw [hp]; exact (hf' i hi).1
    · obtain ⟨i, hi, rfl⟩ := List.mem_map.1 ht
      exact (hf' i (List.mem_range.1 hi)).2
/-- ErrArg, ErrLong, ErrIndex, the first of the list. -/
theorem errT_of {W : World} {x0 x1 x2 : List UInt8} {r : List (String × DataW Unit)} (h : laidMet Tryz.prog (("semblance/api.ErrArg", .iface "*errors.errorString" (.ptr (.agg [.lit (.string x0)]))) :: ("semblance/api.ErrLong", .iface "*errors.errorString" (.ptr (.agg [.lit (.string x1)]))) :: ("semblance/api.ErrIndex", .iface "*errors.errorString" (.ptr (.agg [.lit (.string x2)]))) :: r) W) : ∃ aA aI aL, ErrT W aA aI aL := by
  obtain ⟨ps, h0, hnd, hrows⟩ := h
  obtain ⟨aA, q0, sA, h1, rfl⟩ := laid_step Tryz.gA Tryz.tA h0 hrows
  obtain ⟨aL, q1, sL, h2, rfl⟩ := laid_step Tryz.gL Tryz.tL h1 (fun b o hb => hrows b o (by simp only [List.mem_cons]; exact .inr (.inr hb)))
  obtain ⟨aI, q2, sI, h3, rfl⟩ := laid_step Tryz.gI Tryz.tI h2 (fun b o hb => hrows b o (by simp only [List.mem_cons]; exact .inr (.inr (.inr (.inr hb)))))
  refine ⟨aA, aI, aL, sA, sI, sL, fun e => ?_, fun e => ?_⟩
  · subst e; simp at hnd
  · subst e; simp at hnd
end Go.Proofs.YthnenpncajpibaaGreatDoor
