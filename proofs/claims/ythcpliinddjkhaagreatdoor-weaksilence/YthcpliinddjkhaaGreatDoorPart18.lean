/- Texts of this claim, joined: WkLaw, ErLaid, SyLent, SyArgI, SyArg, WkLaid. -/
import Derived.Test.YthcpliinddjkhaaGreatDoorPart17
import Derived.Test.YthcpliinddjkhaaGreatDoorRows
import Derived.Test.YthcpliinddjkhaaGreatDoorPart1
import Derived.ProofKit
import Derived.LaidMore
import Derived.Stop.LaidErr
import Derived.Lib.SmallJoins
import Derived.Deep.Slices
import Derived.Lib.LaidTab
namespace Go.Proofs.YthcpliinddjkhaaGreatDoor
section
open Go.RowKit Go.Maps
attribute [local go_sem ↓] Go.wp_at_zero Go.wp_at_succ
theorem own_cell13 {w : World} {B : Nat} {u : Value} {zs : List Int} {j : Nat} {z : Int} (h : OwnI w B u zs) (hj : zs[j]? = some z) : ∃ g c, u = .slice (some ⟨g, 0, none⟩) zs.length c ∧ w.cell? ⟨g, j, none⟩ = some (.int .i64 z) := by
  obtain ⟨a, c, e⟩ := row_shape h
  obtain ⟨g, hg, hc⟩ := own_num (ao := a) (n := zs.length) (cap := c) (by rw [← e]; exact h) hj
  subst hg
  exact ⟨g, c, e, hc⟩
theorem els_lt {S : Nat → Bool} {m k x y : Nat} (h1 : (Br.els S m)[k]? = some x) (h2 : (Br.els S m)[k + 1]? = some y) : x < y := by
  have hp : List.Pairwise (· < ·) (Br.els S m) := List.Pairwise.filter _ List.pairwise_lt_range
  obtain ⟨i1, e1⟩ := List.getElem?_eq_some_iff.1 h1
  obtain ⟨i2, e2⟩ := List.getElem?_eq_some_iff.1 h2
  have := List.pairwise_iff_getElem.1 hp k (k + 1) i1 i2 (by omega)
  rw [e1, e2] at this
  exact this
theorem Tryz.infoB13 : (Tryz.prog.info? 4).map (fun i => (i.zero, i.size, i.bytes)) = some (some (.bool false), 1, 1) := by kernel_rfl
theorem makeB13 (n : Nat) (hn : n ≤ 1000000) (w : World) : (Instr.makeSlice 59 (.int .i64 (n : Int)) (.int .i64 (n : Int))).run Tryz.prog w = .ok (.slice (some ⟨w.heap.size, 0, none⟩) n n) (w.alloc (.cells (madeV (.bool false) n) 4)) := make_of _ _ _ 1 Tryz.underlying59 Tryz.infoB13 n hn (by decide) w
theorem Tryz.infoBB13 : (Tryz.prog.info? 59).map (fun i => (i.zero, i.size, i.bytes)) = some (some (.slice none 0 0), 1, 24) := by kernel_rfl
theorem makeBB13 (n : Nat) (hn : n ≤ 1000000) (w : World) : (Instr.makeSlice 37 (.int .i64 (n : Int)) (.int .i64 (n : Int))).run Tryz.prog w = .ok (.slice (some ⟨w.heap.size, 0, none⟩) n n) (w.alloc (.cells (madeV (.slice none 0 0) n) 59)) := make_of _ _ _ 24 Tryz.underlying37 Tryz.infoBB13 n hn (by decide) w
set_option maxRecDepth 100000 in
set_option maxHeartbeats 4000000 in
theorem silent_bad (n k s : Int) (v : Value) (es : List Sy.Ed) (aE : Addr) (ls : List ByteArray) (w0 : World) (hv0 : BEdges.Has w0 v es) (hN0 : WkBadC 33 n k s v aE ls (.slice none 0 0) w0) : WkBadC 13 n k s v aE ls (.slice none 0 0) w0 := by
  intro w hb0
  obtain ⟨ao, cap, rfl, _⟩ := hv0
  obtain ⟨L, hL⟩ : ∃ L, L = es.length := ⟨_, rfl⟩
  obtain ⟨w1, hw1⟩ : ∃ w1, w1 = w.alloc (.cells #[.int .i64 n, .int .i64 k, .int .i64 s, .slice ao L cap] 24) := ⟨_, rfl⟩
  have hb1 : Below w.heap.size w w1 := by rw [hw1]; exact (Below.refl _ _).alloc (Nat.le_refl _) _
  have hg1 : w1.heap[w.heap.size]? = some (.cells #[.int .i64 n, .int .i64 k, .int .i64 s, .slice ao L cap] 24 (0, 0)) := by rw [hw1]; exact heap_alloc_new w _
  obtain ⟨x0, x1, x2, x3⟩ := wk_cells hg1
  have hC := hN0 w1 (wk_bel hb1 hb0)
  rw [← hL] at hC ⊢
  unfold sysV at hC ⊢
  have H1 : Hid _ := And.intro hC (And.intro hb1 hw1)
  clear hN0 hb0 hC hb1 hw1 hL hg1
  go_enter Tryz.func13, Tryz.ntmps13
  go_upto_region 1 with fail
  rw [← H1.out.2.2]
  go_wp2_with fail
  refine Calls.mono H1.out.1 ?_
  rintro r w2 ⟨b2, rfl, hC2, hb2⟩
  have H2 : Hid _ := And.intro hC2 hb2
  clear hC2 hb2
  go_wp2_with fail
  go_ret2
  exact ⟨b2, rfl, H2.out.1, H1.out.2.1.trans (H2.out.2.mono H1.out.2.1.size)⟩
theorem mark13 {w : World} {bp m k y : Nat} {D : List Nat} (h : ListAt 4 w bp m fun z => .bool (decide (z ∈ D.take k))) (hy : D[k]? = some y) : ListAt 4 (w.setCell ⟨bp, y, none⟩ (.bool true)) bp m fun z => .bool (decide (z ∈ D.take (k + 1))) := by
  refine (h.put (.bool true)).congr fun z _ => ?_
  rw [List.take_add_one, hy]
  by_cases e : z = y
  · subst e; simp
  · rw [if_neg e]; simp [e]
structure Mx13 (w0 W : World) (gi m : Nat) (b : Nat → Nat) (X : Nat → Nat → Bool) (i : Nat) : Prop where
  lst : ListAt 59 W gi m fun p => if p < i then .slice (some ⟨b p, 0, none⟩) m m else .slice none 0 0
  row : ∀ p, p < i → ListAt 4 W (b p) m fun q => .bool (X p q)
  bl : Below w0.heap.size w0 W
  ug : w0.heap.size ≤ gi
  ub : ∀ p, p < i → w0.heap.size ≤ b p
theorem Mx13.below {w0 W W' : World} {gi m i : Nat} {b : Nat → Nat} {X : Nat → Nat → Bool} (h : Mx13 w0 W gi m b X i) (hb : Below W.heap.size W W') : Mx13 w0 W' gi m b X i := ⟨h.lst.below hb, fun p hp => (h.row p hp).below hb, h.bl.trans (hb.mono h.bl.size), h.ug, h.ub⟩
theorem Mx13.cells {w0 W : World} {gi m : Nat} {b : Nat → Nat} {X : Nat → Nat → Bool} (h : Mx13 w0 W gi m b X m) {p q : Nat} (hp : p < m) (hq : q < m) : W.cell? ⟨gi, p, none⟩ = some (.slice (some ⟨b p, 0, none⟩) m m) ∧ W.cell? ⟨b p, q, none⟩ = some (.bool (X p q)) := by
  have h1 := h.lst.cell hp
  rw [if_pos hp] at h1
  exact ⟨h1, (h.row p hp).cell hq⟩
set_option maxRecDepth 100000 in
set_option maxHeartbeats 32000000 in
theorem lawSilence_any (hS : SortOk 1000000) (n k s : Int) (v : Value) (es : List Sy.Ed) (aS aE : Addr) (w : World) (hE : EnvW w aS aE) (hv : BEdges.Has w v es) :
    Calls Tryz.prog 7 #[sysV n k s v] w fun r w' => r = .returned (.bool true) ∧ Below w.heap.size w w' := by
  have hv0 := hv
  obtain ⟨ao, cap, rfl, _⟩ := hv0
  obtain ⟨L, hL⟩ : ∃ L, L = es.length := ⟨_, rfl⟩
  obtain ⟨w1, hw1⟩ : ∃ w1, w1 = w.alloc (.cells #[.int .i64 n, .int .i64 k, .int .i64 s, .slice ao L cap] 24) := ⟨_, rfl⟩
  have hb1 : Below w.heap.size w w1 := by rw [hw1]; exact (Below.refl _ _).alloc (Nat.le_refl _) _
  have hg1 : w1.heap[w.heap.size]? = some (.cells #[.int .i64 n, .int .i64 k, .int .i64 s, .slice ao L cap] 24 (0, 0)) := by rw [hw1]; exact heap_alloc_new w _
  have hAl := fun W (hb : Below w.heap.size w W) => alive13_any hS aS aE W (hE.below hb)
  have hLn : Hid (L = es.length) := hL
  obtain ⟨x0, x1, x2, x3⟩ := wk_cells hg1
  have H1 : Hid _ := And.intro hw1 (And.intro hb1 (And.intro hg1 (And.intro hAl (And.intro hE (hv.below hb1)))))
  rw [← hL]
  clear hv hL hw1 hb1 hg1 hAl hE
  unfold sysV
  go_enter Tryz.func7, Tryz.ntmps7
  go_upto_region 1 with fail
  rw [← H1.out.1]
  by_cases hbig : (30 : Int) < n ∨ (¬ (30 : Int) < n ∧ (200 : Int) < (L : Int))
  · rcases hbig with h1 | ⟨h1, h2⟩
    all_goals
      go_wp2_with fail
      refine Calls.mono (H1.out.2.2.2.1 w1 H1.out.2.1) ?_
      rintro r w2 ⟨rfl, hb2⟩
      have H2 : Hid _ := wk_bel hb2 H1.out.2.1
      clear hb2
      go_wp2_with fail
      go_ret
      exact ⟨rfl, H2.out⟩
  · have h1 : ¬ (30 : Int) < n := by omega
    have h2 : ¬ (200 : Int) < (L : Int) := by omega
    clear hbig
    cases hq : Sy.right n k s es with
    | false =>
      have hB := silent_bad n k s _ es aS [wkB, sysB] w1 H1.out.2.2.2.2.2 (silentOf_bad n k s _ es aS w1 (H1.out.2.2.2.2.1.below H1.out.2.1).sy H1.out.2.2.2.2.2 hq)
      have hB1 := hB w1 (Below.refl _ _)
      rw [← hLn.out] at hB1
      unfold sysV at hB1
      have HB : Hid _ := hB1
      clear hB hB1
      go_wp2_with fail
      refine Calls.mono HB.out ?_
      rintro r w2 ⟨b2, rfl, _, hb2⟩
      have H2 : Hid _ := wk_bel hb2 H1.out.2.1
      clear hb2
      go_wp2_with fail
      refine Calls.mono (H1.out.2.2.2.1 w2 H2.out) ?_
      rintro r w3 ⟨rfl, hb3⟩
      have H3 : Hid _ := wk_bel hb3 H2.out
      clear hb3
      go_wp2_with fail
      go_ret
      exact ⟨rfl, H3.out⟩
    | true =>
      have hp9 : 0 ≤ n ∧ 0 ≤ k := by unfold Sy.right at hq; simp only [Bool.and_eq_true, decide_eq_true_eq] at hq; omega
      obtain ⟨m, rfl⟩ : ∃ m : Nat, n = (m : Int) := ⟨n.toNat, by omega⟩
      obtain ⟨kk, rfl⟩ : ∃ kk : Nat, k = (kk : Int) := ⟨k.toNat, by omega⟩
      have hm : m ≤ 30 := by omega
      have hI := Wk.in_right hq
      have hSi := silent_ok m kk s _ es aS w1 (H1.out.2.2.2.2.1.below H1.out.2.1).sy (H1.out.2.2.2.2.1.below H1.out.2.1).tab H1.out.2.2.2.2.2 hq (by omega)
      rw [← hLn.out] at hSi
      unfold sysV at hSi
      have HSi : Hid _ := And.intro hSi (And.intro hI hm)
      have hL2 : L ≤ 200 := by omega
      clear hSi hI hq hp9
      go_wp2_with fail
      refine Calls.mono HSi.out.1 ?_
      rintro r w2 ⟨gl, fl, rfl, hLs⟩
      have hg2 := wk_res hLs.bl H1.out.2.2.1
      have H2 : Hid _ := And.intro hLs hg2
      clear hLs x0 x1 x2 x3
      obtain ⟨x0, x1, x2, x3⟩ := wk_cells hg2
      clear hg2
      have mk := makeBB13 m (by omega) w2
      go_upto_region 9 with fail
      clear mk
      obtain ⟨w3, hw3⟩ : ∃ w3, w3 = w2.alloc (.cells (madeV (.slice none 0 0) m) 59) := ⟨_, rfl⟩
      have hb3 : Below w2.heap.size w2 w3 := by rw [hw3]; exact (Below.refl _ _).alloc (Nat.le_refl _) _
      have hM3 : Mx13 w2 w3 w2.heap.size m (fun _ => 0) (fun _ _ => false) 0 := ⟨by rw [hw3]; exact (listAt_new 59 (.slice none 0 0) rfl w2 m).congr fun p _ => by simp, fun p hp => by omega, hb3, Nat.le_refl _, fun p hp => by omega⟩
      rw [← hw3]
      have H3 : Hid _ := hM3
      clear hw3 hb3 hM3 x0 x1 x2 x3
      obtain ⟨gi, hgi⟩ : ∃ gi, gi = w2.heap.size := ⟨_, rfl⟩
      rw [← hgi] at H3 ⊢
      have HG : Hid _ := hgi
      clear hgi
      go_wp2_with fail
      go_loopg [6] m (fun z iv wr => ∃ (p : Nat) (b : Nat → Nat) (X : Nat → Nat → Bool), z = m - p ∧ p ≤ m ∧ iv = .int .i64 p ∧ Mx13 w2 wr gi m b X p ∧ ∀ x y, x < p → y < m → X x y = Wk.sil es m x y)
      case atStart => exact ⟨0, _, _, rfl, Nat.zero_le _, rfl, H3.out, fun x y hx => by omega⟩
      case round =>
        obtain ⟨p, b, X, rfl, hp, rfl, hM, hX⟩ := hrel
        obtain ⟨wo, rfl⟩ : ∃ wo, wo = wr := ⟨_, rfl⟩
        obtain ⟨x0, x1, x2, x3⟩ := wk_cells (wk_res hM.bl H2.out.2)
        by_cases hlt : p < m
        · have q0 : (0 : Int) ≤ (p : Int) := by omega
          have q1 : (p : Int) < (m : Int) := by omega
          have mkb := makeB13 m (by omega) wo
          have c0 := hM.lst.cell hlt
          simp only [Nat.lt_irrefl, if_false] at c0
          have f0 := hM.lst.free p
          obtain ⟨bp, hbp⟩ : ∃ bp, bp = wo.heap.size := ⟨_, rfl⟩
          obtain ⟨w4, hw4⟩ : ∃ w4, w4 = wo.alloc (.cells (madeV (.bool false) m) 4) := ⟨_, rfl⟩
          have hb4 : Below wo.heap.size wo w4 := by rw [hw4]; exact (Below.refl _ _).alloc (Nat.le_refl _) _
          have hN4 : ListAt 4 w4 bp m fun _ => .bool false := by rw [hw4, hbp]; exact listAt_new 4 (.bool false) rfl wo m
          have hl4 := hM.lst.below hb4
          have hgw : gi < wo.heap.size := hM.lst.lt
          have f4 : (wo.alloc (.cells (madeV (.bool false) m) 4)).frozen? ⟨gi, p, none⟩ = false := by rw [← hw4]; exact hl4.free p
          have c4 : (wo.alloc (.cells (madeV (.bool false) m) 4)).cell? ⟨gi, p, none⟩ = some (.slice none 0 0) := by rw [← hw4]; exact cell_up c0 hb4
          obtain ⟨w5, hw5⟩ : ∃ w5, w5 = w4.setCell ⟨gi, p, none⟩ (.slice (some ⟨bp, 0, none⟩) m m) := ⟨_, rfl⟩
          have hb5 : Below w2.heap.size w2 w5 := by rw [hw5]; exact (hM.bl.trans (hb4.mono hM.bl.size)).setCell (show w2.heap.size ≤ gi from hM.ug) _
          have hl5 : ListAt 59 w5 gi m fun x => if x < p + 1 then .slice (some ⟨upm b p bp x, 0, none⟩) m m else .slice none 0 0 := by
            rw [hw5]
            refine (hl4.put _).congr fun x _ => ?_
            by_cases e : x = p
            · subst e; rw [if_pos rfl, if_pos (by omega), upm_same]
            · rw [if_neg e, upm_ne _ _ e]
              by_cases e2 : x < p
              · rw [if_pos e2, if_pos (by omega)]
              · rw [if_neg e2, if_neg (by omega)]
          have hr5 : ∀ x, x < p → ListAt 4 w5 (b x) m fun y => .bool (X x y) := fun x hx => by
            rw [hw5]
            exact ((hM.row x hx).below hb4).other (list_ne9 ((hM.row x hx).below hb4) hl4 (by decide))
          have hn5 : ListAt 4 w5 bp m fun _ => .bool false := by rw [hw5]; exact hN4.other (list_ne9 hN4 hl4 (by decide))
          have hbx : ∀ x, x < p → b x ≠ bp := fun x hx => by have := (hM.row x hx).lt; omega
          have hLsp := H2.out.1.own p hlt
          have cL := H2.out.1.lst.cell hlt
          rw [if_pos hlt] at cL
          obtain ⟨Dp, hDp⟩ : ∃ Dp, Dp = Br.els (Wk.sil es m p) m := ⟨_, rfl⟩
          rw [← hDp] at hLsp
          obtain ⟨N, hN⟩ : ∃ N, N = Dp.length := ⟨_, rfl⟩
          have hNl : (natI Dp).length = N := by rw [hN]; simp [natI]
          obtain ⟨af, cf, hff⟩ := row_shape hLsp
          rw [hNl] at hff
          rw [hff] at cL hLsp
          have hNm : N ≤ m := by rw [hN, hDp]; exact els_le9 _ _
          have cL5 := cell_up cL hb5
          have HP : Hid _ := And.intro hb5 (And.intro hl5 (And.intro hr5 (And.intro hn5 (And.intro hbx (And.intro hLsp (And.intro hDp hN))))))
          have HQ : Hid _ := And.intro hM (And.intro hX (And.intro hw5 (And.intro hw4 hbp)))
          have HC : Hid _ := And.intro hb4 (And.intro (by have := hM.ug; omega : w2.heap.size ≤ bp) cL)
          clear hb4 hN4 hl4 hb5 hl5 hr5 hn5 hbx hLsp cL hDp hff hNl hM hX hw5 hw4 hbp hgw hN
          go_upto_region 13 with fail
          rw [← HQ.out.2.2.2.1, ← HQ.out.2.2.2.2, ← HQ.out.2.2.1]
          clear mkb c0 f0 x0 x1 x2 x3 f4 c4
          go_wp2_with fail
          go_loopg [57] N (fun z kv wr => ∃ kq : Nat, z = N - kq ∧ kq ≤ N ∧ kv = .int .i64 kq ∧ ListAt 4 wr bp m (fun y => .bool (decide (y ∈ Dp.take kq))) ∧ Kept (fun x => x = bp) w5 wr)
          case atStart => exact ⟨0, rfl, Nat.zero_le _, rfl, HP.out.2.2.2.1.congr fun y _ => by simp, Kept.refl _ _⟩
          case round =>
            obtain ⟨kq, rfl, hk, rfl, hB, hK⟩ := hrel
            obtain ⟨wi, rfl⟩ : ∃ wi, wi = wr := ⟨_, rfl⟩
            have hb2i : Below w2.heap.size w2 wi := HP.out.1.trans (hK.below HP.out.1.size fun x hx => by have := HC.out.2.1; omega)
            obtain ⟨x0, x1, x2, x3⟩ := wk_cells (wk_res hb2i H2.out.2)
            by_cases hlk : kq < N
            · have q2 : (0 : Int) ≤ (kq : Int) := by omega
              have q3 : (kq : Int) < (N : Int) := by omega
              obtain ⟨y, hy⟩ : ∃ y, Dp[kq]? = some y := ⟨Dp[kq]'(by have := HP.out.2.2.2.2.2.2.2; omega), List.getElem?_eq_getElem _⟩
              have hyS : y < m ∧ Wk.sil es m p y = true := by
                have h9 := List.mem_of_getElem? hy
                rw [HP.out.2.2.2.2.2.2.1] at h9
                exact Br.els_mem.1 h9
              have hzy : (natI Dp)[kq]? = some (y : Int) := by simp [natI, hy]
              have hLi : OwnI wi w1.heap.size (.slice af N cf) (natI Dp) := trow_at HP.out.2.2.2.2.2.1 fun x hx => hb2i.block x (HP.out.2.2.2.2.2.1.lt x hx).2
              obtain ⟨ga, ca, e9, cy⟩ := own_cell13 hLi hzy
              injection e9 with e91 e92 e93
              subst e91
              have cLi := cell_up HC.out.2.2 hb2i
              have cI := cell_kept9 hK (HP.out.2.1.cell hlt) (by have := HC.out.2.1; have := HG.out; have := HQ.out.2.2.2.2; have := HQ.out.1.lst.lt; omega)
              rw [if_pos (by omega), upm_same] at cI
              have cb := hB.cell hyS.1
              have fb := hB.free y
              have q4 : ¬ (y : Int) < 0 := by omega
              have q5 : ¬ (m : Int) ≤ (y : Int) := by omega
              have q6 : (0 : Int) ≤ (y : Int) := by omega
              have q7 : (y : Int) < (m : Int) := by omega
              have HK2 : Hid _ := And.intro hB (And.intro hK (And.intro hy (And.intro hyS hLi)))
              clear hB hK hy hyS hzy hLi e92 e93 hb2i
              have hNN : N ≤ 30 := by have := HSi.out.2.2; omega
              by_cases hk0 : kq = 0
              · subst hk0
                have q8 : ¬ (0 : Int) < ((0 : Nat) : Int) := by omega
                go_wp2_with fail
                go_roundg (N - (0 + 1))
                case measure => omega
                case rel => exact ⟨0 + 1, rfl, by omega, by go_num, mark13 HK2.out.1 HK2.out.2.2.1, HK2.out.2.1.trans (Kept.setCell _ _ _ _)⟩
              · obtain ⟨kp, rfl⟩ : ∃ kp, kq = kp + 1 := ⟨kq - 1, by omega⟩
                obtain ⟨y', hy'⟩ : ∃ y', Dp[kp]? = some y' := ⟨Dp[kp]'(by have := HP.out.2.2.2.2.2.2.2; omega), List.getElem?_eq_getElem _⟩
                have hlt2 : y' < y := by
                  have h8 := HK2.out.2.2.1
                  have h9 := hy'
                  rw [HP.out.2.2.2.2.2.2.1] at h8 h9
                  exact els_lt h9 h8
                obtain ⟨ga2, ca2, e9, cy'⟩ := own_cell13 HK2.out.2.2.2.2 (j := kp) (z := (y' : Int)) (by simp [natI, hy'])
                injection e9 with e91 e93 e94
                clear e93 e94
                injection e91 with e91
                injection e91 with e92 _
                subst e92
                have q8 : (0 : Int) < (kp : Int) + 1 := by omega
                have q9 : ¬ (y : Int) ≤ (y' : Int) := by omega
                have p8 : IntKind.i64.wrap ((kp : Int) + 1 - 1) = (kp : Int) := by rw [IntKind.wrap_i64]; omega
                have p9 : wrap64 ((kp : Int) + 1 - 1) = (kp : Int) := by unfold wrap64; omega
                have q10 : (0 : Int) ≤ (kp : Int) := by omega
                have q11 : (kp : Int) < (N : Int) := by omega
                have q12 : (kp : Int) + 1 < (N : Int) := by omega
                have q13 : (0 : Int) ≤ (kp : Int) + 1 := by omega
                have HY : Hid _ := And.intro hlt2 hy'
                clear hlt2 hy' hk0
                clear q2 q3
                go_wp2_with fail
                go_roundg (N - (kp + 1 + 1))
                case measure => omega
                case rel => exact ⟨kp + 1 + 1, rfl, by omega, by go_num, mark13 HK2.out.1 HK2.out.2.2.1, HK2.out.2.1.trans (Kept.setCell _ _ _ _)⟩
            · have q3 : ¬ (kq : Int) < (N : Int) := by omega
              obtain rfl : kq = N := by omega
              have hM9 : Mx13 w2 wi gi m (upm b p bp) (upm X p (Wk.sil es m p)) (p + 1) := by
                refine ⟨HP.out.2.1.kept hK (by have := HC.out.2.1; have := HG.out; have := HQ.out.2.2.2.2; have := HQ.out.1.lst.lt; omega), fun x hx => ?_, hb2i, HQ.out.1.ug, fun x hx => ?_⟩
                · by_cases e : x = p
                  · subst e
                    rw [upm_same, upm_same]
                    refine hB.congr fun y hy => ?_
                    rw [HP.out.2.2.2.2.2.2.2, List.take_length, HP.out.2.2.2.2.2.2.1]
                    congr 1
                    rw [Bool.eq_iff_iff, decide_eq_true_eq, Br.els_mem]
                    exact ⟨fun h => h.2, fun h => ⟨hy, h⟩⟩
                  · rw [upm_ne _ _ e, upm_ne _ _ e]
                    exact (HP.out.2.2.1 x (by omega)).kept hK (HP.out.2.2.2.2.1 x (by omega))
                · by_cases e : x = p
                  · subst e; rw [upm_same]; exact HC.out.2.1
                  · rw [upm_ne _ _ e]; exact HQ.out.1.ub x (by omega)
              have HN : Hid _ := hM9
              clear hM9 hB hK hb2i
              go_wp2_with fail
              go_roundg (m - (p + 1))
              case measure => omega
              case rel =>
                refine ⟨p + 1, _, _, rfl, by omega, by go_num, HN.out, fun x y hx hy => ?_⟩
                by_cases e : x = p
                · subst e; rw [upm_same]
                · rw [upm_ne _ _ e]; exact HQ.out.2.1 x y (by omega) hy
        · have q1 : ¬ (p : Int) < (m : Int) := by omega
          obtain rfl : p = m := by omega
          have HM : Hid _ := And.intro hM (And.intro hX hM.bl)
          clear hM hX
          go_wp2_with fail
          go_loopg [96] L (fun z jv wr => ∃ j : Nat, z = L - j ∧ j ≤ L ∧ jv = .int .i64 j ∧ Below wo.heap.size wo wr)
          case atStart => exact ⟨0, rfl, Nat.zero_le _, rfl, Below.refl _ _⟩
          case round =>
            obtain ⟨j, rfl, hj, rfl, hb⟩ := hrel
            obtain ⟨wi, rfl⟩ : ∃ wi, wi = wr := ⟨_, rfl⟩
            clear x0 x1 x2 x3
            have hMi := HM.out.1.below hb
            by_cases hlt2 : j < L
            · have q0 : (0 : Int) ≤ (j : Int) := by omega
              have q2 : (j : Int) < (L : Int) := by omega
              obtain ⟨z, hz⟩ : ∃ z, es[j]? = some z := ⟨es[j]'(by have := hLn.out; omega), List.getElem?_eq_getElem _⟩
              have hvL := H1.out.2.2.2.2.2.below (wk_bel hb (wk_bel HM.out.2.2 H2.out.1.bl))
              rw [← hLn.out] at hvL
              obtain ⟨a9, rfl, d0, d1, d2⟩ := edge_at hvL hz
              obtain ⟨f, l, g⟩ := z
              have hrg := HSi.out.2.1 _ (List.mem_of_getElem? hz)
              simp only at d0 d1 d2 hrg
              obtain ⟨fn, rfl⟩ : ∃ fn : Nat, f = (fn : Int) := ⟨f.toNat, by omega⟩
              obtain ⟨tn, rfl⟩ : ∃ tn : Nat, g = (tn : Int) := ⟨g.toNat, by omega⟩
              have hfm : fn < p := by omega
              have htm : tn < p := by omega
              obtain ⟨w5, hw5⟩ : ∃ w5, w5 = wi.alloc (.cells #[.int .i64 fn, .int .i64 l, .int .i64 tn] 70) := ⟨_, rfl⟩
              have hb5 : Below wi.heap.size wi w5 := by rw [hw5]; exact (Below.refl _ _).alloc (Nat.le_refl _) _
              have hg5 : w5.heap[wi.heap.size]? = some (.cells #[.int .i64 fn, .int .i64 l, .int .i64 tn] 70 (0, 0)) := by rw [hw5]; exact heap_alloc_new wi _
              have z0 : w5.cell? ⟨wi.heap.size, 0, none⟩ = some (.int .i64 fn) := cell0_of hg5 rfl
              have z1 : w5.cell? ⟨wi.heap.size, 1, none⟩ = some (.int .i64 l) := cell0_of hg5 rfl
              have z2 : w5.cell? ⟨wi.heap.size, 2, none⟩ = some (.int .i64 tn) := cell0_of hg5 rfl
              obtain ⟨c0, c1⟩ := (hMi.below hb5).cells hfm htm
              rw [HM.out.2.1 fn tn hfm htm] at c1
              have HE : Hid _ := And.intro (wk_bel hb5 hb) (And.intro hw5 hz)
              clear hMi hvL hrg hb hb5 hw5 hg5 hz
              go_upto_region 23 with fail
              rw [← HE.out.2.1]
              clear d0 d1 d2
              by_cases hl : l = 0
              · subst hl
                have hs : Wk.sil es p fn tn = true := Wk.sil_tau p (Wk.tau_iff.2 (List.mem_of_getElem? HE.out.2.2))
                rw [hs] at c1
                clear hs
                have q4 : (0 : Int) ≤ (fn : Int) := by omega
                have q5 : (fn : Int) < (p : Int) := by omega
                have q6 : (0 : Int) ≤ (tn : Int) := by omega
                have q7 : (tn : Int) < (p : Int) := by omega
                go_quiet (fail)
                go_wp2_with fail
                go_roundg (L - (j + 1))
                case measure => omega
                case rel => exact ⟨j + 1, rfl, by omega, by go_num, below_drewN HE.out.1 _⟩
              · have e1 : (l == 0) = false := by simp [hl]
                have e2 : decide (l = 0) = false := by simp [hl]
                clear c0 c1
                go_quiet (fail)
                go_wp2_with fail
                go_roundg (L - (j + 1))
                case measure => omega
                case rel => exact ⟨j + 1, rfl, by omega, by go_num, below_drewN HE.out.1 _⟩
            · have q2 : ¬ (j : Int) < (L : Int) := by omega
              have HB : Hid _ := hb
              clear hMi hb
              go_wp2_with fail
              go_loopg [11] p (fun z xv wr => ∃ x : Nat, z = p - x ∧ x ≤ p ∧ xv = .int .i64 x ∧ Below wo.heap.size wo wr)
              case atStart => exact ⟨0, rfl, Nat.zero_le _, rfl, HB.out⟩
              case round =>
                obtain ⟨x, rfl, hx, rfl, hb⟩ := hrel
                obtain ⟨wi, rfl⟩ : ∃ wi, wi = wr := ⟨_, rfl⟩
                have hbw : Below w1.heap.size w1 wi := wk_bel hb (wk_bel HM.out.2.2 H2.out.1.bl)
                obtain ⟨x0, x1, x2, x3⟩ := wk_cells (wk_res hbw H1.out.2.2.1)
                by_cases hlx : x < p
                · have q3 : (x : Int) < (p : Int) := by omega
                  have q4 : (0 : Int) ≤ (x : Int) := by omega
                  have HX : Hid _ := And.intro hb hbw
                  clear hb hbw
                  go_wp2_with fail
                  go_loopg [12] p (fun z yv wr => ∃ y : Nat, z = p - y ∧ y ≤ p ∧ yv = .int .i64 y ∧ wr = wi)
                  case atStart => exact ⟨0, rfl, Nat.zero_le _, rfl, rfl⟩
                  case round =>
                    obtain ⟨y, rfl, hy, rfl, hw⟩ := hrel
                    obtain rfl := hw.symm
                    clear hw
                    by_cases hly : y < p
                    · have q5 : (y : Int) < (p : Int) := by omega
                      have q6 : (0 : Int) ≤ (y : Int) := by omega
                      go_wp2_with fail
                      go_loopg [13] p (fun z tv wr => ∃ t : Nat, z = p - t ∧ t ≤ p ∧ tv = .int .i64 t ∧ wr = wi)
                      case atStart => exact ⟨0, rfl, Nat.zero_le _, rfl, rfl⟩
                      case round =>
                        obtain ⟨t, rfl, ht, rfl, hw⟩ := hrel
                        obtain rfl := hw.symm
                        clear hw
                        by_cases hlt4 : t < p
                        · have q7 : (t : Int) < (p : Int) := by omega
                          have q8 : (0 : Int) ≤ (t : Int) := by omega
                          obtain ⟨c0, c1⟩ := (HM.out.1.below HX.out.1).cells hlx hly
                          obtain ⟨c2, c3⟩ := (HM.out.1.below HX.out.1).cells hly hlt4
                          have c4 := ((HM.out.1.below HX.out.1).cells hlx hlt4).2
                          rw [HM.out.2.1 x y hlx hly] at c1
                          rw [HM.out.2.1 y t hly hlt4] at c3
                          rw [HM.out.2.1 x t hlx hlt4] at c4
                          cases h1 : Wk.sil es p x y with
                          | false =>
                            rw [h1] at c1
                            clear c2 c3 c4 h1
                            go_wp2_with fail
                            go_roundg (p - (t + 1))
                            case measure => omega
                            case rel => exact ⟨t + 1, rfl, by omega, by go_num, rfl⟩
                          | true =>
                            cases h2 : Wk.sil es p y t with
                            | false =>
                              rw [h1] at c1
                              rw [h2] at c3
                              clear c4 h1 h2
                              go_wp2_with fail
                              go_roundg (p - (t + 1))
                              case measure => omega
                              case rel => exact ⟨t + 1, rfl, by omega, by go_num, rfl⟩
                            | true =>
                              have h3 : Wk.sil es p x t = true := Wk.sil_trans hly h1 h2
                              rw [h1] at c1
                              rw [h2] at c3
                              rw [h3] at c4
                              clear h1 h2 h3
                              go_wp2_with fail
                              go_roundg (p - (t + 1))
                              case measure => omega
                              case rel => exact ⟨t + 1, rfl, by omega, by go_num, rfl⟩
                        · have q7 : ¬ (t : Int) < (p : Int) := by omega
                          go_wp2_with fail
                          go_roundg (p - (y + 1))
                          case measure => omega
                          case rel => exact ⟨y + 1, rfl, by omega, by go_num, rfl⟩
                    · have q5 : ¬ (y : Int) < (p : Int) := by omega
                      obtain ⟨c0, c1⟩ := (HM.out.1.below HX.out.1).cells hlx hlx
                      rw [HM.out.2.1 x x hlx hlx, Wk.sil_refl] at c1
                      go_wp2_with fail
                      go_roundg (p - (x + 1))
                      case measure => omega
                      case rel => exact ⟨x + 1, rfl, by omega, by go_num, HX.out.1⟩
                · have q3 : ¬ (x : Int) < (p : Int) := by omega
                  have HX : Hid (Below w.heap.size w wi) := wk_bel hbw H1.out.2.1
                  clear hb hbw
                  go_wp2_with fail
                  refine Calls.mono (H1.out.2.2.2.1 wi HX.out) ?_
                  rintro r w9 ⟨rfl, hb9⟩
                  have H9 : Hid _ := wk_bel hb9 HX.out
                  clear hb9 x0 x1 x2 x3
                  go_wp2_with fail
                  go_ret
                  exact ⟨rfl, H9.out⟩
end
section
open Go.ChangeShapes Go.WideShapes Go.ChangeAt Go.WideMaps Go.WideElems Go.RowKit
theorem Tryz.own : ownKnob Tryz.prog.godebug = none := by kernel_rfl
theorem Tryz.laidOut : laidOutB Tryz.prog = true := by kernel_rfl
theorem Tryz.cellsE : Tryz.prog.cellsOf 331 = 1 := by kernel_rfl
theorem Tryz.cellsS : Tryz.prog.cellsOf 9 = 1 := by kernel_rfl
set_option maxRecDepth 100000 in
theorem Tryz.star : "*" ++ "errors.errorString" = "*errors.errorString" := by decide
set_option maxRecDepth 100000 in
theorem Tryz.rowE (u : TypeId) (h : Tryz.prog.typeName? 3 u = some "*errors.errorString") : u = 311 :=
  typeName_ptr_named (nm := "errors.errorString") (by rw [Tryz.star]; kernel_rfl) (by kernel_rfl) (by decide) u (by rw [Tryz.star]; exact h)
set_option maxRecDepth 100000 in
theorem laid_step {W : World} {n : String} {g : Nat} {text : List UInt8} {r : List (String × DataW Unit)} {ps : List MemPlace} (hg : Tryz.prog.globalNamed n = some g) (ht : (Tryz.prog.globals[g]?).map (·.type) = some 48)
    (h : DataW.LaidVars Tryz.prog W ((n, .iface "*errors.errorString" (.ptr (.agg [.lit (.string text)]))) :: r) ps)
    (hrows : ∀ b off, MemPlace.cell b off ∈ ps → (∃ c t, W.heap[b]? = some (.cells c t (0, 0))) ∧ ∀ u v, W.cell? ⟨b, off, none⟩ = some (.iface u v) → Value.okWide Tryz.prog W .any 0 u v) :
    ∃ a q, Sent W g a ∧ DataW.LaidVars Tryz.prog W r q ∧ ps = MemPlace.cell g 0 :: MemPlace.cell a.block a.off :: q := by
  obtain ⟨g0, t0, cs0, f0, p0, q0, hg0, ht0, hv0, hd0, hr, e0⟩ := h
  obtain rfl := Option.some.inj (hg.symm.trans hg0)
  obtain rfl := Option.some.inj (ht.symm.trans ht0)
  subst e0
  obtain ⟨l0⟩ := cs0
  have ok0 : ∀ u v, l0 = [.iface u v] → Value.okWide Tryz.prog W .any 0 u v := fun u v e => by
    subst e
    exact (hrows g 0 (by simp [MemPlace.row])).2 u v (by simpa using World.var?_cell hg0 hv0 0)
  obtain ⟨a0, s0, rfl, hc0, hs0, hz0, rfl⟩ := errorString_of_trod Tryz.underlying48 Tryz.rowE Tryz.underlying311 Tryz.underlying331 rfl rfl Tryz.underlying9 Tryz.cellsE Tryz.cellsS hd0 ok0
  refine ⟨a0, q0, ⟨by simpa using World.var?_cell hg0 hv0 0, (hrows a0.block a0.off (by simp [MemPlace.row])).1⟩, hr, ?_⟩
  simp [MemPlace.row]
abbrev LE : Type := String × Nat × List UInt8
def leV (x : LE) : String × DataW Unit := (x.1, .iface "*errors.errorString" (.ptr (.agg [.lit (.string x.2.2)])))
theorem laid_list {W : World} {r : List (String × DataW Unit)} : ∀ (xs : List LE) (ps : List MemPlace), (∀ x ∈ xs, Tryz.prog.globalNamed x.1 = some x.2.1 ∧ (Tryz.prog.globals[x.2.1]?).map (·.type) = some 48) →
    DataW.LaidVars Tryz.prog W (xs.map leV ++ r) ps → (∀ b off, MemPlace.cell b off ∈ ps → (∃ c t, W.heap[b]? = some (.cells c t (0, 0))) ∧ ∀ u v, W.cell? ⟨b, off, none⟩ = some (.iface u v) → Value.okWide Tryz.prog W .any 0 u v) →
    ∃ ads : List Addr, ads.length = xs.length ∧ (∀ (i : Nat) (x : LE) (a : Addr), xs[i]? = some x → ads[i]? = some a → Sent W x.2.1 a) ∧ (∀ a ∈ ads, MemPlace.cell a.block a.off ∈ ps) ∧ (ps.Nodup → ads.Pairwise (· ≠ ·))
  | [], ps, _, _, _ => ⟨[], rfl, fun i x a h => by simp at h, fun a h => by simp at h, fun _ => List.Pairwise.nil⟩
  | x :: xs, ps, hx, h, hr => by
    obtain ⟨a, q, hs, hq, rfl⟩ := laid_step (hx x List.mem_cons_self).1 (hx x List.mem_cons_self).2 h hr
    obtain ⟨ads, h1, h2, h3, h4⟩ := laid_list xs q (fun y hy => hx y (List.mem_cons_of_mem _ hy)) hq (fun b off hb => hr b off (List.mem_cons_of_mem _ (List.mem_cons_of_mem _ hb)))
    refine ⟨a :: ads, by simp [h1], fun i y b hy hb => ?_, fun b hb => ?_, fun hn => ?_⟩
    · cases i with
      | zero => simp at hy hb; subst hy; subst hb; exact hs
      | succ i => exact h2 i y b (by simpa using hy) (by simpa using hb)
    · rcases List.mem_cons.1 hb with rfl | hb
      · exact List.mem_cons_of_mem _ List.mem_cons_self
      · exact List.mem_cons_of_mem _ (List.mem_cons_of_mem _ (h3 b hb))
    · have hn2 := (List.nodup_cons.1 hn).2
      have hn3 := List.nodup_cons.1 hn2
      exact List.Pairwise.cons (fun b hb e => hn3.1 (by rw [e]; exact h3 b hb)) (h4 hn3.2)
end
section
open Go.RowKit Go.Maps
attribute [local go_sem ↓] Go.wp_at_zero Go.wp_at_succ
def mk3 : List Sy.Ed := [(-7, 0, 0), (-7, 1, 0), (-7, 2, 0)]
def LentE (w : World) (B : Nat) (u : Value) (es : List Sy.Ed) : Prop := ∃ g cap, u = .slice (some ⟨g, 0, none⟩) es.length cap ∧ es.length + 3 ≤ cap ∧ BEdges.Own w B (.slice (some ⟨g, 0, none⟩) (es.length + 3) cap) (es ++ mk3)
end
section
open Go.ChangeShapes Go.WideShapes Go.ChangeAt Go.WideMaps Go.WideElems Go.RowKit
theorem Tryz.cIntE : Tryz.prog.cellsOf 3 = 1 := by kernel_rfl
end
section
open Go.ChangeShapes Go.WideShapes Go.ChangeAt Go.WideMaps Go.WideElems Go.RowKit
theorem Tryz.cEdge : Tryz.prog.cellsOf 70 = 3 := by kernel_rfl
theorem Tryz.cSys : Tryz.prog.cellsOf 24 = 4 := by kernel_rfl
theorem ed_choose {n : Nat} {p : Nat → Sy.Ed → Prop} (h : ∀ i, i < n → ∃ x, p i x) : ∃ f : Nat → Sy.Ed, ∀ i, i < n → p i (f i) := by
  classical
  refine ⟨fun i => if hi : i < n then Classical.choose (h i hi) else (0, 0, 0), fun i hi => ?_⟩
  simp only [hi, dif_pos]
  exact Classical.choose_spec (h i hi)
set_option maxRecDepth 100000 in
theorem edge_in {H : Type} {enc : TypeId × Value → H} {W : World} {fuel i : Nat} {a : Addr} {cs : List Value} {x : DataW H × List MemPlace} (hc : W.cells? 0 (a.add (i * 3)) 3 = some cs) (h : DataW.trod enc Tryz.prog W 0 (fun _ => true) true fuel 70 cs = some x) :
    ∃ z : Sy.Ed, ∀ q u, (BEdges.enc z)[q]? = some u → W.cell? (a.add (i * 3 + q)) = some u := by
  obtain ⟨_, hlen, hcell⟩ := World.cells?_some hc
  obtain ⟨xs, k, hk, _, _, hxl, hf⟩ := DataW.trod_struct Tryz.underlying70 h
  match xs, hxl, cs, hlen with
  | [y0, y1, y2], _, [v0, v1, v2], _ =>
    have g0 := hf 0 _ rfl
    have g1 := hf 1 _ rfl
    have g2 := hf 2 _ rfl
    simp [Tryz.cIntE] at g0 g1 g2
    obtain ⟨z0, e0, _⟩ := DataW.trod_int Tryz.underlying3 g0
    obtain ⟨z1, e1, _⟩ := DataW.trod_int Tryz.underlying3 g1
    obtain ⟨z2, e2, _⟩ := DataW.trod_int Tryz.underlying3 g2
    obtain rfl : v0 = .int .i64 z0 := by simpa using e0
    obtain rfl : v1 = .int .i64 z1 := by simpa using e1
    obtain rfl : v2 = .int .i64 z2 := by simpa using e2
    have c0 := hcell 0 (by omega)
    have c1 := hcell 1 (by omega)
    have c2 := hcell 2 (by omega)
    rw [Go.Deep.add_add] at c0 c1 c2
    refine ⟨(z0, z1, z2), fun q u hq => ?_⟩
    match q, hq with
    | 0, hq => cases hq; simpa using c0
    | 1, hq => cases hq; simpa using c1
    | 2, hq => cases hq; simpa using c2
    | q + 3, hq => simp [BEdges.enc] at hq
set_option maxRecDepth 100000 in
theorem edges_in {H : Type} {enc : TypeId × Value → H} {W : World} {fuel : Nat} {v : Value} {x : DataW H × List MemPlace} (h : DataW.trod enc Tryz.prog W 0 (fun _ => true) true fuel 22 [v] = some x) : ∃ es, HasE W v es ∧ es.length ≤ maxLen := by
  rcases Go.Deep.open_slice Tryz.underlying22 h with ⟨hc, _⟩ | ⟨a, len, cap, m, n, D, Pl, hc, _, hl, hm, hmm, _, hx⟩
  · obtain rfl : v = .slice none 0 0 := by injection hc
    exact ⟨[], ⟨none, 0, rfl, Nat.le_refl _, none, 0, rfl, fun i s h => by simp [BEdges.C] at h⟩, by simp⟩
  · obtain rfl : v = .slice (some a) len cap := by injection hc
    have hm' : m = cap := by simpa using hmm
    rw [Tryz.cEdge] at hx
    have each : ∀ i, i < len → ∃ z : Sy.Ed, ∀ q u, (BEdges.enc z)[q]? = some u → W.cell? (a.add (i * 3 + q)) = some u := fun i hi => by
      obtain ⟨cs, h1, h2⟩ := hx i (by omega)
      exact edge_in h1 h2
    obtain ⟨f, hf'⟩ := ed_choose each
    have hL : ((List.range len).map f).length = len := by simp
    refine ⟨(List.range len).map f, ⟨some a, cap, by rw [hL], by rw [hL]; omega, some a, cap, by rw [hL], fun j u hj => ⟨a, rfl, ?_⟩⟩, by rw [hL]; omega⟩
    have hj3 : j < len * 3 := by have := (List.getElem?_eq_some_iff.1 hj).1; rw [BEdges.C_len, hL] at this; exact this
    have hi : j / 3 < len := by omega
    have hz : ((List.range len).map f)[j / 3]? = some (f (j / 3)) := by rw [List.getElem?_map, List.getElem?_range hi]; rfl
    have h9 := BEdges.C_at _ _ _ hz (j % 3) (Nat.mod_lt _ (by decide))
    have e9 : j / 3 * 3 + j % 3 = j := by omega
    rw [e9, hj] at h9
    have h8 := hf' (j / 3) hi (j % 3) u h9.symm
    rw [e9] at h8
    exact h8
set_option maxRecDepth 100000 in
theorem has_sys {H : Type} {enc : TypeId × Value → H} {W : World} {base : Nat} {v : Value} {d : DataW H} {ps : List MemPlace} (hok : Value.okWide Tryz.prog W .any base 24 v) (h : DataW.Trod enc Tryz.prog W 0 (fun _ => true) true 24 v d ps) :
    ∃ (n k s : Int) (u : Value) (es : List Sy.Ed), v = sysV n k s u ∧ HasE W u es ∧ es.length ≤ maxLen := by
  obtain ⟨v0, v1, v2, v3, y0, y1, y2, y3, f, rfl, _, _, t0, t1, t2, t3⟩ := Go.Joins.open_agg4 Tryz.underlying24 (by kernel_rfl) Tryz.cSys hok h
  obtain ⟨z0, e0, _⟩ := DataW.trod_int Tryz.underlying3 t0
  obtain ⟨z1, e1, _⟩ := DataW.trod_int Tryz.underlying3 t1
  obtain ⟨z2, e2, _⟩ := DataW.trod_int Tryz.underlying3 t2
  obtain rfl : v0 = .int .i64 z0 := by simpa using e0
  obtain rfl : v1 = .int .i64 z1 := by simpa using e1
  obtain rfl : v2 = .int .i64 z2 := by simpa using e2
  obtain ⟨es, h1, h2⟩ := edges_in t3
  exact ⟨z0, z1, z2, v3, es, rfl, h1, h2⟩
end
section
open Go.ChangeShapes Go.WideShapes Go.ChangeAt Go.WideMaps Go.WideElems Go.RowKit
theorem laid_tail9 {W : World} {x : String × DataW Unit} {r : List (String × DataW Unit)} (h : laidMet Tryz.prog (x :: r) W) : laidMet Tryz.prog r W := by
  obtain ⟨ps, ⟨g, t, cs, fuel, p, q, _, _, _, _, hr, rfl⟩, hn, ho⟩ := h
  exact ⟨q, hr, (List.nodup_append.1 hn).2.1, fun b off hb => ho b off (List.mem_append_right _ hb)⟩
theorem Tryz.gTab : Tryz.prog.globalNamed "math/bits.deBruijn64tab" = some 12 := by kernel_rfl
theorem Tryz.tTab : (Tryz.prog.globals[12]?).map (·.type) = some 209 := by kernel_rfl
theorem Tryz.cTabE : Tryz.prog.cellsOf 5 = 1 := by kernel_rfl
theorem Tryz.cTab : Tryz.prog.cellsOf 209 = 64 := by kernel_rfl
def tabZ : List Int := Lib.deBruijn64tab.map fun (n : Nat) => Int.ofNat n
theorem tabZ_at : ∀ j, j < 64 → tabZ.getD j 0 = ((Lib.deBruijn64tab.getD j 0 : Nat) : Int) := by decide +kernel
theorem tab_of {W : World} {r : List (String × DataW Unit)} (h : laidMet Tryz.prog (("math/bits.deBruijn64tab", Lib.tabData .u8 tabZ) :: r) W) : TabW W := fun j hj => by
  have h1 := (Lib.tabIs_of_head Tryz.gTab Tryz.tTab Tryz.underlying209 Tryz.underlying5 Tryz.cTabE Tryz.cTab h).cell Tryz.gTab j (by simpa [tabZ, Lib.deBruijn64tab] using hj)
  rw [tabZ_at j hj] at h1
  exact h1
abbrev eI9 (x : List UInt8) : DataW Unit := .iface "*errors.errorString" (.ptr (.agg [.lit (.string x)]))
theorem weak_of {W : World} {x0 x1 x2 x3 x4 : List UInt8} (h : laidMet Tryz.prog (("math/bits.deBruijn64tab", Lib.tabData .u8 tabZ) :: ("semblance/api.ErrArg", eI9 x0) :: ("semblance/api.ErrLong", eI9 x1) :: ("semblance/api.ErrIndex", eI9 x2) :: ("semblance/api.ErrEdges", eI9 x3) :: ("semblance/api.ErrSystem", eI9 x4) :: []) W) : ∃ a b, EnvW W a b := by
  obtain ⟨ps, h0, hnd, r0⟩ := laid_tail9 h
  obtain ⟨ads, h1, h2, _, _⟩ := laid_list [("semblance/api.ErrArg", 3, x0), ("semblance/api.ErrLong", 2, x1), ("semblance/api.ErrIndex", 1, x2), ("semblance/api.ErrEdges", 0, x3), ("semblance/api.ErrSystem", 11, x4)] ps (fun x hx => by
    simp only [List.mem_cons, List.not_mem_nil, or_false] at hx
    rcases hx with rfl | rfl | rfl | rfl | rfl
    all_goals exact ⟨by kernel_rfl, by kernel_rfl⟩) h0 r0
  have hl : ads.length = 5 := h1
  obtain ⟨a, ha⟩ : ∃ a, ads[4]? = some a := ⟨_, List.getElem?_eq_getElem (by omega)⟩
  obtain ⟨b, hb⟩ : ∃ a, ads[3]? = some a := ⟨_, List.getElem?_eq_getElem (by omega)⟩
  exact ⟨a, b, h2 4 _ a rfl ha, h2 3 _ b rfl hb, tab_of h⟩
theorem hasE_has9 {w : World} {v : Value} {es : List Sy.Ed} (h : HasE w v es) : BEdges.Has w v es := by
  obtain ⟨_, _, _, _, h⟩ := h
  exact h
end
end Go.Proofs.YthcpliinddjkhaaGreatDoor
