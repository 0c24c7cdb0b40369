/- Texts of this claim, joined: SgEdges, ErLaid, SgLaid, SyLent, SyArgI, SyArg. -/
import Derived.Test.YtkiapldehlnndabGreatDoorPart16
import Derived.Test.YtkiapldehlnndabGreatDoorRows
import Derived.Test.YtkiapldehlnndabGreatDoorPart0
import Derived.Test.YtkiapldehlnndabGreatDoorPart5
import Derived.ProofKit
import Derived.LaidMore
import Derived.Stop.LaidErr
import Derived.OpenShut
import Derived.Test.YtkiapldehlnndabGreatDoorPart2
import Derived.Lib.SmallJoins
import Derived.Deep.Slices
/- StrongEdges as a call. (Written by mkedges.py.) -/
namespace Go.Proofs.YtkiapldehlnndabGreatDoor
open Go.RowKit Go.Maps
attribute [local go_sem ↓] Go.wp_at_zero Go.wp_at_succ
set_option maxRecDepth 100000 in
set_option maxHeartbeats 16000000 in
set_option linter.unusedSimpArgs false in
theorem lawEdges_ok (hS : SortOk 1000000) (m kk : Nat) (s : Int) (v : Value) (es : List Sy.Ed) (by_ : Int) (aS aC a1 a3 : Addr) (w : World) (hA : PAl9 w) (hE : EnvS w aS aC a1 a3) (hv : HasE w v es) (hn : m ≤ 80) (hlen : es.length ≤ 600) (h0 : 0 < es.length) (hm0 : 0 < m) (hq : Sy.right m kk s es = true) :
    Calls Tryz.prog 4 #[sysV m kk s v, .int .i64 by_] w fun r w' => r = .returned (.bool true) ∧ Below w.heap.size w w' := by
  obtain ⟨i0, hi0, hz0, hz1, hz2⟩ := info_parts BEdges.Tryz.infoE
  obtain ⟨ao, cap, rfl, hcap, hH⟩ := hv
  obtain ⟨L, hL⟩ : ∃ L, L = es.length := ⟨_, rfl⟩
  rw [← hL] at hcap hlen h0 ⊢
  obtain ⟨z0, hz00⟩ : ∃ z, es[0]? = some z := ⟨es[0]'(by omega), List.getElem?_eq_getElem _⟩
  obtain ⟨a, rfl, _, _, _⟩ := edge_at hH hz00
  have HV : Hid (BEdges.Has w (.slice (some a) L cap) es ∧ L = es.length ∧ PAl9 w ∧ EnvS w aS aC a1 a3 ∧ Sy.right m kk s es = true) := (by rw [hL]; exact ⟨hH, rfl, hA, hE, hq⟩ : BEdges.Has w (.slice (some a) L cap) es ∧ L = es.length ∧ PAl9 w ∧ EnvS w aS aC a1 a3 ∧ Sy.right m kk s es = true)
  obtain ⟨wA, hwA⟩ : ∃ wA, wA = w.alloc (.cells #[.int .i64 m, .int .i64 kk, .int .i64 s, .slice (some a) L cap] 24) := ⟨_, rfl⟩
  have hbA : Below w.heap.size w wA := by rw [hwA]; exact (Below.refl _ _).alloc (Nat.le_refl _) _
  have hgA : wA.heap[w.heap.size]? = some (.cells #[.int .i64 m, .int .i64 kk, .int .i64 s, .slice (some a) L cap] 24 (0, 0)) := by rw [hwA]; exact heap_alloc_new w _
  have hsr := (right_parts hq).2.2.2.2.1 (by omega)
  have hCl := fun W (hb : Below wA.heap.size wA W) => sclasses_ok hS m kk s (.slice (some a) L cap) es aS W ((hE.below hbA).below hb).sy ((HV.out.1.below hbA).below hb) (by omega) hq
  have hSm := small_in m kk s (some a) L cap wA (by omega) (by omega)
  unfold sysV at hCl hSm ⊢
  have HA : Hid _ := And.intro hwA (And.intro hbA (And.intro hgA (And.intro hSm hCl)))
  obtain ⟨s0, s1, s2, s3⟩ := four_cellsB hgA
  have q1 : ((L : Int) == 0) = false := by simp; omega
  have q2 : ((m : Int) == 0) = false := by simp; omega
  have q3 : ¬ (L : Int) = 0 := by omega
  have q4 : ¬ L = 0 := by omega
  have q5 : ¬ (m : Int) = 0 := by omega
  have q6 : ¬ m = 0 := by omega
  have m1 : -(L : Int) < by_.tmod (L : Int) := by have := Int.lt_tmod_of_pos by_ (show (0 : Int) < L by omega); omega
  have m2 : by_.tmod (L : Int) < (L : Int) := Int.tmod_lt_of_pos by_ (by omega)
  obtain ⟨md, hmd⟩ : ∃ md, md = by_.tmod (L : Int) := ⟨_, rfl⟩
  have m3 : IntKind.i64.wrap md = md := by rw [IntKind.wrap_i64]; omega
  rw [← hmd] at m1 m2
  have m4 : by_.tmod (L : Int) = md := hmd.symm
  have m5 : IntKind.i64.wrap (md + (L : Int)) = md + (L : Int) := by rw [IntKind.wrap_i64]; omega
  obtain ⟨st, hst⟩ : ∃ st, st = (s + 1).tmod (m : Int) := ⟨_, rfl⟩
  have t1 : 0 ≤ st := by rw [hst]; exact Int.tmod_nonneg _ (by omega)
  have t2 : st < (m : Int) := by rw [hst]; exact Int.tmod_lt_of_pos _ (by omega)
  have t5 : (s + 1).tmod (m : Int) = st := hst.symm
  have t6 : IntKind.i64.wrap (s + 1) = s + 1 := by rw [IntKind.wrap_i64]; omega
  have t7 : IntKind.i64.wrap st = st := by rw [IntKind.wrap_i64]; omega
  clear hA hE hH hL hz00 hwA hbA hgA hmd hq hCl hSm hst hsr
  go_enter Tryz.func4, Tryz.ntmps4
  go_upto_region 1 with fail
  rw [← HA.out.1]
  go_wp2_with fail
  refine Calls.mono HA.out.2.2.2.1 ?_
  rintro r wB ⟨rfl, hbB⟩
  have HB : Hid _ := And.intro hbB (bup hbB HA.out.2.2.1)
  clear hbB s0 s1 s2 s3
  obtain ⟨s0, s1, s2, s3⟩ := four_cellsB HB.out.2
  go_wp2_with fail
  refine Calls.mono (HA.out.2.2.2.2 _ HB.out.1) ?_
  rintro r w1 ⟨uc, R, rfl, hR, hOc, hb1⟩
  have hcn : (natI (Ro.rnd m (fun i => Sy.rowOf m (Sy.nf es) (i : Int)) R)).length = m := by simp [natI, Ro.rnd_len]
  obtain ⟨ac, cc, huc⟩ := row_shape hOc
  rw [hcn] at huc
  subst huc
  have HW1 : Hid _ := And.intro (bel8 hb1 (bel8 HB.out.1 HA.out.2.1)) (And.intro (bel8 hb1 (bel8 HB.out.1 HA.out.2.1)) (And.intro (bup hb1 HB.out.2) (And.intro hR hOc.has)))
  clear hb1 hR hOc hcn s0 s1 s2 s3
  obtain ⟨s0, s1, s2, s3⟩ := four_cellsB HW1.out.2.2.1
  go_upto_if 40 with fail
  go_cut [7] (fun s7 wx => ∃ K : Nat, s7 = .int .i64 K ∧ K < L ∧ wx = w1)
  case first =>
    by_cases hneg : md < 0
    · go_wp2_with fail
      go_meet
      exact ⟨(md + L).toNat, by rw [Int.toNat_of_nonneg (by omega)], by omega, rfl⟩
    · go_wp2_with fail
      go_meet
      exact ⟨md.toNat, by rw [Int.toNat_of_nonneg (by omega)], by omega, rfl⟩
  case rest =>
    obtain ⟨K, rfl, hK, hwc⟩ := hcut
    obtain rfl := hwc.symm
    clear hwc
    obtain ⟨⟨x1, x2, x3⟩, hx⟩ : ∃ x, es[K]? = some x := ⟨es[K]'(by have := HV.out.2.1; omega), List.getElem?_eq_getElem _⟩
    obtain ⟨a', ha', e0, e1, e2⟩ := edge_at HV.out.1 hx
    obtain rfl : a = a' := Option.some.inj ha'
    simp only at e0 e1 e2
    have HEs : Hid _ := e0
    obtain ⟨w0, hw0⟩ : ∃ w0, w0 = w1.alloc (.cells #[.int .i64 m, .int .i64 kk, .int .i64 s, .slice (some a) L cap] 24) := ⟨_, rfl⟩
    have hb0 : Below w1.heap.size w1 w0 := by rw [hw0]; exact (Below.refl _ _).alloc (Nat.le_refl _) _
    have hgT0 : w0.heap[w1.heap.size]? = some (.cells #[.int .i64 m, .int .i64 kk, .int .i64 s, .slice (some a) L cap] 24 (0, 0)) := by rw [hw0]; exact heap_alloc_new w1 _
    have H0 : Hid _ := And.intro hw0 (And.intro hb0 hgT0)
    have f0 := cell_up s0 hb0
    have f2 := cell_up s2 hb0
    have g2 : w0.cell? ⟨w1.heap.size, 2, none⟩ = some (.int .i64 s) := cell0_of hgT0 rfl
    have gf2 := blk_free hgT0 2
    clear hw0 hb0 hgT0
    go_upto_region 10 with fail
    rw [← H0.out.1]
    obtain ⟨w2, hw2⟩ : ∃ w2, w2 = w0.setCell ⟨w1.heap.size, 2, none⟩ (.int .i64 st) := ⟨_, rfl⟩
    have hb2 : Below w1.heap.size w1 w2 := by rw [hw2]; exact H0.out.2.1.setCell (Nat.le_refl _) _
    have hgT : w2.heap[w1.heap.size]? = some (.cells #[.int .i64 m, .int .i64 kk, .int .i64 st, .slice (some a) L cap] 24 (0, 0)) := by rw [hw2]; exact heap_setCell_same w0 w1.heap.size 2 _ _ (.int .i64 st) H0.out.2.2
    have hb02 : Below w.heap.size w w2 := bel8 hb2 HW1.out.2.1
    have HW2 : Hid _ := And.intro hw2 (And.intro hb02 (And.intro hgT (And.intro (res_up7 hb2 HW1.out.2.2.1) (And.intro hx hb2))))
    have t3 := cell_up s3 hb2
    have e0 := cellu7 e0 hb02
    have e1 := cellu7 e1 hb02
    have e2 := cellu7 e2 hb02
    have p0 : (0 : Int) ≤ (K : Int) := by omega
    have p1 : (K : Int) < (L : Int) := by omega
    have p2 : (K : Int) ≤ (L : Int) := by omega
    have p3 : (K : Int) ≤ (cap : Int) := by omega
    have p4 : ¬ cap = K := by omega
    have p5 : (L : Int) ≤ (cap : Int) := by omega
    clear ha' hw2 hb2 hgT hb02 hx
    go_upto_region 11 with fail
    rw [← HW2.out.1]
    clear f0 f2 g2 gf2 t6 m4 m3 m5 s0 s1 s2 s3
    have hL' := HV.out.2.1
    have hw01 : w.heap.size < w1.heap.size := t_lt HW1.out.2.2.1
    have hK' : K < es.length := by omega
    have hl1 : (BEdges.C (es.drop K)).length = (L - K) * 3 := by rw [BEdges.C_len, List.length_drop]; omega
    have hl2 : (BEdges.C (es.take K)).length = K * 3 := by rw [BEdges.C_len, List.length_take]; omega
    have hm1 : L - K ≤ maxLen := by unfold maxLen; omega
    have hy1 : (L - K) * 24 ≤ 140737488355328 := by omega
    have hm2 : L - K + K ≤ maxLen := by unfold maxLen; omega
    have hy2 : (L - K + K) * 24 ≤ 140737488355328 := by omega
    have hm3 : L - K + K + 1 ≤ maxLen := by unfold maxLen; omega
    have hy3 : (L - K + K + 1) * 24 ≤ 140737488355328 := by omega
    have HN1 : Hid (∀ W, Below w2.heap.size w2 W → ∀ ad, some (a.add (K * 3)) = some ad → ∀ (j : Nat) (u : Value), (BEdges.C (es.drop K))[j]? = some u → W.cell? (ad.add j) = some u) := (fun W hW ad had j u hj => by
      obtain rfl := Option.some.inj had
      obtain ⟨ao2, cap2, hsl, hcs⟩ := HV.out.1.below (bel8 hW HW2.out.2.1)
      rw [C_drop, List.getElem?_drop] at hj
      obtain ⟨a2, ha2, hc2⟩ := hcs _ _ hj
      injection hsl with i1 i2 i3
      obtain rfl := Option.some.inj (i1.trans ha2)
      rw [BEdges.add_q]
      exact hc2 : ∀ W, Below w2.heap.size w2 W → ∀ ad, some (a.add (K * 3)) = some ad → ∀ (j : Nat) (u : Value), (BEdges.C (es.drop K))[j]? = some u → W.cell? (ad.add j) = some u)
    have HN2 : Hid (∀ W, Below w2.heap.size w2 W → ∀ (j : Nat) (u : Value), (BEdges.C (es.take K))[j]? = some u → W.cell? (a.add j) = some u) := (fun W hW j u hj => by
      obtain ⟨ao2, cap2, hsl, hcs⟩ := HV.out.1.below (bel8 hW HW2.out.2.1)
      have hlt := (List.getElem?_eq_some_iff.1 hj).1
      rw [C_take es K (by omega), List.getElem?_take_of_lt (by omega)] at hj
      obtain ⟨a2, ha2, hc2⟩ := hcs _ _ hj
      injection hsl with i1 i2 i3
      obtain rfl := Option.some.inj (i1.trans ha2)
      exact hc2 : ∀ W, Below w2.heap.size w2 W → ∀ (j : Nat) (u : Value), (BEdges.C (es.take K))[j]? = some u → W.cell? (a.add j) = some u)
    have HS : Hid (∀ W, Below w2.heap.size w2 W → (fun w' => w'.cell? ⟨w.heap.size, 3, none⟩ = some (.slice (some a) L cap) ∧ w'.cell? (a.add (K * 3)) = some (.int .i64 x1) ∧ w'.cell? ⟨(a.add (K * 3)).block, (a.add (K * 3)).off + 1, none⟩ = some (.int .i64 x2) ∧ w'.cell? ⟨(a.add (K * 3)).block, (a.add (K * 3)).off + 2, none⟩ = some (.int .i64 x3)) W) := (fun W hW => ⟨cell_up t3 hW, cellu7 e0 hW, cellu7 e1 hW, cellu7 e2 hW⟩ : ∀ W, Below w2.heap.size w2 W → (fun w' => w'.cell? ⟨w.heap.size, 3, none⟩ = some (.slice (some a) L cap) ∧ w'.cell? (a.add (K * 3)) = some (.int .i64 x1) ∧ w'.cell? ⟨(a.add (K * 3)).block, (a.add (K * 3)).off + 1, none⟩ = some (.int .i64 x2) ∧ w'.cell? ⟨(a.add (K * 3)).block, (a.add (K * 3)).off + 2, none⟩ = some (.int .i64 x3)) W)
    have hne : ¬ w.heap.size = w1.heap.size := by have := HW1.out.2.1.size; have := t_lt HW1.out.2.2.1; omega
    have hnb : (a.add (K * 3)).block ≠ w1.heap.size := by
      have h1 := World.block_lt_of_cell? w _ HEs.out
      have h2 := HW1.out.2.1.size
      omega
    have HSt : Hid (∀ W (u : Value), Below w2.heap.size w2 W → (fun w' => w'.cell? ⟨w.heap.size, 3, none⟩ = some (.slice (some a) L cap) ∧ w'.cell? (a.add (K * 3)) = some (.int .i64 x1) ∧ w'.cell? ⟨(a.add (K * 3)).block, (a.add (K * 3)).off + 1, none⟩ = some (.int .i64 x2) ∧ w'.cell? ⟨(a.add (K * 3)).block, (a.add (K * 3)).off + 2, none⟩ = some (.int .i64 x3)) (W.setCell ⟨w1.heap.size, 3, none⟩ u)) := (fun W u hW => by
      obtain ⟨j0, j1, j2, j3⟩ := HS.out W hW
      exact ⟨cellk7 j0 (fun e => hne e), cellk7 j1 hnb, cellk7 j2 hnb, cellk7 j3 hnb⟩ : ∀ W (u : Value), Below w2.heap.size w2 W → (fun w' => w'.cell? ⟨w.heap.size, 3, none⟩ = some (.slice (some a) L cap) ∧ w'.cell? (a.add (K * 3)) = some (.int .i64 x1) ∧ w'.cell? ⟨(a.add (K * 3)).block, (a.add (K * 3)).off + 1, none⟩ = some (.int .i64 x2) ∧ w'.cell? ⟨(a.add (K * 3)).block, (a.add (K * 3)).off + 2, none⟩ = some (.int .i64 x3)) (W.setCell ⟨w1.heap.size, 3, none⟩ u))
    clear hL' t3 hnb hne
    go_cut [71] (fun s71 wx => ShAt9 w w1 w2 wx m kk s st a L cap es K (x1, x2, x3))
    case first =>
      refine wp_region_held_drew (S := (fun w' => w'.cell? ⟨w.heap.size, 3, none⟩ = some (.slice (some a) L cap) ∧ w'.cell? (a.add (K * 3)) = some (.int .i64 x1) ∧ w'.cell? ⟨(a.add (K * 3)).block, (a.add (K * 3)).off + 1, none⟩ = some (.int .i64 x2) ∧ w'.cell? ⟨(a.add (K * 3)).block, (a.add (K * 3)).off + 2, none⟩ = some (.int .i64 x3))) (by kernel_rfl) ?_ (fun hHeld => ?_)
      · exact HS.out _ ((Below.refl _ _).drew)
      refine wpAnyH_take (i := 0) (oi := _) (v := ?_) rfl (by kernel_rfl) (by kernel_rfl) (by kernel_rfl) (fun _ _ _ h => h) (Or.inl ⟨by rfl, ?_⟩) (by assumption) ?_; rotate_left; (focus (intro w hSw; obtain ⟨v0, v1, v2, v3⟩ := hSw; go_simp; (try with_reducible rfl))); (try simp only [List.getElem_toArray, List.getElem_cons_succ, List.getElem_cons_zero, Act.put, List.setIfInBounds_toArray, List.set_cons_zero, List.set_cons_succ])
      refine wpAnyH_take (i := 1) (oi := _) (v := ?_) rfl (by kernel_rfl) (by kernel_rfl) (by kernel_rfl) (fun _ _ _ h => h) (Or.inl ⟨by rfl, ?_⟩) (by assumption) ?_; rotate_left; (focus (intro w hSw; obtain ⟨v0, v1, v2, v3⟩ := hSw; go_simp; (try with_reducible rfl))); (try simp only [List.getElem_toArray, List.getElem_cons_succ, List.getElem_cons_zero, Act.put, List.setIfInBounds_toArray, List.set_cons_zero, List.set_cons_succ])
      refine wpAnyH_take (i := 2) (oi := _) (v := ?_) rfl (by kernel_rfl) (by kernel_rfl) (by kernel_rfl) (fun _ _ _ h => h) (Or.inl ⟨by rfl, ?_⟩) (by assumption) ?_; rotate_left; (focus (intro w hSw; obtain ⟨v0, v1, v2, v3⟩ := hSw; go_simp; (try with_reducible rfl))); (try simp only [List.getElem_toArray, List.getElem_cons_succ, List.getElem_cons_zero, Act.put, List.setIfInBounds_toArray, List.set_cons_zero, List.set_cons_succ])
      refine wpAnyH_take (i := 3) (oi := _) (v := ?_) rfl (by kernel_rfl) (by kernel_rfl) (by kernel_rfl) (fun _ _ _ h => h) (Or.inl ⟨by rfl, ?_⟩) (by assumption) ?_; rotate_left; (focus (intro w hSw; obtain ⟨v0, v1, v2, v3⟩ := hSw; go_simp; (try with_reducible rfl))); (try simp only [List.getElem_toArray, List.getElem_cons_succ, List.getElem_cons_zero, Act.put, List.setIfInBounds_toArray, List.set_cons_zero, List.set_cons_succ])
      refine wpAnyH_take (i := 5) (oi := _) (v := ?_) rfl (by kernel_rfl) (by kernel_rfl) (by kernel_rfl) (fun _ _ _ h => h) (Or.inl ⟨by rfl, ?_⟩) (by assumption) ?_; rotate_left; (focus (intro w hSw; obtain ⟨v0, v1, v2, v3⟩ := hSw; go_simp; (try with_reducible rfl))); (try simp only [List.getElem_toArray, List.getElem_cons_succ, List.getElem_cons_zero, Act.put, List.setIfInBounds_toArray, List.set_cons_zero, List.set_cons_succ])
      refine wpAnyH_take (i := 6) (oi := _) (v := ?_) rfl (by kernel_rfl) (by kernel_rfl) (by kernel_rfl) (fun _ _ _ h => h) (Or.inl ⟨by rfl, ?_⟩) (by assumption) ?_; rotate_left; (focus (intro w hSw; obtain ⟨v0, v1, v2, v3⟩ := hSw; go_simp; (try with_reducible rfl))); (try simp only [List.getElem_toArray, List.getElem_cons_succ, List.getElem_cons_zero, Act.put, List.setIfInBounds_toArray, List.set_cons_zero, List.set_cons_succ])
      refine wpAnyH_take (i := 7) (oi := _) (v := ?_) rfl (by kernel_rfl) (by kernel_rfl) (by kernel_rfl) (fun _ _ _ h => h) (Or.inl ⟨by rfl, ?_⟩) (by assumption) ?_; rotate_left; (focus (intro w hSw; obtain ⟨v0, v1, v2, v3⟩ := hSw; go_simp; (try with_reducible rfl))); (try simp only [List.getElem_toArray, List.getElem_cons_succ, List.getElem_cons_zero, Act.put, List.setIfInBounds_toArray, List.set_cons_zero, List.set_cons_succ])
      refine wpAnyH_take (i := 8) (oi := _) (v := ?_) rfl (by kernel_rfl) (by kernel_rfl) (by kernel_rfl) (fun _ _ _ h => h) (Or.inl ⟨by rfl, ?_⟩) (by assumption) ?_; rotate_left; (focus (intro w hSw; obtain ⟨v0, v1, v2, v3⟩ := hSw; go_simp; (try with_reducible rfl))); (try simp only [List.getElem_toArray, List.getElem_cons_succ, List.getElem_cons_zero, Act.put, List.setIfInBounds_toArray, List.set_cons_zero, List.set_cons_succ])
      refine wpAnyH_take (i := 10) (oi := _) (v := ?_) rfl (by kernel_rfl) (by kernel_rfl) (by kernel_rfl) (fun _ _ _ h => h) (Or.inl ⟨by rfl, ?_⟩) (by assumption) ?_; rotate_left; (focus (intro w hSw; obtain ⟨v0, v1, v2, v3⟩ := hSw; go_simp; (try with_reducible rfl))); (try simp only [List.getElem_toArray, List.getElem_cons_succ, List.getElem_cons_zero, Act.put, List.setIfInBounds_toArray, List.set_cons_zero, List.set_cons_succ])
      refine wpAnyH_take (i := 11) (oi := _) (v := ?_) rfl (by kernel_rfl) (by kernel_rfl) (by kernel_rfl) (fun _ _ _ h => h) (Or.inl ⟨by rfl, ?_⟩) (by assumption) ?_; rotate_left; (focus (intro w hSw; obtain ⟨v0, v1, v2, v3⟩ := hSw; go_simp; (try with_reducible rfl))); (try simp only [List.getElem_toArray, List.getElem_cons_succ, List.getElem_cons_zero, Act.put, List.setIfInBounds_toArray, List.set_cons_zero, List.set_cons_succ])
      refine wpAnyH_take (i := 12) (oi := _) (v := ?_) rfl (by kernel_rfl) (by kernel_rfl) (by kernel_rfl) (fun _ _ _ h => h) (Or.inl ⟨by rfl, ?_⟩) (by assumption) ?_; rotate_left; (focus (intro w hSw; obtain ⟨v0, v1, v2, v3⟩ := hSw; go_simp; (try with_reducible rfl))); (try simp only [List.getElem_toArray, List.getElem_cons_succ, List.getElem_cons_zero, Act.put, List.setIfInBounds_toArray, List.set_cons_zero, List.set_cons_succ])
      refine wpAnyH_take (i := 13) (oi := _) (v := ?_) rfl (by kernel_rfl) (by kernel_rfl) (by kernel_rfl) (fun _ _ _ h => h) (Or.inl ⟨by rfl, ?_⟩) (by assumption) ?_; rotate_left; (focus (intro w hSw; obtain ⟨v0, v1, v2, v3⟩ := hSw; go_simp; (try with_reducible rfl))); (try simp only [List.getElem_toArray, List.getElem_cons_succ, List.getElem_cons_zero, Act.put, List.setIfInBounds_toArray, List.set_cons_zero, List.set_cons_succ])
      refine wpAnyH_take (i := 14) (oi := _) (v := ?_) rfl (by kernel_rfl) (by kernel_rfl) (by kernel_rfl) (fun _ _ _ h => h) (Or.inl ⟨by rfl, ?_⟩) (by assumption) ?_; rotate_left; (focus (intro w hSw; obtain ⟨v0, v1, v2, v3⟩ := hSw; go_simp; (try with_reducible rfl))); (try simp only [List.getElem_toArray, List.getElem_cons_succ, List.getElem_cons_zero, Act.put, List.setIfInBounds_toArray, List.set_cons_zero, List.set_cons_succ])
      refine wpAnyH_ready (rs := [4, 15]) (by kernel_rfl) (by simp) ?_
      refine AllReadyH.cons (o := _) rfl (fun KK hKK => ?_) ?_
      · refine step_copy_at _ (by rfl) _ _ _ (by rfl) w2.heap.size 33 i0 _ 3 24 Tryz.underlying22 hi0 hz0 hz1 hz2 rfl (by decide) (by rfl) (some (a.add (K * 3))) (L - K) (cap - K) (BEdges.C (es.drop K)) (by rfl) (by simp) hl1 (HN1.out _ (by repeat (first | exact Below.refl _ _ | assumption | refine Below.drew ?_ | refine Below.alloc ?_ (by first | (simp; done) | (simp; omega) | omega) _))) (BEdges.C_one _) hm1 hy1 (by first | (simp; done) | (simp; omega) | omega) ?_
        intro v9 w9 hO9 hg9
        have hb9 : Below w2.heap.size w2 w9 := bel8 (tgrown0 hg9) (by repeat (first | exact Below.refl _ _ | assumption | refine Below.drew ?_ | refine Below.alloc ?_ (by first | (simp; done) | (simp; omega) | omega) _))
        have hz9 := hb9.size
        obtain ⟨a9, k9, rfl⟩ := row_shape hO9
        have H9 : Hid (w9.ownsRow w2.heap.size 33 3 (.slice a9 (L - K) k9) (L - K) (BEdges.C (es.drop K)) ∧ Below w2.heap.size w2 w9) := ⟨hO9, hb9⟩
        clear hO9 hg9
        refine hKK.out _ _ ?_ (fun hHeld => ?_)
        · exact HS.out _ (by repeat (first | exact Below.refl _ _ | assumption | refine Below.drew ?_ | refine Below.alloc ?_ (by first | (simp; done) | (simp; omega) | omega) _))
        clear hKK KK
        (try simp only [List.getElem_toArray, List.getElem_cons_succ, List.getElem_cons_zero, Act.put, List.setIfInBounds_toArray, List.set_cons_zero, List.set_cons_succ])
        refine wpAnyH_ready (rs := [9, 15]) (by kernel_rfl) (by simp) ?_
        refine AllReadyH.cons (o := _) rfl (fun KK hKK => ?_) ?_
        · refine step_append_own_at _ (by rfl) _ _ _ (by rfl) w2.heap.size 33 i0 _ 3 24 Tryz.underlying22 hi0 hz0 hz1 hz2 rfl (by decide) (.slice a9 (L - K) k9) (L - K) (BEdges.C (es.drop K)) (by rfl) (by first | exact H9.out.1 | exact H9.out.1.alloc _) a K cap (BEdges.C (es.take K)) (by rfl) hl2 (HN2.out _ (by repeat (first | exact Below.refl _ _ | assumption | refine Below.drew ?_ | refine Below.alloc ?_ (by first | (simp; done) | (simp; omega) | omega) _))) (BEdges.C_one _) hm2 hy2 (by first | (simp; done) | (simp; omega) | omega) ?_
          intro v7 w7 hO7 hg7
          have hb7 : Below w2.heap.size w2 w7 := ((by repeat (first | exact Below.refl _ _ | assumption | refine Below.drew ?_ | refine Below.alloc ?_ (by first | (simp; done) | (simp; omega) | omega) _)) : Below w2.heap.size w2 w9).trans ((Kept.of_grown hg7).below (by first | (simp; done) | (simp; omega) | omega) fun b hb => (H9.out.1.lt b hb).1)
          have hz7 := hb7.size
          obtain ⟨a7, k7, rfl⟩ := row_shape hO7
          have H7 : Hid (w7.ownsRow w2.heap.size 33 3 (.slice a7 (L - K + K) k7) (L - K + K) (BEdges.C (es.drop K) ++ BEdges.C (es.take K)) ∧ Below w2.heap.size w2 w7) := ⟨hO7, hb7⟩
          clear hO7 hg7
          refine hKK.out _ _ ?_ (fun hHeld => ?_)
          · exact HS.out _ (by repeat (first | exact Below.refl _ _ | assumption | refine Below.drew ?_ | refine Below.alloc ?_ (by first | (simp; done) | (simp; omega) | omega) _))
          clear hKK KK
          (try simp only [List.getElem_toArray, List.getElem_cons_succ, List.getElem_cons_zero, Act.put, List.setIfInBounds_toArray, List.set_cons_zero, List.set_cons_succ])
          refine wpAnyH_ready (rs := [15]) (by kernel_rfl) (by simp) ?_
          refine AllReadyH.cons (o := _) rfl (fun KK hKK => ?_) ?_
          · go_simp
            refine hKK.out _ _ ?_ (fun hHeld => ?_)
            · exact HS.out _ (by repeat (first | exact Below.refl _ _ | assumption | refine Below.drew ?_ | refine Below.alloc ?_ (by first | (simp; done) | (simp; omega) | omega) _))
            clear hKK KK
            (try simp only [List.getElem_toArray, List.getElem_cons_succ, List.getElem_cons_zero, Act.put, List.setIfInBounds_toArray, List.set_cons_zero, List.set_cons_succ])
            refine wpAnyH_ready (rs := [16]) (by kernel_rfl) (by simp) ?_
            refine AllReadyH.cons (o := _) rfl (fun KK hKK => ?_) ?_
            · refine step_append_own_at _ (by rfl) _ _ _ (by rfl) w2.heap.size 33 i0 _ 3 24 Tryz.underlying22 hi0 hz0 hz1 hz2 rfl (by decide) (.slice a7 (L - K + K) k7) (L - K + K) (BEdges.C (es.drop K) ++ BEdges.C (es.take K)) (by rfl) (by first | exact H7.out.1 | exact H7.out.1.alloc _) ⟨w7.heap.size, 0, none⟩ 1 1 [.int .i64 x1, .int .i64 x2, .int .i64 x3] (by rfl) (by rfl) (World.news_of_block (cs := #[.int .i64 x1, .int .i64 x2, .int .i64 x3]) (t := 33) (fr := (0, 0)) (heap_alloc_new w7 _)) (by simp [Value.oneCell']) hm3 hy3 (by first | (simp; done) | (simp; omega) | omega) ?_
              intro v6 w6 hO6 hg6
              have hb6 : Below w2.heap.size w2 w6 := ((by repeat (first | exact Below.refl _ _ | assumption | refine Below.drew ?_ | refine Below.alloc ?_ (by first | (simp; done) | (simp; omega) | omega) _)) : Below w2.heap.size w2 (w7.alloc (.cells #[.int .i64 x1, .int .i64 x2, .int .i64 x3] 33))).trans ((Kept.of_grown hg6).below (by first | (simp; done) | (simp; omega) | omega) fun b hb => (H7.out.1.lt b hb).1)
              obtain ⟨a6, k6, rfl⟩ := row_shape hO6
              have H6 : Hid (w6.ownsRow w2.heap.size 33 3 (.slice a6 (L - K + K + 1) k6) (L - K + K + 1) (BEdges.C (es.drop K) ++ BEdges.C (es.take K) ++ [.int .i64 x1, .int .i64 x2, .int .i64 x3]) ∧ Below w2.heap.size w2 w6) := ⟨hO6, hb6⟩
              have g3 := cell0_of (k := 3) (res_up7 hb6 HW2.out.2.2.1) rfl
              have gf := blk_free (res_up7 hb6 HW2.out.2.2.1) 3
              clear hO6 hg6
              refine hKK.out _ _ ?_ (fun hHeld => ?_)
              · exact HS.out _ (by repeat (first | exact Below.refl _ _ | assumption | refine Below.drew ?_ | refine Below.alloc ?_ (by first | (simp; done) | (simp; omega) | omega) _))
              clear hKK KK
              (try simp only [List.getElem_toArray, List.getElem_cons_succ, List.getElem_cons_zero, Act.put, List.setIfInBounds_toArray, List.set_cons_zero, List.set_cons_succ])
              refine wpAnyH_take (i := 17) (oi := _) (v := ?_) rfl (by kernel_rfl) (by kernel_rfl) (by kernel_rfl) (fun _ _ _ h => h) (Or.inl ⟨by rfl, ?_⟩) (by assumption) ?_; rotate_left; (focus (intro w hSw; obtain ⟨v0, v1, v2, v3⟩ := hSw; go_simp; (try with_reducible rfl))); (try simp only [List.getElem_toArray, List.getElem_cons_succ, List.getElem_cons_zero, Act.put, List.setIfInBounds_toArray, List.set_cons_zero, List.set_cons_succ])
              refine wpAnyH_ready (rs := [18]) (by kernel_rfl) (by simp) ?_
              refine AllReadyH.cons (o := _) rfl (fun KK hKK => ?_) ?_
              · go_simp
                refine hKK.out _ _ ?_ (fun hHeld => ?_)
                · exact HSt.out _ _ hb6
                clear hKK KK
                (try simp only [List.getElem_toArray, List.getElem_cons_succ, List.getElem_cons_zero, Act.put, List.setIfInBounds_toArray, List.set_cons_zero, List.set_cons_succ])
                refine wpAnyH_done (by kernel_rfl) ?_ _
                (try go_simp)
                (refine Met.intro ?_; apply_assumption; refine Met.intro ?_; apply_assumption; (repeat apply Exists.intro); refine ⟨?rel, rfl⟩; case rel => exact shAt9_of HW2.out.2.2.1 HW2.out.2.2.2.1 HW2.out.2.2.2.2.2 HV.out.2.1 hw01 hK' H6.out.1 H6.out.2)
              exact AllReadyH.nil
            exact AllReadyH.nil
          exact AllReadyH.nil
        refine AllReadyH.cons (o := _) rfl (fun KK hKK => ?_) ?_
        · go_simp
          refine hKK.out _ _ ?_ (fun hHeld => ?_)
          · exact HS.out _ (by repeat (first | exact Below.refl _ _ | assumption | refine Below.drew ?_ | refine Below.alloc ?_ (by first | (simp; done) | (simp; omega) | omega) _))
          clear hKK KK
          (try simp only [List.getElem_toArray, List.getElem_cons_succ, List.getElem_cons_zero, Act.put, List.setIfInBounds_toArray, List.set_cons_zero, List.set_cons_succ])
          refine wpAnyH_ready (rs := [9]) (by kernel_rfl) (by simp) ?_
          refine AllReadyH.cons (o := _) rfl (fun KK hKK => ?_) ?_
          · refine step_append_own_at _ (by rfl) _ _ _ (by rfl) w2.heap.size 33 i0 _ 3 24 Tryz.underlying22 hi0 hz0 hz1 hz2 rfl (by decide) (.slice a9 (L - K) k9) (L - K) (BEdges.C (es.drop K)) (by rfl) (by first | exact H9.out.1 | exact H9.out.1.alloc _) a K cap (BEdges.C (es.take K)) (by rfl) hl2 (HN2.out _ (by repeat (first | exact Below.refl _ _ | assumption | refine Below.drew ?_ | refine Below.alloc ?_ (by first | (simp; done) | (simp; omega) | omega) _))) (BEdges.C_one _) hm2 hy2 (by first | (simp; done) | (simp; omega) | omega) ?_
            intro v7 w7 hO7 hg7
            have hb7 : Below w2.heap.size w2 w7 := ((by repeat (first | exact Below.refl _ _ | assumption | refine Below.drew ?_ | refine Below.alloc ?_ (by first | (simp; done) | (simp; omega) | omega) _)) : Below w2.heap.size w2 (w9.alloc (.cells #[.int .i64 x1, .int .i64 x2, .int .i64 x3] 33))).trans ((Kept.of_grown hg7).below (by first | (simp; done) | (simp; omega) | omega) fun b hb => (H9.out.1.lt b hb).1)
            have hz7 := hb7.size
            obtain ⟨a7, k7, rfl⟩ := row_shape hO7
            have H7 : Hid (w7.ownsRow w2.heap.size 33 3 (.slice a7 (L - K + K) k7) (L - K + K) (BEdges.C (es.drop K) ++ BEdges.C (es.take K)) ∧ Below w2.heap.size w2 w7) := ⟨hO7, hb7⟩
            have hX : w7.heap[w9.heap.size]? = some (.cells #[.int .i64 x1, .int .i64 x2, .int .i64 x3] 33 (0, 0)) := ((Kept.of_grown hg7).block _ (by simp) (fun e => by have := (H9.out.1.lt _ e).2; omega)).trans (heap_alloc_new w9 _)
            clear hO7 hg7
            refine hKK.out _ _ ?_ (fun hHeld => ?_)
            · exact HS.out _ (by repeat (first | exact Below.refl _ _ | assumption | refine Below.drew ?_ | refine Below.alloc ?_ (by first | (simp; done) | (simp; omega) | omega) _))
            clear hKK KK
            (try simp only [List.getElem_toArray, List.getElem_cons_succ, List.getElem_cons_zero, Act.put, List.setIfInBounds_toArray, List.set_cons_zero, List.set_cons_succ])
            refine wpAnyH_ready (rs := [16]) (by kernel_rfl) (by simp) ?_
            refine AllReadyH.cons (o := _) rfl (fun KK hKK => ?_) ?_
            · refine step_append_own_at _ (by rfl) _ _ _ (by rfl) w2.heap.size 33 i0 _ 3 24 Tryz.underlying22 hi0 hz0 hz1 hz2 rfl (by decide) (.slice a7 (L - K + K) k7) (L - K + K) (BEdges.C (es.drop K) ++ BEdges.C (es.take K)) (by rfl) (by first | exact H7.out.1 | exact H7.out.1.alloc _) ⟨w9.heap.size, 0, none⟩ 1 1 [.int .i64 x1, .int .i64 x2, .int .i64 x3] (by rfl) (by rfl) (World.news_of_block (cs := #[.int .i64 x1, .int .i64 x2, .int .i64 x3]) (t := 33) (fr := (0, 0)) hX) (by simp [Value.oneCell']) hm3 hy3 (by first | (simp; done) | (simp; omega) | omega) ?_
              intro v6 w6 hO6 hg6
              have hb6 : Below w2.heap.size w2 w6 := ((by repeat (first | exact Below.refl _ _ | assumption | refine Below.drew ?_ | refine Below.alloc ?_ (by first | (simp; done) | (simp; omega) | omega) _)) : Below w2.heap.size w2 w7).trans ((Kept.of_grown hg6).below (by first | (simp; done) | (simp; omega) | omega) fun b hb => (H7.out.1.lt b hb).1)
              obtain ⟨a6, k6, rfl⟩ := row_shape hO6
              have H6 : Hid (w6.ownsRow w2.heap.size 33 3 (.slice a6 (L - K + K + 1) k6) (L - K + K + 1) (BEdges.C (es.drop K) ++ BEdges.C (es.take K) ++ [.int .i64 x1, .int .i64 x2, .int .i64 x3]) ∧ Below w2.heap.size w2 w6) := ⟨hO6, hb6⟩
              have g3 := cell0_of (k := 3) (res_up7 hb6 HW2.out.2.2.1) rfl
              have gf := blk_free (res_up7 hb6 HW2.out.2.2.1) 3
              clear hO6 hg6
              refine hKK.out _ _ ?_ (fun hHeld => ?_)
              · exact HS.out _ (by repeat (first | exact Below.refl _ _ | assumption | refine Below.drew ?_ | refine Below.alloc ?_ (by first | (simp; done) | (simp; omega) | omega) _))
              clear hKK KK
              (try simp only [List.getElem_toArray, List.getElem_cons_succ, List.getElem_cons_zero, Act.put, List.setIfInBounds_toArray, List.set_cons_zero, List.set_cons_succ])
              refine wpAnyH_take (i := 17) (oi := _) (v := ?_) rfl (by kernel_rfl) (by kernel_rfl) (by kernel_rfl) (fun _ _ _ h => h) (Or.inl ⟨by rfl, ?_⟩) (by assumption) ?_; rotate_left; (focus (intro w hSw; obtain ⟨v0, v1, v2, v3⟩ := hSw; go_simp; (try with_reducible rfl))); (try simp only [List.getElem_toArray, List.getElem_cons_succ, List.getElem_cons_zero, Act.put, List.setIfInBounds_toArray, List.set_cons_zero, List.set_cons_succ])
              refine wpAnyH_ready (rs := [18]) (by kernel_rfl) (by simp) ?_
              refine AllReadyH.cons (o := _) rfl (fun KK hKK => ?_) ?_
              · go_simp
                refine hKK.out _ _ ?_ (fun hHeld => ?_)
                · exact HSt.out _ _ hb6
                clear hKK KK
                (try simp only [List.getElem_toArray, List.getElem_cons_succ, List.getElem_cons_zero, Act.put, List.setIfInBounds_toArray, List.set_cons_zero, List.set_cons_succ])
                refine wpAnyH_done (by kernel_rfl) ?_ _
                (try go_simp)
                (refine Met.intro ?_; apply_assumption; refine Met.intro ?_; apply_assumption; (repeat apply Exists.intro); refine ⟨?rel, rfl⟩; case rel => exact shAt9_of HW2.out.2.2.1 HW2.out.2.2.2.1 HW2.out.2.2.2.2.2 HV.out.2.1 hw01 hK' H6.out.1 H6.out.2)
              exact AllReadyH.nil
            exact AllReadyH.nil
          exact AllReadyH.nil
        exact AllReadyH.nil
      refine AllReadyH.cons (o := _) rfl (fun KK hKK => ?_) ?_
      · go_simp
        refine hKK.out _ _ ?_ (fun hHeld => ?_)
        · exact HS.out _ (by repeat (first | exact Below.refl _ _ | assumption | refine Below.drew ?_ | refine Below.alloc ?_ (by first | (simp; done) | (simp; omega) | omega) _))
        clear hKK KK
        (try simp only [List.getElem_toArray, List.getElem_cons_succ, List.getElem_cons_zero, Act.put, List.setIfInBounds_toArray, List.set_cons_zero, List.set_cons_succ])
        refine wpAnyH_ready (rs := [4]) (by kernel_rfl) (by simp) ?_
        refine AllReadyH.cons (o := _) rfl (fun KK hKK => ?_) ?_
        · refine step_copy_at _ (by rfl) _ _ _ (by rfl) (w2.heap.size + 1) 33 i0 _ 3 24 Tryz.underlying22 hi0 hz0 hz1 hz2 rfl (by decide) (by rfl) (some (a.add (K * 3))) (L - K) (cap - K) (BEdges.C (es.drop K)) (by rfl) (by simp) hl1 (HN1.out _ (by repeat (first | exact Below.refl _ _ | assumption | refine Below.drew ?_ | refine Below.alloc ?_ (by first | (simp; done) | (simp; omega) | omega) _))) (BEdges.C_one _) hm1 hy1 (by first | (simp; done) | (simp; omega) | omega) ?_
          intro v9 w9 hO9 hg9
          have hN9 : ∀ b, v9.ownBlock = some b → w2.heap.size + 1 ≤ b := fun b hb => (hO9.lt b hb).1
          have hO9 := row_base hO9 (Nat.le_succ w2.heap.size)
          have hb9 : Below w2.heap.size w2 w9 := bel8 (tgrown0 hg9) (by repeat (first | exact Below.refl _ _ | assumption | refine Below.drew ?_ | refine Below.alloc ?_ (by first | (simp; done) | (simp; omega) | omega) _))
          have hz9 := hb9.size
          obtain ⟨a9, k9, rfl⟩ := row_shape hO9
          have H9 : Hid (w9.ownsRow w2.heap.size 33 3 (.slice a9 (L - K) k9) (L - K) (BEdges.C (es.drop K)) ∧ Below w2.heap.size w2 w9) := ⟨hO9, hb9⟩
          have hX9 : w9.heap[w2.heap.size]? = some (.cells #[.int .i64 x1, .int .i64 x2, .int .i64 x3] 33 (0, 0)) := ((tgrown0 hg9).block _ (by simp)).trans (heap_alloc_new w2 _)
          clear hO9 hg9
          refine hKK.out _ _ ?_ (fun hHeld => ?_)
          · exact HS.out _ (by repeat (first | exact Below.refl _ _ | assumption | refine Below.drew ?_ | refine Below.alloc ?_ (by first | (simp; done) | (simp; omega) | omega) _))
          clear hKK KK
          (try simp only [List.getElem_toArray, List.getElem_cons_succ, List.getElem_cons_zero, Act.put, List.setIfInBounds_toArray, List.set_cons_zero, List.set_cons_succ])
          refine wpAnyH_ready (rs := [9]) (by kernel_rfl) (by simp) ?_
          refine AllReadyH.cons (o := _) rfl (fun KK hKK => ?_) ?_
          · refine step_append_own_at _ (by rfl) _ _ _ (by rfl) w2.heap.size 33 i0 _ 3 24 Tryz.underlying22 hi0 hz0 hz1 hz2 rfl (by decide) (.slice a9 (L - K) k9) (L - K) (BEdges.C (es.drop K)) (by rfl) (by first | exact H9.out.1 | exact H9.out.1.alloc _) a K cap (BEdges.C (es.take K)) (by rfl) hl2 (HN2.out _ (by repeat (first | exact Below.refl _ _ | assumption | refine Below.drew ?_ | refine Below.alloc ?_ (by first | (simp; done) | (simp; omega) | omega) _))) (BEdges.C_one _) hm2 hy2 (by first | (simp; done) | (simp; omega) | omega) ?_
            intro v7 w7 hO7 hg7
            have hb7 : Below w2.heap.size w2 w7 := ((by repeat (first | exact Below.refl _ _ | assumption | refine Below.drew ?_ | refine Below.alloc ?_ (by first | (simp; done) | (simp; omega) | omega) _)) : Below w2.heap.size w2 w9).trans ((Kept.of_grown hg7).below (by first | (simp; done) | (simp; omega) | omega) fun b hb => (H9.out.1.lt b hb).1)
            have hz7 := hb7.size
            obtain ⟨a7, k7, rfl⟩ := row_shape hO7
            have H7 : Hid (w7.ownsRow w2.heap.size 33 3 (.slice a7 (L - K + K) k7) (L - K + K) (BEdges.C (es.drop K) ++ BEdges.C (es.take K)) ∧ Below w2.heap.size w2 w7) := ⟨hO7, hb7⟩
            have hX : w7.heap[w2.heap.size]? = some (.cells #[.int .i64 x1, .int .i64 x2, .int .i64 x3] 33 (0, 0)) := ((Kept.of_grown hg7).block _ (t_lt hX9) (fun e => by have := hN9 _ e; omega)).trans hX9
            clear hO7 hg7
            refine hKK.out _ _ ?_ (fun hHeld => ?_)
            · exact HS.out _ (by repeat (first | exact Below.refl _ _ | assumption | refine Below.drew ?_ | refine Below.alloc ?_ (by first | (simp; done) | (simp; omega) | omega) _))
            clear hKK KK
            (try simp only [List.getElem_toArray, List.getElem_cons_succ, List.getElem_cons_zero, Act.put, List.setIfInBounds_toArray, List.set_cons_zero, List.set_cons_succ])
            refine wpAnyH_ready (rs := [16]) (by kernel_rfl) (by simp) ?_
            refine AllReadyH.cons (o := _) rfl (fun KK hKK => ?_) ?_
            · refine step_append_own_at _ (by rfl) _ _ _ (by rfl) w2.heap.size 33 i0 _ 3 24 Tryz.underlying22 hi0 hz0 hz1 hz2 rfl (by decide) (.slice a7 (L - K + K) k7) (L - K + K) (BEdges.C (es.drop K) ++ BEdges.C (es.take K)) (by rfl) (by first | exact H7.out.1 | exact H7.out.1.alloc _) ⟨w2.heap.size, 0, none⟩ 1 1 [.int .i64 x1, .int .i64 x2, .int .i64 x3] (by rfl) (by rfl) (World.news_of_block (cs := #[.int .i64 x1, .int .i64 x2, .int .i64 x3]) (t := 33) (fr := (0, 0)) hX) (by simp [Value.oneCell']) hm3 hy3 (by first | (simp; done) | (simp; omega) | omega) ?_
              intro v6 w6 hO6 hg6
              have hb6 : Below w2.heap.size w2 w6 := ((by repeat (first | exact Below.refl _ _ | assumption | refine Below.drew ?_ | refine Below.alloc ?_ (by first | (simp; done) | (simp; omega) | omega) _)) : Below w2.heap.size w2 w7).trans ((Kept.of_grown hg6).below (by first | (simp; done) | (simp; omega) | omega) fun b hb => (H7.out.1.lt b hb).1)
              obtain ⟨a6, k6, rfl⟩ := row_shape hO6
              have H6 : Hid (w6.ownsRow w2.heap.size 33 3 (.slice a6 (L - K + K + 1) k6) (L - K + K + 1) (BEdges.C (es.drop K) ++ BEdges.C (es.take K) ++ [.int .i64 x1, .int .i64 x2, .int .i64 x3]) ∧ Below w2.heap.size w2 w6) := ⟨hO6, hb6⟩
              have g3 := cell0_of (k := 3) (res_up7 hb6 HW2.out.2.2.1) rfl
              have gf := blk_free (res_up7 hb6 HW2.out.2.2.1) 3
              clear hO6 hg6
              refine hKK.out _ _ ?_ (fun hHeld => ?_)
              · exact HS.out _ (by repeat (first | exact Below.refl _ _ | assumption | refine Below.drew ?_ | refine Below.alloc ?_ (by first | (simp; done) | (simp; omega) | omega) _))
              clear hKK KK
              (try simp only [List.getElem_toArray, List.getElem_cons_succ, List.getElem_cons_zero, Act.put, List.setIfInBounds_toArray, List.set_cons_zero, List.set_cons_succ])
              refine wpAnyH_take (i := 17) (oi := _) (v := ?_) rfl (by kernel_rfl) (by kernel_rfl) (by kernel_rfl) (fun _ _ _ h => h) (Or.inl ⟨by rfl, ?_⟩) (by assumption) ?_; rotate_left; (focus (intro w hSw; obtain ⟨v0, v1, v2, v3⟩ := hSw; go_simp; (try with_reducible rfl))); (try simp only [List.getElem_toArray, List.getElem_cons_succ, List.getElem_cons_zero, Act.put, List.setIfInBounds_toArray, List.set_cons_zero, List.set_cons_succ])
              refine wpAnyH_ready (rs := [18]) (by kernel_rfl) (by simp) ?_
              refine AllReadyH.cons (o := _) rfl (fun KK hKK => ?_) ?_
              · go_simp
                refine hKK.out _ _ ?_ (fun hHeld => ?_)
                · exact HSt.out _ _ hb6
                clear hKK KK
                (try simp only [List.getElem_toArray, List.getElem_cons_succ, List.getElem_cons_zero, Act.put, List.setIfInBounds_toArray, List.set_cons_zero, List.set_cons_succ])
                refine wpAnyH_done (by kernel_rfl) ?_ _
                (try go_simp)
                (refine Met.intro ?_; apply_assumption; refine Met.intro ?_; apply_assumption; (repeat apply Exists.intro); refine ⟨?rel, rfl⟩; case rel => exact shAt9_of HW2.out.2.2.1 HW2.out.2.2.2.1 HW2.out.2.2.2.2.2 HV.out.2.1 hw01 hK' H6.out.1 H6.out.2)
              exact AllReadyH.nil
            exact AllReadyH.nil
          exact AllReadyH.nil
        exact AllReadyH.nil
      exact AllReadyH.nil
    case rest =>
      obtain ⟨⟨u, hT, hO⟩, hSb, hbl⟩ := hcut
      have hsl : (Sy.shuf es K (x1, x2, x3)).length ≤ 601 := by
        unfold Sy.shuf
        simp only [List.length_append, List.length_drop, List.length_take, List.length_singleton]
        have := HV.out.2.1
        omega
      have hmem := fun y => Sy.shuf_mem HW2.out.2.2.2.2.1 y
      have hrt : Sy.right m kk st (Sy.shuf es K (x1, x2, x3)) = true := by
        rw [← Sy.right_congr hmem (by have := HV.out.2.1; omega) (by omega)]
        exact right_start HV.out.2.2.2.2 t1 t2
      have hle := fun R' (hR' : Ro.Last m (fun i => Sy.rowOf m (Sy.nf (Sy.shuf es K (x1, x2, x3))) (i : Int)) R') => Sg.last_edges hmem HW1.out.2.2.2.1 hR'
      obtain ⟨au, cu, hu⟩ := row_shape hO
      obtain ⟨N, hN⟩ : ∃ N, N = (Sy.shuf es K (x1, x2, x3)).length := ⟨_, rfl⟩
      rw [← hN] at hu
      subst hu
      obtain ⟨r0, r1, r2, r3⟩ := four_cellsB hT
      have hCt := sclasses_ok hS m kk st (.slice au N cu) (Sy.shuf es K (x1, x2, x3)) aS wc (HV.out.2.2.2.1.below (bel8 hbl HW1.out.1)).sy (BEdges.Own.has hO) (by omega) hrt
      unfold sysV at hCt
      have HC : Hid _ := And.intro hCt (And.intro hbl hle)
      clear hT hO hSb hbl hmem hN e0 e1 e2 HN1 HN2 HS HSt HEs hCt hle hrt hsl
      go_wp2_with fail
      refine Calls.mono HC.out.1 ?_
      rintro r w5 ⟨ud, R', rfl, hR', hOd, hb5⟩
      have heq := HC.out.2.2 R' hR'
      rw [← heq] at hOd
      have hcn : (natI (Ro.rnd m (fun i => Sy.rowOf m (Sy.nf es) (i : Int)) R)).length = m := by simp [natI, Ro.rnd_len]
      obtain ⟨ad, cd, hud⟩ := row_shape hOd
      rw [hcn] at hud
      subst hud
      have H5 : Hid _ := And.intro (bel8 hb5 HC.out.2.1) (And.intro hOd.has hcn)
      clear hR' hOd hb5 heq hcn r0 r1 r2 r3
      go_wp2_with fail
      refine Calls.mono (HV.out.2.2.1 _ (bel8 H5.out.1 HW1.out.1)) ?_
      rintro r w6 ⟨rfl, hb6⟩
      have hSi := sameInts_b (.slice ac m cc) (.slice ad m cd) _ _ w6 (by rw [H5.out.2.2]; omega) (by rw [H5.out.2.2]; omega) (HW1.out.2.2.2.2.below (bel8 hb6 H5.out.1)) (H5.out.2.1.below hb6)
      rw [beq_self_eq_true] at hSi
      have H6 : Hid _ := And.intro (bel8 hb6 (bel8 H5.out.1 HW1.out.1)) hSi
      clear hb6 hSi
      go_wp2_with fail
      refine Calls.mono H6.out.2 ?_
      rintro r w7 ⟨rfl, hb7⟩
      have H7 : Hid _ := bel8 hb7 H6.out.1
      clear hb7
      go_wp2_with fail
      go_ret
      exact ⟨rfl, H7.out⟩
theorem lawEdges_any (hS : SortOk 1000000) (n k s : Int) (v : Value) (es : List Sy.Ed) (by_ : Int) (aS aC a1 a3 : Addr) (w : World) (hE : EnvS w aS aC a1 a3) (hv : HasE w v es) :
    Calls Tryz.prog 4 #[sysV n k s v, .int .i64 by_] w fun r w' => r = .returned (.bool true) ∧ Below w.heap.size w w' := by
  have hA := pAl9 hS aS aC a1 a3 w hE
  by_cases h1 : (80 < n ∨ 600 < es.length) ∨ es.length = 0 ∨ n = 0
  · exact lawEdges_out n k s v es by_ w hA hv h1
  · cases hq : Sy.right n k s es with
    | false => exact lawEdges_bad hS n k s v es by_ aS aC a1 a3 w hA hE hv (by omega) (by omega) (by omega) (by omega) hq
    | true =>
      have hp := right_parts hq
      obtain ⟨m, rfl⟩ : ∃ m : Nat, n = (m : Int) := ⟨n.toNat, by omega⟩
      obtain ⟨kk, rfl⟩ : ∃ m : Nat, k = (m : Int) := ⟨k.toNat, by omega⟩
      exact lawEdges_ok hS m kk s v es by_ aS aC a1 a3 w hA hE hv (by omega) (by omega) (by omega) (by omega) hq
end Go.Proofs.YtkiapldehlnndabGreatDoor
/- What the listed package variables give: api's errors lie in memory, each at an address of its own, whichever are listed. (Written by mker.py.) -/
namespace Go.Proofs.YtkiapldehlnndabGreatDoor
open Go.ChangeShapes Go.WideShapes Go.ChangeAt Go.WideMaps Go.WideElems Go.RowKit
theorem Tryz.own : ownKnob Tryz.prog.godebug = none := by kernel_rfl
theorem Tryz.laidOut : laidOutB Tryz.prog = true := by kernel_rfl
theorem Tryz.cellsE : Tryz.prog.cellsOf 240 = 1 := by kernel_rfl
theorem Tryz.cellsS : Tryz.prog.cellsOf 9 = 1 := by kernel_rfl
set_option maxRecDepth 100000 in
theorem Tryz.star : "*" ++ "errors.errorString" = "*errors.errorString" := by decide
set_option maxRecDepth 100000 in
theorem Tryz.rowE (u : TypeId) (h : Tryz.prog.typeName? 3 u = some "*errors.errorString") : u = 220 :=
  typeName_ptr_named (nm := "errors.errorString") (by rw [Tryz.star]; kernel_rfl) (by kernel_rfl) (by decide) u (by rw [Tryz.star]; exact h)
set_option maxRecDepth 100000 in
theorem laid_step {W : World} {n : String} {g : Nat} {text : List UInt8} {r : List (String × DataW Unit)} {ps : List MemPlace} (hg : Tryz.prog.globalNamed n = some g) (ht : (Tryz.prog.globals[g]?).map (·.type) = some 29)
    (h : DataW.LaidVars Tryz.prog W ((n, .iface "*errors.errorString" (.ptr (.agg [.lit (.string text)]))) :: r) ps)
    (hrows : ∀ b off, MemPlace.cell b off ∈ ps → (∃ c t, W.heap[b]? = some (.cells c t (0, 0))) ∧ ∀ u v, W.cell? ⟨b, off, none⟩ = some (.iface u v) → Value.okWide Tryz.prog W .any 0 u v) :
    ∃ a q, Sent W g a ∧ DataW.LaidVars Tryz.prog W r q ∧ ps = MemPlace.cell g 0 :: MemPlace.cell a.block a.off :: q := by
  obtain ⟨g0, t0, cs0, f0, p0, q0, hg0, ht0, hv0, hd0, hr, e0⟩ := h
  obtain rfl := Option.some.inj (hg.symm.trans hg0)
  obtain rfl := Option.some.inj (ht.symm.trans ht0)
  subst e0
  obtain ⟨l0⟩ := cs0
  have ok0 : ∀ u v, l0 = [.iface u v] → Value.okWide Tryz.prog W .any 0 u v := fun u v e => by
    subst e
    exact (hrows g 0 (by simp [MemPlace.row])).2 u v (by simpa using World.var?_cell hg0 hv0 0)
  obtain ⟨a0, s0, rfl, hc0, hs0, hz0, rfl⟩ := errorString_of_trod Tryz.underlying29 Tryz.rowE Tryz.underlying220 Tryz.underlying240 rfl rfl Tryz.underlying9 Tryz.cellsE Tryz.cellsS hd0 ok0
  refine ⟨a0, q0, ⟨by simpa using World.var?_cell hg0 hv0 0, (hrows a0.block a0.off (by simp [MemPlace.row])).1⟩, hr, ?_⟩
  simp [MemPlace.row]
abbrev LE : Type := String × Nat × List UInt8
def leV (x : LE) : String × DataW Unit := (x.1, .iface "*errors.errorString" (.ptr (.agg [.lit (.string x.2.2)])))
theorem laid_list {W : World} {r : List (String × DataW Unit)} : ∀ (xs : List LE) (ps : List MemPlace), (∀ x ∈ xs, Tryz.prog.globalNamed x.1 = some x.2.1 ∧ (Tryz.prog.globals[x.2.1]?).map (·.type) = some 29) →
    DataW.LaidVars Tryz.prog W (xs.map leV ++ r) ps → (∀ b off, MemPlace.cell b off ∈ ps → (∃ c t, W.heap[b]? = some (.cells c t (0, 0))) ∧ ∀ u v, W.cell? ⟨b, off, none⟩ = some (.iface u v) → Value.okWide Tryz.prog W .any 0 u v) →
    ∃ ads : List Addr, ads.length = xs.length ∧ (∀ (i : Nat) (x : LE) (a : Addr), xs[i]? = some x → ads[i]? = some a → Sent W x.2.1 a) ∧ (∀ a ∈ ads, MemPlace.cell a.block a.off ∈ ps) ∧ (ps.Nodup → ads.Pairwise (· ≠ ·))
  | [], ps, _, _, _ => ⟨[], rfl, fun i x a h => by simp at h, fun a h => by simp at h, fun _ => List.Pairwise.nil⟩
  | x :: xs, ps, hx, h, hr => by
    obtain ⟨a, q, hs, hq, rfl⟩ := laid_step (hx x List.mem_cons_self).1 (hx x List.mem_cons_self).2 h hr
    obtain ⟨ads, h1, h2, h3, h4⟩ := laid_list xs q (fun y hy => hx y (List.mem_cons_of_mem _ hy)) hq (fun b off hb => hr b off (List.mem_cons_of_mem _ (List.mem_cons_of_mem _ hb)))
    refine ⟨a :: ads, by simp [h1], fun i y b hy hb => ?_, fun b hb => ?_, fun hn => ?_⟩
    · cases i with
      | zero => simp at hy hb; subst hy; subst hb; exact hs
      | succ i => exact h2 i y b (by simpa using hy) (by simpa using hb)
    · rcases List.mem_cons.1 hb with rfl | hb
      · exact List.mem_cons_of_mem _ List.mem_cons_self
      · exact List.mem_cons_of_mem _ (List.mem_cons_of_mem _ (h3 b hb))
    · have hn2 := (List.nodup_cons.1 hn).2
      have hn3 := List.nodup_cons.1 hn2
      exact List.Pairwise.cons (fun b hb e => hn3.1 (by rw [e]; exact h3 b hb)) (h4 hn3.2)
end Go.Proofs.YtkiapldehlnndabGreatDoor
/- What the listed package variables give strong's statements: four errors and the handle that errors.As asks. -/
namespace Go.Proofs.YtkiapldehlnndabGreatDoor
open Go.ChangeShapes Go.WideShapes Go.ChangeAt Go.WideMaps Go.WideElems Go.RowKit
theorem Tryz.et : Tryz.prog.globalNamed "errors.errorType" = some 19 := by kernel_rfl
theorem Tryz.rt : (Tryz.prog.cutTypes.find? (·.1 == "internal/reflectlite.rtype")).map (·.2) = some 105 := by kernel_rfl
theorem Tryz.oneRow : ((List.range Tryz.prog.types.size).filter fun t => Tryz.prog.rowNamed t [101, 114, 114, 111, 114]) = [29] := by kernel_rfl
set_option maxRecDepth 100000 in
theorem handle_of {W : World} (h : handlesMet Tryz.prog [("errors.errorType", Rows.laid_errors_errorType)] W) : W.cell? ⟨19, 0, none⟩ = some (.iface 105 (.agg #[.pointer (some ⟨23, 29, none⟩)])) := by
  obtain ⟨name, u, ty, e1, e2, e3, e4, e5⟩ := h _ (List.mem_singleton.2 rfl)
  have en : name = [101, 114, 114, 111, 114] := (Option.some.inj e1).symm
  subst en
  obtain rfl := Option.some.inj (Tryz.rt.symm.trans e2)
  have hm : ty ∈ (List.range Tryz.prog.types.size).filter fun t => Tryz.prog.rowNamed t [101, 114, 114, 111, 114] := List.mem_filter.2 ⟨List.mem_range.2 e3, e4⟩
  rw [Tryz.oneRow] at hm
  obtain rfl := List.mem_singleton.1 hm
  have hh : typeHandle Tryz.prog 29 = .pointer (some ⟨23, 29, none⟩) := by kernel_rfl
  rw [hh] at e5
  simpa using World.var?_cell Tryz.et e5 0
theorem four_of {W : World} {x1 x3 x14 x15 : List UInt8} {r : List (String × DataW Unit)} (h : laidMet Tryz.prog (("semblance/api.ErrArg", .iface "*errors.errorString" (.ptr (.agg [.lit (.string x1)]))) :: ("semblance/api.ErrIndex", .iface "*errors.errorString" (.ptr (.agg [.lit (.string x3)]))) :: ("semblance/api.ErrSystem", .iface "*errors.errorString" (.ptr (.agg [.lit (.string x14)]))) :: ("semblance/api.ErrClasses", .iface "*errors.errorString" (.ptr (.agg [.lit (.string x15)]))) :: r) W) : ∃ a1 a3 aS aC, Sent W 2 a1 ∧ Sent W 4 a3 ∧ Sent W 0 aS ∧ Sent W 1 aC := by
  obtain ⟨ps, h0, hnd, r0⟩ := h
  obtain ⟨ads, h1, h2, _, _⟩ := laid_list [("semblance/api.ErrArg", 2, x1), ("semblance/api.ErrIndex", 4, x3), ("semblance/api.ErrSystem", 0, x14), ("semblance/api.ErrClasses", 1, x15)] ps (fun x hx => by
    simp only [List.mem_cons, List.not_mem_nil, or_false] at hx
    rcases hx with rfl | rfl | rfl | rfl
    · exact ⟨by kernel_rfl, by kernel_rfl⟩
    · exact ⟨by kernel_rfl, by kernel_rfl⟩
    · exact ⟨by kernel_rfl, by kernel_rfl⟩
    · exact ⟨by kernel_rfl, by kernel_rfl⟩) h0 r0
  have at' : ∀ i, i < 4 → ∃ a, ads[i]? = some a := fun i hi => ⟨_, List.getElem?_eq_getElem (by rw [h1]; exact hi)⟩
  obtain ⟨a, ha⟩ := at' 0 (by decide)
  obtain ⟨b, hb⟩ := at' 1 (by decide)
  obtain ⟨c, hc⟩ := at' 2 (by decide)
  obtain ⟨d, hd⟩ := at' 3 (by decide)
  exact ⟨a, b, c, d, h2 0 _ a rfl ha, h2 1 _ b rfl hb, h2 2 _ c rfl hc, h2 3 _ d rfl hd⟩
theorem envS_of {W : World} {x1 x3 x14 x15 : List UInt8} {r : List (String × DataW Unit)} (h : laidMet Tryz.prog (("semblance/api.ErrArg", .iface "*errors.errorString" (.ptr (.agg [.lit (.string x1)]))) :: ("semblance/api.ErrIndex", .iface "*errors.errorString" (.ptr (.agg [.lit (.string x3)]))) :: ("semblance/api.ErrSystem", .iface "*errors.errorString" (.ptr (.agg [.lit (.string x14)]))) :: ("semblance/api.ErrClasses", .iface "*errors.errorString" (.ptr (.agg [.lit (.string x15)]))) :: r) W ∧ handlesMet Tryz.prog [("errors.errorType", Rows.laid_errors_errorType)] W) : ∃ aS aC a1 a3, EnvS W aS aC a1 a3 := by
  obtain ⟨a1, a3, aS, aC, h1, h3, hs, hc⟩ := four_of h.1
  exact ⟨aS, aC, a1, a3, hs, hc, h1, h3, handle_of h.2⟩
end Go.Proofs.YtkiapldehlnndabGreatDoor
/- Contracts of the book's SameSystem, Lent and Stays. -/
namespace Go.Proofs.YtkiapldehlnndabGreatDoor
open Go.RowKit Go.Maps
attribute [local go_sem ↓] Go.wp_at_zero Go.wp_at_succ
def mk3 : List Sy.Ed := [(-7, 0, 0), (-7, 1, 0), (-7, 2, 0)]
def LentE (w : World) (B : Nat) (u : Value) (es : List Sy.Ed) : Prop := ∃ g cap, u = .slice (some ⟨g, 0, none⟩) es.length cap ∧ es.length + 3 ≤ cap ∧ BEdges.Own w B (.slice (some ⟨g, 0, none⟩) (es.length + 3) cap) (es ++ mk3)
end Go.Proofs.YtkiapldehlnndabGreatDoor
/- A list of numbers that came in, as a plain list. -/
namespace Go.Proofs.YtkiapldehlnndabGreatDoor
open Go.ChangeShapes Go.WideShapes Go.ChangeAt Go.WideMaps Go.WideElems Go.RowKit
theorem Tryz.cIntE : Tryz.prog.cellsOf 3 = 1 := by kernel_rfl
end Go.Proofs.YtkiapldehlnndabGreatDoor
/- A list of edges, and a system, that came in, out of their reading. -/
namespace Go.Proofs.YtkiapldehlnndabGreatDoor
open Go.ChangeShapes Go.WideShapes Go.ChangeAt Go.WideMaps Go.WideElems Go.RowKit
theorem Tryz.cEdge : Tryz.prog.cellsOf 33 = 3 := by kernel_rfl
theorem Tryz.cSys : Tryz.prog.cellsOf 24 = 4 := by kernel_rfl
theorem ed_choose {n : Nat} {p : Nat → Sy.Ed → Prop} (h : ∀ i, i < n → ∃ x, p i x) : ∃ f : Nat → Sy.Ed, ∀ i, i < n → p i (f i) := by
  classical
  refine ⟨fun i => if hi : i < n then Classical.choose (h i hi) else (0, 0, 0), fun i hi => ?_⟩
  simp only [hi, dif_pos]
  exact Classical.choose_spec (h i hi)
set_option maxRecDepth 100000 in
theorem edge_in {H : Type} {enc : TypeId × Value → H} {W : World} {fuel i : Nat} {a : Addr} {cs : List Value} {x : DataW H × List MemPlace} (hc : W.cells? 0 (a.add (i * 3)) 3 = some cs) (h : DataW.trod enc Tryz.prog W 0 (fun _ => true) true fuel 33 cs = some x) :
    ∃ z : Sy.Ed, ∀ q u, (BEdges.enc z)[q]? = some u → W.cell? (a.add (i * 3 + q)) = some u := by
  obtain ⟨_, hlen, hcell⟩ := World.cells?_some hc
  obtain ⟨xs, k, hk, _, _, hxl, hf⟩ := DataW.trod_struct Tryz.underlying33 h
  match xs, hxl, cs, hlen with
  | [y0, y1, y2], _, [v0, v1, v2], _ =>
    have g0 := hf 0 _ rfl
    have g1 := hf 1 _ rfl
    have g2 := hf 2 _ rfl
    simp [Tryz.cIntE] at g0 g1 g2
    obtain ⟨z0, e0, _⟩ := DataW.trod_int Tryz.underlying3 g0
    obtain ⟨z1, e1, _⟩ := DataW.trod_int Tryz.underlying3 g1
    obtain ⟨z2, e2, _⟩ := DataW.trod_int Tryz.underlying3 g2
    obtain rfl : v0 = .int .i64 z0 := by simpa using e0
    obtain rfl : v1 = .int .i64 z1 := by simpa using e1
    obtain rfl : v2 = .int .i64 z2 := by simpa using e2
    have c0 := hcell 0 (by omega)
    have c1 := hcell 1 (by omega)
    have c2 := hcell 2 (by omega)
    rw [Go.Deep.add_add] at c0 c1 c2
    refine ⟨(z0, z1, z2), fun q u hq => ?_⟩
    match q, hq with
    | 0, hq => cases hq; simpa using c0
    | 1, hq => cases hq; simpa using c1
    | 2, hq => cases hq; simpa using c2
    | q + 3, hq => simp [BEdges.enc] at hq
set_option maxRecDepth 100000 in
theorem edges_in {H : Type} {enc : TypeId × Value → H} {W : World} {fuel : Nat} {v : Value} {x : DataW H × List MemPlace} (h : DataW.trod enc Tryz.prog W 0 (fun _ => true) true fuel 22 [v] = some x) : ∃ es, HasE W v es ∧ es.length ≤ maxLen := by
  rcases Go.Deep.open_slice Tryz.underlying22 h with ⟨hc, _⟩ | ⟨a, len, cap, m, n, D, Pl, hc, _, hl, hm, hmm, _, hx⟩
  · obtain rfl : v = .slice none 0 0 := by injection hc
    exact ⟨[], ⟨none, 0, rfl, Nat.le_refl _, none, 0, rfl, fun i s h => by simp [BEdges.C] at h⟩, by simp⟩
  · obtain rfl : v = .slice (some a) len cap := by injection hc
    have hm' : m = cap := by simpa using hmm
    rw [Tryz.cEdge] at hx
    have each : ∀ i, i < len → ∃ z : Sy.Ed, ∀ q u, (BEdges.enc z)[q]? = some u → W.cell? (a.add (i * 3 + q)) = some u := fun i hi => by
      obtain ⟨cs, h1, h2⟩ := hx i (by omega)
      exact edge_in h1 h2
    obtain ⟨f, hf'⟩ := ed_choose each
    have hL : ((List.range len).map f).length = len := by simp
    refine ⟨(List.range len).map f, ⟨some a, cap, by rw [hL], by rw [hL]; omega, some a, cap, by rw [hL], fun j u hj => ⟨a, rfl, ?_⟩⟩, by rw [hL]; omega⟩
    have hj3 : j < len * 3 := by have := (List.getElem?_eq_some_iff.1 hj).1; rw [BEdges.C_len, hL] at this; exact this
    have hi : j / 3 < len := by omega
    have hz : ((List.range len).map f)[j / 3]? = some (f (j / 3)) := by rw [List.getElem?_map, List.getElem?_range hi]; rfl
    have h9 := BEdges.C_at _ _ _ hz (j % 3) (Nat.mod_lt _ (by decide))
    have e9 : j / 3 * 3 + j % 3 = j := by omega
    rw [e9, hj] at h9
    have h8 := hf' (j / 3) hi (j % 3) u h9.symm
    rw [e9] at h8
    exact h8
set_option maxRecDepth 100000 in
theorem has_sys {H : Type} {enc : TypeId × Value → H} {W : World} {base : Nat} {v : Value} {d : DataW H} {ps : List MemPlace} (hok : Value.okWide Tryz.prog W .any base 24 v) (h : DataW.Trod enc Tryz.prog W 0 (fun _ => true) true 24 v d ps) :
    ∃ (n k s : Int) (u : Value) (es : List Sy.Ed), v = sysV n k s u ∧ HasE W u es ∧ es.length ≤ maxLen := by
  obtain ⟨v0, v1, v2, v3, y0, y1, y2, y3, f, rfl, _, _, t0, t1, t2, t3⟩ := Go.Joins.open_agg4 Tryz.underlying24 (by kernel_rfl) Tryz.cSys hok h
  obtain ⟨z0, e0, _⟩ := DataW.trod_int Tryz.underlying3 t0
  obtain ⟨z1, e1, _⟩ := DataW.trod_int Tryz.underlying3 t1
  obtain ⟨z2, e2, _⟩ := DataW.trod_int Tryz.underlying3 t2
  obtain rfl : v0 = .int .i64 z0 := by simpa using e0
  obtain rfl : v1 = .int .i64 z1 := by simpa using e1
  obtain rfl : v2 = .int .i64 z2 := by simpa using e2
  obtain ⟨es, h1, h2⟩ := edges_in t3
  exact ⟨z0, z1, z2, v3, es, rfl, h1, h2⟩
end Go.Proofs.YtkiapldehlnndabGreatDoor
