/- Texts of this claim, joined: SgApart, ErLaid, SgLaid, SyLent, SyArgI, SyArg. -/
import Derived.Test.YtkiapldehlnndaaGreatDoorPart16
import Derived.Test.YtkiapldehlnndaaGreatDoorRows
import Derived.Test.YtkiapldehlnndaaGreatDoorPart0
import Derived.Test.YtkiapldehlnndaaGreatDoorPart4
import Derived.ProofKit
import Derived.LaidMore
import Derived.Stop.LaidErr
import Derived.Test.YtkiapldehlnndaaGreatDoorPart15
import Derived.OpenShut
import Derived.Test.YtkiapldehlnndaaGreatDoorPart1
import Derived.Lib.SmallJoins
import Derived.Deep.Slices
/- StrongApart as a call. (Written by mklaw9.py.) -/
namespace Go.Proofs.YtkiapldehlnndaaGreatDoor
open Go.RowKit Go.Maps
attribute [local go_sem ↓] Go.wp_at_zero Go.wp_at_succ
set_option maxRecDepth 100000 in
set_option maxHeartbeats 4000000 in
theorem lawApart_out (n k s : Int) (v : Value) (es : List Sy.Ed) (w : World) (hA : PAl9 w) (hv : HasE w v es) (hlen : 80 < n ∨ 600 < es.length) :
    Calls Tryz.prog 8 #[sysV n k s v] w fun r w' => r = .returned (.bool true) ∧ Below w.heap.size w w' := by
  obtain ⟨ao, cap, rfl, hcap, hH⟩ := hv
  obtain ⟨L, hL⟩ : ∃ L, L = es.length := ⟨_, rfl⟩
  rw [← hL] at hcap hlen ⊢
  obtain ⟨w1, hw1⟩ : ∃ w1, w1 = w.alloc (.cells #[.int .i64 n, .int .i64 k, .int .i64 s, .slice ao L cap] 24) := ⟨_, rfl⟩
  have hb1 : Below w.heap.size w w1 := by rw [hw1]; exact (Below.refl _ _).alloc (Nat.le_refl _) _
  have hg1 : w1.heap[w.heap.size]? = some (.cells #[.int .i64 n, .int .i64 k, .int .i64 s, .slice ao L cap] 24 (0, 0)) := by rw [hw1]; exact heap_alloc_new w _
  have hSm := small_out n k s ao L cap w1 hlen
  unfold sysV at hSm ⊢
  obtain ⟨x0, x1, x2, x3⟩ := four_cellsB hg1
  have H1 : Hid _ := And.intro hw1 (And.intro hb1 (And.intro hSm hA))
  clear hA hH hcap hL hw1 hb1 hg1 hSm hlen
  go_enter Tryz.func8, Tryz.ntmps8
  go_upto_region 1 with fail
  rw [← H1.out.1]
  go_wp2_with fail
  refine Calls.mono H1.out.2.2.1 ?_
  rintro r w2 ⟨rfl, hb2⟩
  have H2 : Hid _ := bel9 hb2 H1.out.2.1
  clear hb2 x0 x1 x2 x3
  go_wp2_with fail
  refine Calls.mono (H1.out.2.2.2 _ H2.out) ?_
  rintro r w3 ⟨rfl, hb3⟩
  have H3 : Hid _ := bel9 hb3 H2.out
  clear hb3
  go_wp2_with fail
  go_ret
  exact ⟨rfl, H3.out⟩
set_option maxRecDepth 100000 in
set_option maxHeartbeats 4000000 in
theorem lawApart_bad (hS : SortOk 1000000) (n k s : Int) (v : Value) (es : List Sy.Ed) (aS aC a1 a3 : Addr) (w : World) (hA : PAl9 w) (hE : EnvS w aS aC a1 a3) (hv : HasE w v es) (hn : n ≤ 80) (hlen : es.length ≤ 600) (hq : Sy.right n k s es = false) :
    Calls Tryz.prog 8 #[sysV n k s v] w fun r w' => r = .returned (.bool true) ∧ Below w.heap.size w w' := by
  obtain ⟨ao, cap, rfl, hcap, hH⟩ := hv
  obtain ⟨L, hL⟩ : ∃ L, L = es.length := ⟨_, rfl⟩
  obtain ⟨w1, hw1⟩ : ∃ w1, w1 = w.alloc (.cells #[.int .i64 n, .int .i64 k, .int .i64 s, .slice ao L cap] 24) := ⟨_, rfl⟩
  have hb1 : Below w.heap.size w w1 := by rw [hw1]; exact (Below.refl _ _).alloc (Nat.le_refl _) _
  have hg1 : w1.heap[w.heap.size]? = some (.cells #[.int .i64 n, .int .i64 k, .int .i64 s, .slice ao L cap] 24 (0, 0)) := by rw [hw1]; exact heap_alloc_new w _
  have hCl := fun W (hb : Below w1.heap.size w1 W) => sclasses_bad hS n k s _ es aS W ((hE.below hb1).below hb).sy ((hH.below hb1).below hb) (by omega) hq
  have hSm := small_in n k s ao L cap w1 hn (by omega)
  rw [← hL] at hCl hlen ⊢
  unfold sysV at hCl hSm ⊢
  have H1 : Hid _ := And.intro hw1 (And.intro hb1 (And.intro hg1 (And.intro hSm (And.intro hCl (And.intro hA hE)))))
  obtain ⟨x0, x1, x2, x3⟩ := four_cellsB hg1
  clear hA hE hH hcap hL hw1 hb1 hg1 hq hCl hSm
  go_enter Tryz.func8, Tryz.ntmps8
  go_upto_region 1 with fail
  rw [← H1.out.1]
  go_wp2_with fail
  refine Calls.mono H1.out.2.2.2.1 ?_
  rintro r w2 ⟨rfl, hb2⟩
  have H2 : Hid _ := And.intro hb2 (bup hb2 H1.out.2.2.1)
  clear hb2 x0 x1 x2 x3
  obtain ⟨x0, x1, x2, x3⟩ := four_cellsB H2.out.2
  go_wp2_with fail
  refine Calls.mono (H1.out.2.2.2.2.1 _ H2.out.1) ?_
  rintro r w3 ⟨b, rfl, hC3, hb3⟩
  have H3 : Hid _ := And.intro (bel9 hb3 (bel9 H2.out.1 H1.out.2.1)) hC3
  clear hC3 hb3 x0 x1 x2 x3
  go_wp2_with fail
  refine Calls.mono (H1.out.2.2.2.2.2.1 _ H3.out.1) ?_
  rintro r w4 ⟨rfl, hb4⟩
  have H4 : Hid _ := bel9 hb4 H3.out.1
  clear hb4
  go_wp2_with fail
  go_ret
  exact ⟨rfl, H4.out⟩
set_option maxRecDepth 100000 in
set_option maxHeartbeats 32000000 in
set_option linter.unusedSimpArgs false in
theorem lawApart_ok (hS : SortOk 1000000) (m kk : Nat) (s : Int) (v : Value) (es : List Sy.Ed) (aS aC a1 a3 : Addr) (w : World) (hA : PAl9 w) (hE : EnvS w aS aC a1 a3) (hv : HasE w v es) (hn : m ≤ 80) (hlen : es.length ≤ 600) (hq : Sy.right m kk s es = true) :
    Calls Tryz.prog 8 #[sysV m kk s v] w fun r w' => r = .returned (.bool true) ∧ Below w.heap.size w w' := by
  obtain ⟨ao, cap, rfl, hcap, hH⟩ := hv
  obtain ⟨L, hL⟩ : ∃ L, L = es.length := ⟨_, rfl⟩
  obtain ⟨w1, hw1⟩ : ∃ w1, w1 = w.alloc (.cells #[.int .i64 m, .int .i64 kk, .int .i64 s, .slice ao L cap] 24) := ⟨_, rfl⟩
  have hb1 : Below w.heap.size w w1 := by rw [hw1]; exact (Below.refl _ _).alloc (Nat.le_refl _) _
  have hg1 : w1.heap[w.heap.size]? = some (.cells #[.int .i64 m, .int .i64 kk, .int .i64 s, .slice ao L cap] 24 (0, 0)) := by rw [hw1]; exact heap_alloc_new w _
  have hCl := fun W (hb : Below w1.heap.size w1 W) => sclasses_ok hS m kk s _ es aS W ((hE.below hb1).below hb).sy ((hH.below hb1).below hb) (by omega) hq
  have hNw := fun W (hb : Below w1.heap.size w1 W) => new_ok hS m kk s _ es aS W ((hE.below hb1).below hb).sy ((hH.below hb1).below hb) (by omega) (by omega) hq
  have hSm := small_in m kk s ao L cap w1 (by omega) (by omega)
  have hfit := row_fit hq
  rw [← hL] at hCl hNw hlen ⊢
  unfold sysV at hCl hNw hSm ⊢
  have H1 : Hid _ := And.intro hw1 (And.intro hb1 (And.intro hg1 (And.intro hSm (And.intro hCl (And.intro hNw (And.intro hA hfit))))))
  obtain ⟨x0, x1, x2, x3⟩ := four_cellsB hg1
  clear hA hE hH hcap hL hw1 hb1 hg1 hq hCl hNw hSm hfit
  go_enter Tryz.func8, Tryz.ntmps8
  go_upto_region 1 with fail
  rw [← H1.out.1]
  go_wp2_with fail
  refine Calls.mono H1.out.2.2.2.1 ?_
  rintro r w2 ⟨rfl, hb2⟩
  have H2 : Hid _ := And.intro hb2 (bup hb2 H1.out.2.2.1)
  clear hb2 x0 x1 x2 x3
  obtain ⟨x0, x1, x2, x3⟩ := four_cellsB H2.out.2
  go_wp2_with fail
  refine Calls.mono (H1.out.2.2.2.2.1 _ H2.out.1) ?_
  rintro r w3 ⟨u, R, rfl, hR, hO3, hb3⟩
  obtain ⟨c, hc⟩ : ∃ c, c = Ro.rnd m (fun i => Sy.rowOf m (Sy.nf es) (i : Int)) R := ⟨_, rfl⟩
  have hcl : c.length = m := by rw [hc, Ro.rnd_len]
  rw [← hc] at hO3
  obtain ⟨au, cu, hu⟩ := row_shape hO3
  have hcn : (natI c).length = m := by simp [natI, hcl]
  rw [hcn] at hu
  subst hu
  have hvc := hO3.has
  have H3 : Hid _ := And.intro (bel9 hb3 H2.out.1) (And.intro (bup hb3 H2.out.2) (And.intro hvc (And.intro hR (And.intro hc hcl))))
  clear hb3 x0 x1 x2 x3 hO3 hvc hR hc hcl hcn
  obtain ⟨x0, x1, x2, x3⟩ := four_cellsB H3.out.2.1
  go_wp2_with fail
  refine Calls.mono (H1.out.2.2.2.2.2.1 _ H3.out.1) ?_
  rintro r w4 ⟨g, bs, bb, cs, cb, m', hm', rfl, hG4, hb4⟩
  obtain rfl : m = m' := by omega
  have hMt := fun W (hb : Below w4.heap.size w4 W) (p q : Int) => met_any c (.slice au m cu) p q W (hG4.below hb) H3.out.2.2.2.2.2 ((H3.out.2.2.1.below hb4).below hb)
  have H4 : Hid _ := And.intro (bel9 (bel9 hb4 H3.out.1) H1.out.2.1) (And.intro (bup hb4 H3.out.2.1) (And.intro (H3.out.2.2.1.below hb4) (And.intro hMt (H3.out.1.trans (hb4.mono H3.out.1.size)))))
  clear hb4 x0 x1 x2 x3 hG4 hMt hm'
  obtain ⟨x0, x1, x2, x3⟩ := four_cellsB H4.out.2.1
  go_wp2_with fail
  go_loopg [7] m (fun q9 iv wr => ∃ p : Nat, q9 = m - p ∧ p ≤ m ∧ iv = .int .i64 p ∧ Below w4.heap.size w4 wr)
  case atStart => exact ⟨0, rfl, Nat.zero_le _, rfl, Below.refl _ _⟩
  case round =>
    obtain ⟨p, rfl, hp, rfl, hbp⟩ := hrel
    obtain ⟨w9, rfl⟩ : ∃ w9, w9 = wr := ⟨_, rfl⟩
    have s0 : w9.cell? ⟨w.heap.size, 0, none⟩ = some (.int .i64 m) := (four_cellsB (bup hbp H4.out.2.1)).1
    by_cases hpm : p < m
    · have r0 : (p : Int) < (m : Int) := by omega
      have r1 : (0 : Int) ≤ (p : Int) := by omega
      have HP : Hid _ := hbp
      clear hbp x0 x1 x2 x3
      go_wp2_with fail
      go_loopg [8] p (fun q9 iv wr => ∃ q : Nat, q9 = p - q ∧ q ≤ p ∧ iv = .int .i64 q ∧ Below w4.heap.size w4 wr)
      case atStart => exact ⟨0, rfl, Nat.zero_le _, rfl, HP.out⟩
      case round =>
        obtain ⟨q, rfl, hqp, rfl, hbq⟩ := hrel
        obtain ⟨w5, rfl⟩ : ∃ w5, w5 = wr := ⟨_, rfl⟩
        have s1 : w5.cell? ⟨w.heap.size, 0, none⟩ = some (.int .i64 m) := (four_cellsB (bup hbq H4.out.2.1)).1
        by_cases hql : q < p
        · have hql2 : q < m := by omega
          have t0 : (0 : Int) ≤ (q : Int) := by omega
          have t1 : (q : Int) < (p : Int) := by omega
          have t2 : (q : Int) < (m : Int) := by omega
          obtain ⟨cp, hcp⟩ : ∃ cp, c[p]? = some cp := ⟨_, List.getElem?_eq_getElem (by have := H3.out.2.2.2.2.2; omega)⟩
          obtain ⟨cq, hcq⟩ : ∃ cq, c[q]? = some cq := ⟨_, List.getElem?_eq_getElem (by have := H3.out.2.2.2.2.2; omega)⟩
          have hvk := H4.out.2.2.1.below hbq
          obtain ⟨a7, rfl, e1⟩ := hasI_at hvk (i := p) (z := (cp : Int)) (by simp [natI, hcp])
          obtain ⟨a8, ha8, e2⟩ := hasI_at hvk (i := q) (z := (cq : Int)) (by simp [natI, hcq])
          obtain rfl := Option.some.inj ha8
          clear hvk ha8
          have hM1 := fun W (hb : Below w5.heap.size w5 W) => H4.out.2.2.2.1 W (bel9 hb hbq) p q
          have hM2 := fun W (hb : Below w5.heap.size w5 W) => H4.out.2.2.2.1 W (bel9 hb hbq) q p
          have hfp := H1.out.2.2.2.2.2.2.2 (p : Int)
          have hfq := H1.out.2.2.2.2.2.2.2 (q : Int)
          have hap := fun (h1 : metB c (Sy.rowOf m (Sy.nf es) (p : Int)) (Sy.rowOf m (Sy.nf es) (q : Int)) = true) (h2 : metB c (Sy.rowOf m (Sy.nf es) (q : Int)) (Sy.rowOf m (Sy.nf es) (p : Int)) = true) => (by
            rw [H3.out.2.2.2.2.1] at h1 h2 hcp hcq
            exact Sg.apart_pure (n := m) (R := R) (out := fun i => Sy.rowOf m (Sy.nf es) (i : Int)) (p := p) (q := q) (by omega) hfp hfq h1 h2 hcp hcq : cp = cq)
          have HQ : Hid _ := hbq
          generalize metB c (Sy.rowOf m (Sy.nf es) (p : Int)) (Sy.rowOf m (Sy.nf es) (q : Int)) = b1 at hM1 hap
          generalize metB c (Sy.rowOf m (Sy.nf es) (q : Int)) (Sy.rowOf m (Sy.nf es) (p : Int)) = b2 at hM2 hap
          by_cases hce : cp = cq
          · have n1 : ((cp : Int) != (cq : Int)) = false := by rw [hce]; simp
            clear hce hap hM1 hM2 hfp hfq hcp hcq hbq
            go_upto_region 15 with fail
            refine wp_region_held_drew (S := (fun w' => (w'.cell? (a7.add p) = some (.int .i64 cp) ∧ w'.cell? (a7.add q) = some (.int .i64 cq)) ∧ Hid (Below w5.heap.size w5 w'))) (by kernel_rfl) ?_ (fun hHeld => ?_)
            · exact ⟨⟨e1, e2⟩, ((Below.refl _ _).drew : Below w5.heap.size w5 w5.drew)⟩
            refine wpAnyH_take (i := 0) (oi := _) (v := ?_) rfl (by kernel_rfl) (by kernel_rfl) (by kernel_rfl) (fun _ _ _ h => h) (Or.inl ⟨by rfl, ?_⟩) (by assumption) ?_; rotate_left; (focus (intro w hSw; (try dsimp only at hSw); go_simp; (try with_reducible rfl))); (try simp only [List.getElem_toArray, List.getElem_cons_succ, List.getElem_cons_zero, Act.put, List.setIfInBounds_toArray, List.set_cons_zero, List.set_cons_succ])
            refine wpAnyH_take (i := 1) (oi := _) (v := ?_) rfl (by kernel_rfl) (by kernel_rfl) (by kernel_rfl) (fun _ _ _ h => h) (Or.inl ⟨by rfl, ?_⟩) (by assumption) ?_; rotate_left; (focus (intro w hSw; (try dsimp only at hSw); go_simp; (try with_reducible rfl))); (try simp only [List.getElem_toArray, List.getElem_cons_succ, List.getElem_cons_zero, Act.put, List.setIfInBounds_toArray, List.set_cons_zero, List.set_cons_succ])
            refine wpAnyH_take (i := 2) (oi := _) (v := ?_) rfl (by kernel_rfl) (by kernel_rfl) (by kernel_rfl) (fun _ _ _ h => h) (Or.inl ⟨by rfl, ?_⟩) (by assumption) ?_; rotate_left; (focus (intro w hSw; (try dsimp only at hSw); go_simp; (try with_reducible rfl))); (try simp only [List.getElem_toArray, List.getElem_cons_succ, List.getElem_cons_zero, Act.put, List.setIfInBounds_toArray, List.set_cons_zero, List.set_cons_succ])
            refine wpAnyH_take (i := 3) (oi := _) (v := ?_) rfl (by kernel_rfl) (by kernel_rfl) (by kernel_rfl) (fun _ _ _ h => h) (Or.inl ⟨by rfl, ?_⟩) (by assumption) ?_; rotate_left; (focus (intro w hSw; (try dsimp only at hSw); go_simp; (try with_reducible rfl))); (try simp only [List.getElem_toArray, List.getElem_cons_succ, List.getElem_cons_zero, Act.put, List.setIfInBounds_toArray, List.set_cons_zero, List.set_cons_succ])
            refine wpAnyH_take (i := 4) (oi := _) (v := ?_) rfl (by kernel_rfl) (by kernel_rfl) (by kernel_rfl) (fun _ _ _ h => h) (Or.inl ⟨by rfl, ?_⟩) (by assumption) ?_; rotate_left; (focus (intro w hSw; (try dsimp only at hSw); go_simp; (try with_reducible rfl))); (try simp only [List.getElem_toArray, List.getElem_cons_succ, List.getElem_cons_zero, Act.put, List.setIfInBounds_toArray, List.set_cons_zero, List.set_cons_succ])
            refine wpAnyH_take (i := 5) (oi := _) (v := ?_) rfl (by kernel_rfl) (by kernel_rfl) (by kernel_rfl) (fun _ _ _ h => h) (Or.inl ⟨by rfl, ?_⟩) (by assumption) ?_; rotate_left; (focus (intro w hSw; (try dsimp only at hSw); go_simp; (try with_reducible rfl))); (try simp only [List.getElem_toArray, List.getElem_cons_succ, List.getElem_cons_zero, Act.put, List.setIfInBounds_toArray, List.set_cons_zero, List.set_cons_succ])
            refine wpAnyH_take (i := 6) (oi := _) (v := ?_) rfl (by kernel_rfl) (by kernel_rfl) (by kernel_rfl) (fun _ _ _ h => h) (Or.inl ⟨by rfl, ?_⟩) (by assumption) ?_; rotate_left; (focus (intro w hSw; (try dsimp only at hSw); go_simp; (try with_reducible rfl))); (try simp only [List.getElem_toArray, List.getElem_cons_succ, List.getElem_cons_zero, Act.put, List.setIfInBounds_toArray, List.set_cons_zero, List.set_cons_succ])
            refine wpAnyH_take (i := 7) (oi := _) (v := ?_) rfl (by kernel_rfl) (by kernel_rfl) (by kernel_rfl) (fun _ _ _ h => h) (Or.inl ⟨by rfl, ?_⟩) (by assumption) ?_; rotate_left; (focus (intro w hSw; (try dsimp only at hSw); go_simp; (try with_reducible rfl))); (try simp only [List.getElem_toArray, List.getElem_cons_succ, List.getElem_cons_zero, Act.put, List.setIfInBounds_toArray, List.set_cons_zero, List.set_cons_succ])
            refine wpAnyH_take (i := 8) (oi := _) (v := ?_) rfl (by kernel_rfl) (by kernel_rfl) (by kernel_rfl) (fun _ _ _ h => h) (Or.inl ⟨by rfl, ?_⟩) (by assumption) ?_; rotate_left; (focus (intro w hSw; (try dsimp only at hSw); go_simp; (try with_reducible rfl))); (try simp only [List.getElem_toArray, List.getElem_cons_succ, List.getElem_cons_zero, Act.put, List.setIfInBounds_toArray, List.set_cons_zero, List.set_cons_succ])
            refine wpAnyH_take (i := 9) (oi := _) (v := ?_) rfl (by kernel_rfl) (by kernel_rfl) (by kernel_rfl) (fun _ _ _ h => h) (Or.inl ⟨by rfl, ?_⟩) (by assumption) ?_; rotate_left; (focus (intro w hSw; (try dsimp only at hSw); go_simp; (try with_reducible rfl))); (try simp only [List.getElem_toArray, List.getElem_cons_succ, List.getElem_cons_zero, Act.put, List.setIfInBounds_toArray, List.set_cons_zero, List.set_cons_succ])
            refine wpAnyH_take (i := 10) (oi := _) (v := undef) rfl (by kernel_rfl) (by kernel_rfl) (by kernel_rfl) (fun _ _ _ h => h) (Or.inr ⟨by rfl, rfl⟩) (by assumption) ?_
            (try simp only [List.getElem_toArray, List.getElem_cons_succ, List.getElem_cons_zero, Act.put, List.setIfInBounds_toArray, List.set_cons_zero, List.set_cons_succ])
            refine wpAnyH_take (i := 11) (oi := _) (v := undef) rfl (by kernel_rfl) (by kernel_rfl) (by kernel_rfl) (fun _ _ _ h => h) (Or.inr ⟨by rfl, rfl⟩) (by assumption) ?_
            (try simp only [List.getElem_toArray, List.getElem_cons_succ, List.getElem_cons_zero, Act.put, List.setIfInBounds_toArray, List.set_cons_zero, List.set_cons_succ])
            refine wpAnyH_take (i := 12) (oi := _) (v := undef) rfl (by kernel_rfl) (by kernel_rfl) (by kernel_rfl) (fun _ _ _ h => h) (Or.inr ⟨by rfl, rfl⟩) (by assumption) ?_
            (try simp only [List.getElem_toArray, List.getElem_cons_succ, List.getElem_cons_zero, Act.put, List.setIfInBounds_toArray, List.set_cons_zero, List.set_cons_succ])
            refine wpAnyH_take (i := 13) (oi := _) (v := undef) rfl (by kernel_rfl) (by kernel_rfl) (by kernel_rfl) (fun _ _ _ h => h) (Or.inr ⟨by rfl, rfl⟩) (by assumption) ?_
            (try simp only [List.getElem_toArray, List.getElem_cons_succ, List.getElem_cons_zero, Act.put, List.setIfInBounds_toArray, List.set_cons_zero, List.set_cons_succ])
            refine wpAnyH_take (i := 14) (oi := _) (v := undef) rfl (by kernel_rfl) (by kernel_rfl) (by kernel_rfl) (fun _ _ _ h => h) (Or.inr ⟨by rfl, rfl⟩) (by assumption) ?_
            (try simp only [List.getElem_toArray, List.getElem_cons_succ, List.getElem_cons_zero, Act.put, List.setIfInBounds_toArray, List.set_cons_zero, List.set_cons_succ])
            refine wpAnyH_take (i := 15) (oi := _) (v := ?_) rfl (by kernel_rfl) (by kernel_rfl) (by kernel_rfl) (fun _ _ _ h => h) (Or.inl ⟨by rfl, ?_⟩) (by assumption) ?_; rotate_left; (focus (intro w hSw; (try dsimp only at hSw); go_simp; (try with_reducible rfl))); (try simp only [List.getElem_toArray, List.getElem_cons_succ, List.getElem_cons_zero, Act.put, List.setIfInBounds_toArray, List.set_cons_zero, List.set_cons_succ])
            refine wpAnyH_take (i := 16) (oi := _) (v := ?_) rfl (by kernel_rfl) (by kernel_rfl) (by kernel_rfl) (fun _ _ _ h => h) (Or.inl ⟨by rfl, ?_⟩) (by assumption) ?_; rotate_left; (focus (intro w hSw; (try dsimp only at hSw); go_simp; (try with_reducible rfl))); (try simp only [List.getElem_toArray, List.getElem_cons_succ, List.getElem_cons_zero, Act.put, List.setIfInBounds_toArray, List.set_cons_zero, List.set_cons_succ])
            refine wpAnyH_take (i := 17) (oi := _) (v := undef) rfl (by kernel_rfl) (by kernel_rfl) (by kernel_rfl) (fun _ _ _ h => h) (Or.inr ⟨by rfl, rfl⟩) (by assumption) ?_
            (try simp only [List.getElem_toArray, List.getElem_cons_succ, List.getElem_cons_zero, Act.put, List.setIfInBounds_toArray, List.set_cons_zero, List.set_cons_succ])
            refine wpAnyH_take (i := 18) (oi := _) (v := undef) rfl (by kernel_rfl) (by kernel_rfl) (by kernel_rfl) (fun _ _ _ h => h) (Or.inr ⟨by rfl, rfl⟩) (by assumption) ?_
            (try simp only [List.getElem_toArray, List.getElem_cons_succ, List.getElem_cons_zero, Act.put, List.setIfInBounds_toArray, List.set_cons_zero, List.set_cons_succ])
            refine wpAnyH_take (i := 19) (oi := _) (v := undef) rfl (by kernel_rfl) (by kernel_rfl) (by kernel_rfl) (fun _ _ _ h => h) (Or.inr ⟨by rfl, rfl⟩) (by assumption) ?_
            (try simp only [List.getElem_toArray, List.getElem_cons_succ, List.getElem_cons_zero, Act.put, List.setIfInBounds_toArray, List.set_cons_zero, List.set_cons_succ])
            refine wpAnyH_take (i := 20) (oi := _) (v := undef) rfl (by kernel_rfl) (by kernel_rfl) (by kernel_rfl) (fun _ _ _ h => h) (Or.inr ⟨by rfl, rfl⟩) (by assumption) ?_
            (try simp only [List.getElem_toArray, List.getElem_cons_succ, List.getElem_cons_zero, Act.put, List.setIfInBounds_toArray, List.set_cons_zero, List.set_cons_succ])
            refine wpAnyH_take (i := 21) (oi := _) (v := undef) rfl (by kernel_rfl) (by kernel_rfl) (by kernel_rfl) (fun _ _ _ h => h) (Or.inr ⟨by rfl, rfl⟩) (by assumption) ?_
            (try simp only [List.getElem_toArray, List.getElem_cons_succ, List.getElem_cons_zero, Act.put, List.setIfInBounds_toArray, List.set_cons_zero, List.set_cons_succ])
            refine wpAnyH_take (i := 22) (oi := _) (v := ?_) rfl (by kernel_rfl) (by kernel_rfl) (by kernel_rfl) (fun _ _ _ h => h) (Or.inl ⟨by rfl, ?_⟩) (by assumption) ?_; rotate_left; (focus (intro w hSw; (try dsimp only at hSw); go_simp; (try with_reducible rfl))); (try simp only [List.getElem_toArray, List.getElem_cons_succ, List.getElem_cons_zero, Act.put, List.setIfInBounds_toArray, List.set_cons_zero, List.set_cons_succ])
            refine wpAnyH_done (by kernel_rfl) ?_ _
            (try go_simp)
            have H9 : Hid _ := hHeld.2.out
            clear hHeld
            go_wp2_with fail
            go_roundg (p - (q + 1))
            case measure => omega
            case rel => exact ⟨q + 1, rfl, by omega, by go_num, bel9 H9.out HQ.out⟩
          · have n1 : ((cp : Int) != (cq : Int)) = true := by simp; omega
            cases b1 with
            | false =>
              have HM : Hid _ := hM1
              clear hce hap hM1 hM2 hfp hfq hcp hcq hbq
              go_upto_region 15 with fail
              refine wp_region_held_drew (S := (fun w' => (w'.cell? (a7.add p) = some (.int .i64 cp) ∧ w'.cell? (a7.add q) = some (.int .i64 cq)) ∧ Hid (Below w5.heap.size w5 w'))) (by kernel_rfl) ?_ (fun hHeld => ?_)
              · exact ⟨⟨e1, e2⟩, ((Below.refl _ _).drew : Below w5.heap.size w5 w5.drew)⟩
              refine wpAnyH_take (i := 0) (oi := _) (v := ?_) rfl (by kernel_rfl) (by kernel_rfl) (by kernel_rfl) (fun _ _ _ h => h) (Or.inl ⟨by rfl, ?_⟩) (by assumption) ?_; rotate_left; (focus (intro w hSw; (try dsimp only at hSw); go_simp; (try with_reducible rfl))); (try simp only [List.getElem_toArray, List.getElem_cons_succ, List.getElem_cons_zero, Act.put, List.setIfInBounds_toArray, List.set_cons_zero, List.set_cons_succ])
              refine wpAnyH_take (i := 1) (oi := _) (v := ?_) rfl (by kernel_rfl) (by kernel_rfl) (by kernel_rfl) (fun _ _ _ h => h) (Or.inl ⟨by rfl, ?_⟩) (by assumption) ?_; rotate_left; (focus (intro w hSw; (try dsimp only at hSw); go_simp; (try with_reducible rfl))); (try simp only [List.getElem_toArray, List.getElem_cons_succ, List.getElem_cons_zero, Act.put, List.setIfInBounds_toArray, List.set_cons_zero, List.set_cons_succ])
              refine wpAnyH_take (i := 2) (oi := _) (v := ?_) rfl (by kernel_rfl) (by kernel_rfl) (by kernel_rfl) (fun _ _ _ h => h) (Or.inl ⟨by rfl, ?_⟩) (by assumption) ?_; rotate_left; (focus (intro w hSw; (try dsimp only at hSw); go_simp; (try with_reducible rfl))); (try simp only [List.getElem_toArray, List.getElem_cons_succ, List.getElem_cons_zero, Act.put, List.setIfInBounds_toArray, List.set_cons_zero, List.set_cons_succ])
              refine wpAnyH_take (i := 3) (oi := _) (v := ?_) rfl (by kernel_rfl) (by kernel_rfl) (by kernel_rfl) (fun _ _ _ h => h) (Or.inl ⟨by rfl, ?_⟩) (by assumption) ?_; rotate_left; (focus (intro w hSw; (try dsimp only at hSw); go_simp; (try with_reducible rfl))); (try simp only [List.getElem_toArray, List.getElem_cons_succ, List.getElem_cons_zero, Act.put, List.setIfInBounds_toArray, List.set_cons_zero, List.set_cons_succ])
              refine wpAnyH_take (i := 4) (oi := _) (v := ?_) rfl (by kernel_rfl) (by kernel_rfl) (by kernel_rfl) (fun _ _ _ h => h) (Or.inl ⟨by rfl, ?_⟩) (by assumption) ?_; rotate_left; (focus (intro w hSw; (try dsimp only at hSw); go_simp; (try with_reducible rfl))); (try simp only [List.getElem_toArray, List.getElem_cons_succ, List.getElem_cons_zero, Act.put, List.setIfInBounds_toArray, List.set_cons_zero, List.set_cons_succ])
              refine wpAnyH_take (i := 5) (oi := _) (v := ?_) rfl (by kernel_rfl) (by kernel_rfl) (by kernel_rfl) (fun _ _ _ h => h) (Or.inl ⟨by rfl, ?_⟩) (by assumption) ?_; rotate_left; (focus (intro w hSw; (try dsimp only at hSw); go_simp; (try with_reducible rfl))); (try simp only [List.getElem_toArray, List.getElem_cons_succ, List.getElem_cons_zero, Act.put, List.setIfInBounds_toArray, List.set_cons_zero, List.set_cons_succ])
              refine wpAnyH_take (i := 6) (oi := _) (v := ?_) rfl (by kernel_rfl) (by kernel_rfl) (by kernel_rfl) (fun _ _ _ h => h) (Or.inl ⟨by rfl, ?_⟩) (by assumption) ?_; rotate_left; (focus (intro w hSw; (try dsimp only at hSw); go_simp; (try with_reducible rfl))); (try simp only [List.getElem_toArray, List.getElem_cons_succ, List.getElem_cons_zero, Act.put, List.setIfInBounds_toArray, List.set_cons_zero, List.set_cons_succ])
              refine wpAnyH_take (i := 7) (oi := _) (v := ?_) rfl (by kernel_rfl) (by kernel_rfl) (by kernel_rfl) (fun _ _ _ h => h) (Or.inl ⟨by rfl, ?_⟩) (by assumption) ?_; rotate_left; (focus (intro w hSw; (try dsimp only at hSw); go_simp; (try with_reducible rfl))); (try simp only [List.getElem_toArray, List.getElem_cons_succ, List.getElem_cons_zero, Act.put, List.setIfInBounds_toArray, List.set_cons_zero, List.set_cons_succ])
              refine wpAnyH_take (i := 8) (oi := _) (v := ?_) rfl (by kernel_rfl) (by kernel_rfl) (by kernel_rfl) (fun _ _ _ h => h) (Or.inl ⟨by rfl, ?_⟩) (by assumption) ?_; rotate_left; (focus (intro w hSw; (try dsimp only at hSw); go_simp; (try with_reducible rfl))); (try simp only [List.getElem_toArray, List.getElem_cons_succ, List.getElem_cons_zero, Act.put, List.setIfInBounds_toArray, List.set_cons_zero, List.set_cons_succ])
              refine wpAnyH_take (i := 9) (oi := _) (v := ?_) rfl (by kernel_rfl) (by kernel_rfl) (by kernel_rfl) (fun _ _ _ h => h) (Or.inl ⟨by rfl, ?_⟩) (by assumption) ?_; rotate_left; (focus (intro w hSw; (try dsimp only at hSw); go_simp; (try with_reducible rfl))); (try simp only [List.getElem_toArray, List.getElem_cons_succ, List.getElem_cons_zero, Act.put, List.setIfInBounds_toArray, List.set_cons_zero, List.set_cons_succ])
              refine wpAnyH_take (i := 10) (oi := _) (v := ?_) rfl (by kernel_rfl) (by kernel_rfl) (by kernel_rfl) (fun _ _ _ h => h) (Or.inl ⟨by rfl, ?_⟩) (by assumption) ?_; rotate_left; (focus (intro w hSw; (try dsimp only at hSw); go_simp; (try with_reducible rfl))); (try simp only [List.getElem_toArray, List.getElem_cons_succ, List.getElem_cons_zero, Act.put, List.setIfInBounds_toArray, List.set_cons_zero, List.set_cons_succ])
              refine wpAnyH_take (i := 11) (oi := _) (v := ?_) rfl (by kernel_rfl) (by kernel_rfl) (by kernel_rfl) (fun _ _ _ h => h) (Or.inl ⟨by rfl, ?_⟩) (by assumption) ?_; rotate_left; (focus (intro w hSw; (try dsimp only at hSw); go_simp; (try with_reducible rfl))); (try simp only [List.getElem_toArray, List.getElem_cons_succ, List.getElem_cons_zero, Act.put, List.setIfInBounds_toArray, List.set_cons_zero, List.set_cons_succ])
              refine wpAnyH_take (i := 12) (oi := _) (v := ?_) rfl (by kernel_rfl) (by kernel_rfl) (by kernel_rfl) (fun _ _ _ h => h) (Or.inl ⟨by rfl, ?_⟩) (by assumption) ?_; rotate_left; (focus (intro w hSw; (try dsimp only at hSw); go_simp; (try with_reducible rfl))); (try simp only [List.getElem_toArray, List.getElem_cons_succ, List.getElem_cons_zero, Act.put, List.setIfInBounds_toArray, List.set_cons_zero, List.set_cons_succ])
              refine wpAnyH_take (i := 13) (oi := _) (v := ?_) rfl (by kernel_rfl) (by kernel_rfl) (by kernel_rfl) (fun _ _ _ h => h) (Or.inl ⟨by rfl, ?_⟩) (by assumption) ?_; rotate_left; (focus (intro w hSw; (try dsimp only at hSw); go_simp; (try with_reducible rfl))); (try simp only [List.getElem_toArray, List.getElem_cons_succ, List.getElem_cons_zero, Act.put, List.setIfInBounds_toArray, List.set_cons_zero, List.set_cons_succ])
              refine wpAnyH_ready (rs := [14]) (by kernel_rfl) (by simp) ?_
              refine AllReadyH.cons (o := _) rfl (fun K hK => ?_) ?_
              · (go_simp; go_at_call 30; refine Calls.mono (HM.out _ hHeld.2.out) ?_; rintro r w6 ⟨rfl, hw6⟩)
                (try go_wp2_with fail)
                refine hK.out _ _ ?_ (fun hHeld => ?_)
                · exact ⟨⟨cell_upA hHeld.1.1 hw6, cell_upA hHeld.1.2 hw6⟩, bel9 hw6 hHeld.2.out⟩
                clear hK K
                (try simp only [List.getElem_toArray, List.getElem_cons_succ, List.getElem_cons_zero, Act.put, List.setIfInBounds_toArray, List.set_cons_zero, List.set_cons_succ])
                clear hw6
                refine wpAnyH_take (i := 15) (oi := _) (v := ?_) rfl (by kernel_rfl) (by kernel_rfl) (by kernel_rfl) (fun _ _ _ h => h) (Or.inl ⟨by rfl, ?_⟩) (by assumption) ?_; rotate_left; (focus (intro w hSw; (try dsimp only at hSw); go_simp; (try with_reducible rfl))); (try simp only [List.getElem_toArray, List.getElem_cons_succ, List.getElem_cons_zero, Act.put, List.setIfInBounds_toArray, List.set_cons_zero, List.set_cons_succ])
                refine wpAnyH_take (i := 16) (oi := _) (v := ?_) rfl (by kernel_rfl) (by kernel_rfl) (by kernel_rfl) (fun _ _ _ h => h) (Or.inl ⟨by rfl, ?_⟩) (by assumption) ?_; rotate_left; (focus (intro w hSw; (try dsimp only at hSw); go_simp; (try with_reducible rfl))); (try simp only [List.getElem_toArray, List.getElem_cons_succ, List.getElem_cons_zero, Act.put, List.setIfInBounds_toArray, List.set_cons_zero, List.set_cons_succ])
                refine wpAnyH_take (i := 17) (oi := _) (v := undef) rfl (by kernel_rfl) (by kernel_rfl) (by kernel_rfl) (fun _ _ _ h => h) (Or.inr ⟨by rfl, rfl⟩) (by assumption) ?_
                (try simp only [List.getElem_toArray, List.getElem_cons_succ, List.getElem_cons_zero, Act.put, List.setIfInBounds_toArray, List.set_cons_zero, List.set_cons_succ])
                refine wpAnyH_take (i := 18) (oi := _) (v := undef) rfl (by kernel_rfl) (by kernel_rfl) (by kernel_rfl) (fun _ _ _ h => h) (Or.inr ⟨by rfl, rfl⟩) (by assumption) ?_
                (try simp only [List.getElem_toArray, List.getElem_cons_succ, List.getElem_cons_zero, Act.put, List.setIfInBounds_toArray, List.set_cons_zero, List.set_cons_succ])
                refine wpAnyH_take (i := 19) (oi := _) (v := undef) rfl (by kernel_rfl) (by kernel_rfl) (by kernel_rfl) (fun _ _ _ h => h) (Or.inr ⟨by rfl, rfl⟩) (by assumption) ?_
                (try simp only [List.getElem_toArray, List.getElem_cons_succ, List.getElem_cons_zero, Act.put, List.setIfInBounds_toArray, List.set_cons_zero, List.set_cons_succ])
                refine wpAnyH_take (i := 20) (oi := _) (v := undef) rfl (by kernel_rfl) (by kernel_rfl) (by kernel_rfl) (fun _ _ _ h => h) (Or.inr ⟨by rfl, rfl⟩) (by assumption) ?_
                (try simp only [List.getElem_toArray, List.getElem_cons_succ, List.getElem_cons_zero, Act.put, List.setIfInBounds_toArray, List.set_cons_zero, List.set_cons_succ])
                refine wpAnyH_take (i := 21) (oi := _) (v := undef) rfl (by kernel_rfl) (by kernel_rfl) (by kernel_rfl) (fun _ _ _ h => h) (Or.inr ⟨by rfl, rfl⟩) (by assumption) ?_
                (try simp only [List.getElem_toArray, List.getElem_cons_succ, List.getElem_cons_zero, Act.put, List.setIfInBounds_toArray, List.set_cons_zero, List.set_cons_succ])
                refine wpAnyH_take (i := 22) (oi := _) (v := ?_) rfl (by kernel_rfl) (by kernel_rfl) (by kernel_rfl) (fun _ _ _ h => h) (Or.inl ⟨by rfl, ?_⟩) (by assumption) ?_; rotate_left; (focus (intro w hSw; (try dsimp only at hSw); go_simp; (try with_reducible rfl))); (try simp only [List.getElem_toArray, List.getElem_cons_succ, List.getElem_cons_zero, Act.put, List.setIfInBounds_toArray, List.set_cons_zero, List.set_cons_succ])
                refine wpAnyH_done (by kernel_rfl) ?_ _
                (try go_simp)
                have H9 : Hid _ := hHeld.2.out
                clear hHeld
                go_wp2_with fail
                go_roundg (p - (q + 1))
                case measure => omega
                case rel => exact ⟨q + 1, rfl, by omega, by go_num, bel9 H9.out HQ.out⟩
              exact AllReadyH.nil
            | true =>
              cases b2 with
              | true => exact absurd (hap rfl rfl) hce
              | false =>
                have HM : Hid _ := And.intro hM1 hM2
                clear hce hap hM1 hM2 hfp hfq hcp hcq hbq
                go_upto_region 15 with fail
                refine wp_region_held_drew (S := (fun w' => (w'.cell? (a7.add p) = some (.int .i64 cp) ∧ w'.cell? (a7.add q) = some (.int .i64 cq)) ∧ Hid (Below w5.heap.size w5 w'))) (by kernel_rfl) ?_ (fun hHeld => ?_)
                · exact ⟨⟨e1, e2⟩, ((Below.refl _ _).drew : Below w5.heap.size w5 w5.drew)⟩
                refine wpAnyH_take (i := 0) (oi := _) (v := ?_) rfl (by kernel_rfl) (by kernel_rfl) (by kernel_rfl) (fun _ _ _ h => h) (Or.inl ⟨by rfl, ?_⟩) (by assumption) ?_; rotate_left; (focus (intro w hSw; (try dsimp only at hSw); go_simp; (try with_reducible rfl))); (try simp only [List.getElem_toArray, List.getElem_cons_succ, List.getElem_cons_zero, Act.put, List.setIfInBounds_toArray, List.set_cons_zero, List.set_cons_succ])
                refine wpAnyH_take (i := 1) (oi := _) (v := ?_) rfl (by kernel_rfl) (by kernel_rfl) (by kernel_rfl) (fun _ _ _ h => h) (Or.inl ⟨by rfl, ?_⟩) (by assumption) ?_; rotate_left; (focus (intro w hSw; (try dsimp only at hSw); go_simp; (try with_reducible rfl))); (try simp only [List.getElem_toArray, List.getElem_cons_succ, List.getElem_cons_zero, Act.put, List.setIfInBounds_toArray, List.set_cons_zero, List.set_cons_succ])
                refine wpAnyH_take (i := 2) (oi := _) (v := ?_) rfl (by kernel_rfl) (by kernel_rfl) (by kernel_rfl) (fun _ _ _ h => h) (Or.inl ⟨by rfl, ?_⟩) (by assumption) ?_; rotate_left; (focus (intro w hSw; (try dsimp only at hSw); go_simp; (try with_reducible rfl))); (try simp only [List.getElem_toArray, List.getElem_cons_succ, List.getElem_cons_zero, Act.put, List.setIfInBounds_toArray, List.set_cons_zero, List.set_cons_succ])
                refine wpAnyH_take (i := 3) (oi := _) (v := ?_) rfl (by kernel_rfl) (by kernel_rfl) (by kernel_rfl) (fun _ _ _ h => h) (Or.inl ⟨by rfl, ?_⟩) (by assumption) ?_; rotate_left; (focus (intro w hSw; (try dsimp only at hSw); go_simp; (try with_reducible rfl))); (try simp only [List.getElem_toArray, List.getElem_cons_succ, List.getElem_cons_zero, Act.put, List.setIfInBounds_toArray, List.set_cons_zero, List.set_cons_succ])
                refine wpAnyH_take (i := 4) (oi := _) (v := ?_) rfl (by kernel_rfl) (by kernel_rfl) (by kernel_rfl) (fun _ _ _ h => h) (Or.inl ⟨by rfl, ?_⟩) (by assumption) ?_; rotate_left; (focus (intro w hSw; (try dsimp only at hSw); go_simp; (try with_reducible rfl))); (try simp only [List.getElem_toArray, List.getElem_cons_succ, List.getElem_cons_zero, Act.put, List.setIfInBounds_toArray, List.set_cons_zero, List.set_cons_succ])
                refine wpAnyH_take (i := 5) (oi := _) (v := ?_) rfl (by kernel_rfl) (by kernel_rfl) (by kernel_rfl) (fun _ _ _ h => h) (Or.inl ⟨by rfl, ?_⟩) (by assumption) ?_; rotate_left; (focus (intro w hSw; (try dsimp only at hSw); go_simp; (try with_reducible rfl))); (try simp only [List.getElem_toArray, List.getElem_cons_succ, List.getElem_cons_zero, Act.put, List.setIfInBounds_toArray, List.set_cons_zero, List.set_cons_succ])
                refine wpAnyH_take (i := 6) (oi := _) (v := ?_) rfl (by kernel_rfl) (by kernel_rfl) (by kernel_rfl) (fun _ _ _ h => h) (Or.inl ⟨by rfl, ?_⟩) (by assumption) ?_; rotate_left; (focus (intro w hSw; (try dsimp only at hSw); go_simp; (try with_reducible rfl))); (try simp only [List.getElem_toArray, List.getElem_cons_succ, List.getElem_cons_zero, Act.put, List.setIfInBounds_toArray, List.set_cons_zero, List.set_cons_succ])
                refine wpAnyH_take (i := 7) (oi := _) (v := ?_) rfl (by kernel_rfl) (by kernel_rfl) (by kernel_rfl) (fun _ _ _ h => h) (Or.inl ⟨by rfl, ?_⟩) (by assumption) ?_; rotate_left; (focus (intro w hSw; (try dsimp only at hSw); go_simp; (try with_reducible rfl))); (try simp only [List.getElem_toArray, List.getElem_cons_succ, List.getElem_cons_zero, Act.put, List.setIfInBounds_toArray, List.set_cons_zero, List.set_cons_succ])
                refine wpAnyH_take (i := 8) (oi := _) (v := ?_) rfl (by kernel_rfl) (by kernel_rfl) (by kernel_rfl) (fun _ _ _ h => h) (Or.inl ⟨by rfl, ?_⟩) (by assumption) ?_; rotate_left; (focus (intro w hSw; (try dsimp only at hSw); go_simp; (try with_reducible rfl))); (try simp only [List.getElem_toArray, List.getElem_cons_succ, List.getElem_cons_zero, Act.put, List.setIfInBounds_toArray, List.set_cons_zero, List.set_cons_succ])
                refine wpAnyH_take (i := 9) (oi := _) (v := ?_) rfl (by kernel_rfl) (by kernel_rfl) (by kernel_rfl) (fun _ _ _ h => h) (Or.inl ⟨by rfl, ?_⟩) (by assumption) ?_; rotate_left; (focus (intro w hSw; (try dsimp only at hSw); go_simp; (try with_reducible rfl))); (try simp only [List.getElem_toArray, List.getElem_cons_succ, List.getElem_cons_zero, Act.put, List.setIfInBounds_toArray, List.set_cons_zero, List.set_cons_succ])
                refine wpAnyH_take (i := 10) (oi := _) (v := ?_) rfl (by kernel_rfl) (by kernel_rfl) (by kernel_rfl) (fun _ _ _ h => h) (Or.inl ⟨by rfl, ?_⟩) (by assumption) ?_; rotate_left; (focus (intro w hSw; (try dsimp only at hSw); go_simp; (try with_reducible rfl))); (try simp only [List.getElem_toArray, List.getElem_cons_succ, List.getElem_cons_zero, Act.put, List.setIfInBounds_toArray, List.set_cons_zero, List.set_cons_succ])
                refine wpAnyH_take (i := 11) (oi := _) (v := ?_) rfl (by kernel_rfl) (by kernel_rfl) (by kernel_rfl) (fun _ _ _ h => h) (Or.inl ⟨by rfl, ?_⟩) (by assumption) ?_; rotate_left; (focus (intro w hSw; (try dsimp only at hSw); go_simp; (try with_reducible rfl))); (try simp only [List.getElem_toArray, List.getElem_cons_succ, List.getElem_cons_zero, Act.put, List.setIfInBounds_toArray, List.set_cons_zero, List.set_cons_succ])
                refine wpAnyH_take (i := 12) (oi := _) (v := ?_) rfl (by kernel_rfl) (by kernel_rfl) (by kernel_rfl) (fun _ _ _ h => h) (Or.inl ⟨by rfl, ?_⟩) (by assumption) ?_; rotate_left; (focus (intro w hSw; (try dsimp only at hSw); go_simp; (try with_reducible rfl))); (try simp only [List.getElem_toArray, List.getElem_cons_succ, List.getElem_cons_zero, Act.put, List.setIfInBounds_toArray, List.set_cons_zero, List.set_cons_succ])
                refine wpAnyH_take (i := 13) (oi := _) (v := ?_) rfl (by kernel_rfl) (by kernel_rfl) (by kernel_rfl) (fun _ _ _ h => h) (Or.inl ⟨by rfl, ?_⟩) (by assumption) ?_; rotate_left; (focus (intro w hSw; (try dsimp only at hSw); go_simp; (try with_reducible rfl))); (try simp only [List.getElem_toArray, List.getElem_cons_succ, List.getElem_cons_zero, Act.put, List.setIfInBounds_toArray, List.set_cons_zero, List.set_cons_succ])
                refine wpAnyH_ready (rs := [14]) (by kernel_rfl) (by simp) ?_
                refine AllReadyH.cons (o := _) rfl (fun K hK => ?_) ?_
                · (go_simp; go_at_call 30; refine Calls.mono (HM.out.1 _ hHeld.2.out) ?_; rintro r w6 ⟨rfl, hw6⟩)
                  (try go_wp2_with fail)
                  refine hK.out _ _ ?_ (fun hHeld => ?_)
                  · exact ⟨⟨cell_upA hHeld.1.1 hw6, cell_upA hHeld.1.2 hw6⟩, bel9 hw6 hHeld.2.out⟩
                  clear hK K
                  (try simp only [List.getElem_toArray, List.getElem_cons_succ, List.getElem_cons_zero, Act.put, List.setIfInBounds_toArray, List.set_cons_zero, List.set_cons_succ])
                  clear hw6
                  refine wpAnyH_take (i := 15) (oi := _) (v := ?_) rfl (by kernel_rfl) (by kernel_rfl) (by kernel_rfl) (fun _ _ _ h => h) (Or.inl ⟨by rfl, ?_⟩) (by assumption) ?_; rotate_left; (focus (intro w hSw; (try dsimp only at hSw); go_simp; (try with_reducible rfl))); (try simp only [List.getElem_toArray, List.getElem_cons_succ, List.getElem_cons_zero, Act.put, List.setIfInBounds_toArray, List.set_cons_zero, List.set_cons_succ])
                  refine wpAnyH_take (i := 16) (oi := _) (v := ?_) rfl (by kernel_rfl) (by kernel_rfl) (by kernel_rfl) (fun _ _ _ h => h) (Or.inl ⟨by rfl, ?_⟩) (by assumption) ?_; rotate_left; (focus (intro w hSw; (try dsimp only at hSw); go_simp; (try with_reducible rfl))); (try simp only [List.getElem_toArray, List.getElem_cons_succ, List.getElem_cons_zero, Act.put, List.setIfInBounds_toArray, List.set_cons_zero, List.set_cons_succ])
                  refine wpAnyH_take (i := 17) (oi := _) (v := ?_) rfl (by kernel_rfl) (by kernel_rfl) (by kernel_rfl) (fun _ _ _ h => h) (Or.inl ⟨by rfl, ?_⟩) (by assumption) ?_; rotate_left; (focus (intro w hSw; (try dsimp only at hSw); go_simp; (try with_reducible rfl))); (try simp only [List.getElem_toArray, List.getElem_cons_succ, List.getElem_cons_zero, Act.put, List.setIfInBounds_toArray, List.set_cons_zero, List.set_cons_succ])
                  refine wpAnyH_take (i := 18) (oi := _) (v := ?_) rfl (by kernel_rfl) (by kernel_rfl) (by kernel_rfl) (fun _ _ _ h => h) (Or.inl ⟨by rfl, ?_⟩) (by assumption) ?_; rotate_left; (focus (intro w hSw; (try dsimp only at hSw); go_simp; (try with_reducible rfl))); (try simp only [List.getElem_toArray, List.getElem_cons_succ, List.getElem_cons_zero, Act.put, List.setIfInBounds_toArray, List.set_cons_zero, List.set_cons_succ])
                  refine wpAnyH_take (i := 19) (oi := _) (v := ?_) rfl (by kernel_rfl) (by kernel_rfl) (by kernel_rfl) (fun _ _ _ h => h) (Or.inl ⟨by rfl, ?_⟩) (by assumption) ?_; rotate_left; (focus (intro w hSw; (try dsimp only at hSw); go_simp; (try with_reducible rfl))); (try simp only [List.getElem_toArray, List.getElem_cons_succ, List.getElem_cons_zero, Act.put, List.setIfInBounds_toArray, List.set_cons_zero, List.set_cons_succ])
                  refine wpAnyH_take (i := 20) (oi := _) (v := ?_) rfl (by kernel_rfl) (by kernel_rfl) (by kernel_rfl) (fun _ _ _ h => h) (Or.inl ⟨by rfl, ?_⟩) (by assumption) ?_; rotate_left; (focus (intro w hSw; (try dsimp only at hSw); go_simp; (try with_reducible rfl))); (try simp only [List.getElem_toArray, List.getElem_cons_succ, List.getElem_cons_zero, Act.put, List.setIfInBounds_toArray, List.set_cons_zero, List.set_cons_succ])
                  refine wpAnyH_ready (rs := [21]) (by kernel_rfl) (by simp) ?_
                  refine AllReadyH.cons (o := _) rfl (fun K hK => ?_) ?_
                  · (go_simp; go_at_call 30; refine Calls.mono (HM.out.2 _ hHeld.2.out) ?_; rintro r w7 ⟨rfl, hw7⟩)
                    (try go_wp2_with fail)
                    refine hK.out _ _ ?_ (fun hHeld => ?_)
                    · exact ⟨⟨cell_upA hHeld.1.1 hw7, cell_upA hHeld.1.2 hw7⟩, bel9 hw7 hHeld.2.out⟩
                    clear hK K
                    (try simp only [List.getElem_toArray, List.getElem_cons_succ, List.getElem_cons_zero, Act.put, List.setIfInBounds_toArray, List.set_cons_zero, List.set_cons_succ])
                    clear hw7
                    refine wpAnyH_take (i := 22) (oi := _) (v := ?_) rfl (by kernel_rfl) (by kernel_rfl) (by kernel_rfl) (fun _ _ _ h => h) (Or.inl ⟨by rfl, ?_⟩) (by assumption) ?_; rotate_left; (focus (intro w hSw; (try dsimp only at hSw); go_simp; (try with_reducible rfl))); (try simp only [List.getElem_toArray, List.getElem_cons_succ, List.getElem_cons_zero, Act.put, List.setIfInBounds_toArray, List.set_cons_zero, List.set_cons_succ])
                    refine wpAnyH_done (by kernel_rfl) ?_ _
                    (try go_simp)
                    have H9 : Hid _ := hHeld.2.out
                    clear hHeld
                    go_wp2_with fail
                    go_roundg (p - (q + 1))
                    case measure => omega
                    case rel => exact ⟨q + 1, rfl, by omega, by go_num, bel9 H9.out HQ.out⟩
                  exact AllReadyH.nil
                exact AllReadyH.nil
        · obtain rfl : q = p := by omega
          have t1 : ¬ (q : Int) < (q : Int) := by omega
          have HQ : Hid _ := hbq
          clear hbq
          go_wp2_with fail
          go_roundg (m - (q + 1))
          case measure => omega
          case rel => exact ⟨q + 1, rfl, by omega, by go_num, HQ.out⟩
    · obtain rfl : p = m := by omega
      have r0 : ¬ (p : Int) < (p : Int) := by omega
      have HP : Hid _ := bel9 hbp H4.out.1
      clear hbp x0 x1 x2 x3
      go_wp2_with fail
      refine Calls.mono (H1.out.2.2.2.2.2.2.1 _ HP.out) ?_
      rintro r w8 ⟨rfl, hb8⟩
      have H8 : Hid _ := bel9 hb8 HP.out
      clear hb8
      go_wp2_with fail
      go_ret
      exact ⟨rfl, H8.out⟩
theorem lawApart_any (hS : SortOk 1000000) (n k s : Int) (v : Value) (es : List Sy.Ed) (aS aC a1 a3 : Addr) (w : World) (hE : EnvS w aS aC a1 a3) (hv : HasE w v es) :
    Calls Tryz.prog 8 #[sysV n k s v] w fun r w' => r = .returned (.bool true) ∧ Below w.heap.size w w' := by
  have hA := pAl9 hS aS aC a1 a3 w hE
  by_cases h1 : 80 < n ∨ 600 < es.length
  · exact lawApart_out n k s v es w hA hv h1
  · cases hq : Sy.right n k s es with
    | false => exact lawApart_bad hS n k s v es aS aC a1 a3 w hA hE hv (by omega) (by omega) hq
    | true =>
      have hp := right_parts hq
      obtain ⟨m, rfl⟩ : ∃ m : Nat, n = (m : Int) := ⟨n.toNat, by omega⟩
      obtain ⟨kk, rfl⟩ : ∃ m : Nat, k = (m : Int) := ⟨k.toNat, by omega⟩
      exact lawApart_ok hS m kk s v es aS aC a1 a3 w hA hE hv (by omega) (by omega) hq
end Go.Proofs.YtkiapldehlnndaaGreatDoor
/- What the listed package variables give: api's errors lie in memory, each at an address of its own, whichever are listed. (Written by mker.py.) -/
namespace Go.Proofs.YtkiapldehlnndaaGreatDoor
open Go.ChangeShapes Go.WideShapes Go.ChangeAt Go.WideMaps Go.WideElems Go.RowKit
theorem Tryz.own : ownKnob Tryz.prog.godebug = none := by kernel_rfl
theorem Tryz.laidOut : laidOutB Tryz.prog = true := by kernel_rfl
theorem Tryz.cellsE : Tryz.prog.cellsOf 307 = 1 := by kernel_rfl
theorem Tryz.cellsS : Tryz.prog.cellsOf 9 = 1 := by kernel_rfl
set_option maxRecDepth 100000 in
theorem Tryz.star : "*" ++ "errors.errorString" = "*errors.errorString" := by decide
set_option maxRecDepth 100000 in
theorem Tryz.rowE (u : TypeId) (h : Tryz.prog.typeName? 3 u = some "*errors.errorString") : u = 287 :=
  typeName_ptr_named (nm := "errors.errorString") (by rw [Tryz.star]; kernel_rfl) (by kernel_rfl) (by decide) u (by rw [Tryz.star]; exact h)
set_option maxRecDepth 100000 in
theorem laid_step {W : World} {n : String} {g : Nat} {text : List UInt8} {r : List (String × DataW Unit)} {ps : List MemPlace} (hg : Tryz.prog.globalNamed n = some g) (ht : (Tryz.prog.globals[g]?).map (·.type) = some 30)
    (h : DataW.LaidVars Tryz.prog W ((n, .iface "*errors.errorString" (.ptr (.agg [.lit (.string text)]))) :: r) ps)
    (hrows : ∀ b off, MemPlace.cell b off ∈ ps → (∃ c t, W.heap[b]? = some (.cells c t (0, 0))) ∧ ∀ u v, W.cell? ⟨b, off, none⟩ = some (.iface u v) → Value.okWide Tryz.prog W .any 0 u v) :
    ∃ a q, Sent W g a ∧ DataW.LaidVars Tryz.prog W r q ∧ ps = MemPlace.cell g 0 :: MemPlace.cell a.block a.off :: q := by
  obtain ⟨g0, t0, cs0, f0, p0, q0, hg0, ht0, hv0, hd0, hr, e0⟩ := h
  obtain rfl := Option.some.inj (hg.symm.trans hg0)
  obtain rfl := Option.some.inj (ht.symm.trans ht0)
  subst e0
  obtain ⟨l0⟩ := cs0
  have ok0 : ∀ u v, l0 = [.iface u v] → Value.okWide Tryz.prog W .any 0 u v := fun u v e => by
    subst e
    exact (hrows g 0 (by simp [MemPlace.row])).2 u v (by simpa using World.var?_cell hg0 hv0 0)
  obtain ⟨a0, s0, rfl, hc0, hs0, hz0, rfl⟩ := errorString_of_trod Tryz.underlying30 Tryz.rowE Tryz.underlying287 Tryz.underlying307 rfl rfl Tryz.underlying9 Tryz.cellsE Tryz.cellsS hd0 ok0
  refine ⟨a0, q0, ⟨by simpa using World.var?_cell hg0 hv0 0, (hrows a0.block a0.off (by simp [MemPlace.row])).1⟩, hr, ?_⟩
  simp [MemPlace.row]
abbrev LE : Type := String × Nat × List UInt8
def leV (x : LE) : String × DataW Unit := (x.1, .iface "*errors.errorString" (.ptr (.agg [.lit (.string x.2.2)])))
theorem laid_list {W : World} {r : List (String × DataW Unit)} : ∀ (xs : List LE) (ps : List MemPlace), (∀ x ∈ xs, Tryz.prog.globalNamed x.1 = some x.2.1 ∧ (Tryz.prog.globals[x.2.1]?).map (·.type) = some 30) →
    DataW.LaidVars Tryz.prog W (xs.map leV ++ r) ps → (∀ b off, MemPlace.cell b off ∈ ps → (∃ c t, W.heap[b]? = some (.cells c t (0, 0))) ∧ ∀ u v, W.cell? ⟨b, off, none⟩ = some (.iface u v) → Value.okWide Tryz.prog W .any 0 u v) →
    ∃ ads : List Addr, ads.length = xs.length ∧ (∀ (i : Nat) (x : LE) (a : Addr), xs[i]? = some x → ads[i]? = some a → Sent W x.2.1 a) ∧ (∀ a ∈ ads, MemPlace.cell a.block a.off ∈ ps) ∧ (ps.Nodup → ads.Pairwise (· ≠ ·))
  | [], ps, _, _, _ => ⟨[], rfl, fun i x a h => by simp at h, fun a h => by simp at h, fun _ => List.Pairwise.nil⟩
  | x :: xs, ps, hx, h, hr => by
    obtain ⟨a, q, hs, hq, rfl⟩ := laid_step (hx x List.mem_cons_self).1 (hx x List.mem_cons_self).2 h hr
    obtain ⟨ads, h1, h2, h3, h4⟩ := laid_list xs q (fun y hy => hx y (List.mem_cons_of_mem _ hy)) hq (fun b off hb => hr b off (List.mem_cons_of_mem _ (List.mem_cons_of_mem _ hb)))
    refine ⟨a :: ads, by simp [h1], fun i y b hy hb => ?_, fun b hb => ?_, fun hn => ?_⟩
    · cases i with
      | zero => simp at hy hb; subst hy; subst hb; exact hs
      | succ i => exact h2 i y b (by simpa using hy) (by simpa using hb)
    · rcases List.mem_cons.1 hb with rfl | hb
      · exact List.mem_cons_of_mem _ List.mem_cons_self
      · exact List.mem_cons_of_mem _ (List.mem_cons_of_mem _ (h3 b hb))
    · have hn2 := (List.nodup_cons.1 hn).2
      have hn3 := List.nodup_cons.1 hn2
      exact List.Pairwise.cons (fun b hb e => hn3.1 (by rw [e]; exact h3 b hb)) (h4 hn3.2)
end Go.Proofs.YtkiapldehlnndaaGreatDoor
/- What the listed package variables give strong's statements: four errors and the handle that errors.As asks. -/
namespace Go.Proofs.YtkiapldehlnndaaGreatDoor
open Go.ChangeShapes Go.WideShapes Go.ChangeAt Go.WideMaps Go.WideElems Go.RowKit
theorem Tryz.et : Tryz.prog.globalNamed "errors.errorType" = some 19 := by kernel_rfl
theorem Tryz.rt : (Tryz.prog.cutTypes.find? (·.1 == "internal/reflectlite.rtype")).map (·.2) = some 200 := by kernel_rfl
theorem Tryz.oneRow : ((List.range Tryz.prog.types.size).filter fun t => Tryz.prog.rowNamed t [101, 114, 114, 111, 114]) = [30] := by kernel_rfl
set_option maxRecDepth 100000 in
theorem handle_of {W : World} (h : handlesMet Tryz.prog [("errors.errorType", Rows.laid_errors_errorType)] W) : W.cell? ⟨19, 0, none⟩ = some (.iface 200 (.agg #[.pointer (some ⟨20, 30, none⟩)])) := by
  obtain ⟨name, u, ty, e1, e2, e3, e4, e5⟩ := h _ (List.mem_singleton.2 rfl)
  have en : name = [101, 114, 114, 111, 114] := (Option.some.inj e1).symm
  subst en
  obtain rfl := Option.some.inj (Tryz.rt.symm.trans e2)
  have hm : ty ∈ (List.range Tryz.prog.types.size).filter fun t => Tryz.prog.rowNamed t [101, 114, 114, 111, 114] := List.mem_filter.2 ⟨List.mem_range.2 e3, e4⟩
  rw [Tryz.oneRow] at hm
  obtain rfl := List.mem_singleton.1 hm
  have hh : typeHandle Tryz.prog 30 = .pointer (some ⟨20, 30, none⟩) := by kernel_rfl
  rw [hh] at e5
  simpa using World.var?_cell Tryz.et e5 0
theorem four_of {W : World} {x1 x3 x14 x15 : List UInt8} {r : List (String × DataW Unit)} (h : laidMet Tryz.prog (("semblance/api.ErrArg", .iface "*errors.errorString" (.ptr (.agg [.lit (.string x1)]))) :: ("semblance/api.ErrIndex", .iface "*errors.errorString" (.ptr (.agg [.lit (.string x3)]))) :: ("semblance/api.ErrSystem", .iface "*errors.errorString" (.ptr (.agg [.lit (.string x14)]))) :: ("semblance/api.ErrClasses", .iface "*errors.errorString" (.ptr (.agg [.lit (.string x15)]))) :: r) W) : ∃ a1 a3 aS aC, Sent W 2 a1 ∧ Sent W 4 a3 ∧ Sent W 0 aS ∧ Sent W 1 aC := by
  obtain ⟨ps, h0, hnd, r0⟩ := h
  obtain ⟨ads, h1, h2, _, _⟩ := laid_list [("semblance/api.ErrArg", 2, x1), ("semblance/api.ErrIndex", 4, x3), ("semblance/api.ErrSystem", 0, x14), ("semblance/api.ErrClasses", 1, x15)] ps (fun x hx => by
    simp only [List.mem_cons, List.not_mem_nil, or_false] at hx
    rcases hx with rfl | rfl | rfl | rfl
    · exact ⟨by kernel_rfl, by kernel_rfl⟩
    · exact ⟨by kernel_rfl, by kernel_rfl⟩
    · exact ⟨by kernel_rfl, by kernel_rfl⟩
    · exact ⟨by kernel_rfl, by kernel_rfl⟩) h0 r0
  have at' : ∀ i, i < 4 → ∃ a, ads[i]? = some a := fun i hi => ⟨_, List.getElem?_eq_getElem (by rw [h1]; exact hi)⟩
  obtain ⟨a, ha⟩ := at' 0 (by decide)
  obtain ⟨b, hb⟩ := at' 1 (by decide)
  obtain ⟨c, hc⟩ := at' 2 (by decide)
  obtain ⟨d, hd⟩ := at' 3 (by decide)
  exact ⟨a, b, c, d, h2 0 _ a rfl ha, h2 1 _ b rfl hb, h2 2 _ c rfl hc, h2 3 _ d rfl hd⟩
theorem envS_of {W : World} {x1 x3 x14 x15 : List UInt8} {r : List (String × DataW Unit)} (h : laidMet Tryz.prog (("semblance/api.ErrArg", .iface "*errors.errorString" (.ptr (.agg [.lit (.string x1)]))) :: ("semblance/api.ErrIndex", .iface "*errors.errorString" (.ptr (.agg [.lit (.string x3)]))) :: ("semblance/api.ErrSystem", .iface "*errors.errorString" (.ptr (.agg [.lit (.string x14)]))) :: ("semblance/api.ErrClasses", .iface "*errors.errorString" (.ptr (.agg [.lit (.string x15)]))) :: r) W ∧ handlesMet Tryz.prog [("errors.errorType", Rows.laid_errors_errorType)] W) : ∃ aS aC a1 a3, EnvS W aS aC a1 a3 := by
  obtain ⟨a1, a3, aS, aC, h1, h3, hs, hc⟩ := four_of h.1
  exact ⟨aS, aC, a1, a3, hs, hc, h1, h3, handle_of h.2⟩
end Go.Proofs.YtkiapldehlnndaaGreatDoor
/- Contracts of the book's SameSystem, Lent and Stays. -/
namespace Go.Proofs.YtkiapldehlnndaaGreatDoor
open Go.RowKit Go.Maps
attribute [local go_sem ↓] Go.wp_at_zero Go.wp_at_succ
def mk3 : List Sy.Ed := [(-7, 0, 0), (-7, 1, 0), (-7, 2, 0)]
def LentE (w : World) (B : Nat) (u : Value) (es : List Sy.Ed) : Prop := ∃ g cap, u = .slice (some ⟨g, 0, none⟩) es.length cap ∧ es.length + 3 ≤ cap ∧ BEdges.Own w B (.slice (some ⟨g, 0, none⟩) (es.length + 3) cap) (es ++ mk3)
end Go.Proofs.YtkiapldehlnndaaGreatDoor
/- A list of numbers that came in, as a plain list. -/
namespace Go.Proofs.YtkiapldehlnndaaGreatDoor
open Go.ChangeShapes Go.WideShapes Go.ChangeAt Go.WideMaps Go.WideElems Go.RowKit
theorem Tryz.cIntE : Tryz.prog.cellsOf 3 = 1 := by kernel_rfl
end Go.Proofs.YtkiapldehlnndaaGreatDoor
/- A list of edges, and a system, that came in, out of their reading. -/
namespace Go.Proofs.YtkiapldehlnndaaGreatDoor
open Go.ChangeShapes Go.WideShapes Go.ChangeAt Go.WideMaps Go.WideElems Go.RowKit
theorem Tryz.cEdge : Tryz.prog.cellsOf 72 = 3 := by kernel_rfl
theorem Tryz.cSys : Tryz.prog.cellsOf 24 = 4 := by kernel_rfl
theorem ed_choose {n : Nat} {p : Nat → Sy.Ed → Prop} (h : ∀ i, i < n → ∃ x, p i x) : ∃ f : Nat → Sy.Ed, ∀ i, i < n → p i (f i) := by
  classical
  refine ⟨fun i => if hi : i < n then Classical.choose (h i hi) else (0, 0, 0), fun i hi => ?_⟩
  simp only [hi, dif_pos]
  exact Classical.choose_spec (h i hi)
set_option maxRecDepth 100000 in
theorem edge_in {H : Type} {enc : TypeId × Value → H} {W : World} {fuel i : Nat} {a : Addr} {cs : List Value} {x : DataW H × List MemPlace} (hc : W.cells? 0 (a.add (i * 3)) 3 = some cs) (h : DataW.trod enc Tryz.prog W 0 (fun _ => true) true fuel 72 cs = some x) :
    ∃ z : Sy.Ed, ∀ q u, (BEdges.enc z)[q]? = some u → W.cell? (a.add (i * 3 + q)) = some u := by
  obtain ⟨_, hlen, hcell⟩ := World.cells?_some hc
  obtain ⟨xs, k, hk, _, _, hxl, hf⟩ := DataW.trod_struct Tryz.underlying72 h
  match xs, hxl, cs, hlen with
  | [y0, y1, y2], _, [v0, v1, v2], _ =>
    have g0 := hf 0 _ rfl
    have g1 := hf 1 _ rfl
    have g2 := hf 2 _ rfl
    simp [Tryz.cIntE] at g0 g1 g2
    obtain ⟨z0, e0, _⟩ := DataW.trod_int Tryz.underlying3 g0
    obtain ⟨z1, e1, _⟩ := DataW.trod_int Tryz.underlying3 g1
    obtain ⟨z2, e2, _⟩ := DataW.trod_int Tryz.underlying3 g2
    obtain rfl : v0 = .int .i64 z0 := by simpa using e0
    obtain rfl : v1 = .int .i64 z1 := by simpa using e1
    obtain rfl : v2 = .int .i64 z2 := by simpa using e2
    have c0 := hcell 0 (by omega)
    have c1 := hcell 1 (by omega)
    have c2 := hcell 2 (by omega)
    rw [Go.Deep.add_add] at c0 c1 c2
    refine ⟨(z0, z1, z2), fun q u hq => ?_⟩
    match q, hq with
    | 0, hq => cases hq; simpa using c0
    | 1, hq => cases hq; simpa using c1
    | 2, hq => cases hq; simpa using c2
    | q + 3, hq => simp [BEdges.enc] at hq
set_option maxRecDepth 100000 in
theorem edges_in {H : Type} {enc : TypeId × Value → H} {W : World} {fuel : Nat} {v : Value} {x : DataW H × List MemPlace} (h : DataW.trod enc Tryz.prog W 0 (fun _ => true) true fuel 22 [v] = some x) : ∃ es, HasE W v es ∧ es.length ≤ maxLen := by
  rcases Go.Deep.open_slice Tryz.underlying22 h with ⟨hc, _⟩ | ⟨a, len, cap, m, n, D, Pl, hc, _, hl, hm, hmm, _, hx⟩
  · obtain rfl : v = .slice none 0 0 := by injection hc
    exact ⟨[], ⟨none, 0, rfl, Nat.le_refl _, none, 0, rfl, fun i s h => by simp [BEdges.C] at h⟩, by simp⟩
  · obtain rfl : v = .slice (some a) len cap := by injection hc
    have hm' : m = cap := by simpa using hmm
    rw [Tryz.cEdge] at hx
    have each : ∀ i, i < len → ∃ z : Sy.Ed, ∀ q u, (BEdges.enc z)[q]? = some u → W.cell? (a.add (i * 3 + q)) = some u := fun i hi => by
      obtain ⟨cs, h1, h2⟩ := hx i (by omega)
      exact edge_in h1 h2
    obtain ⟨f, hf'⟩ := ed_choose each
    have hL : ((List.range len).map f).length = len := by simp
    refine ⟨(List.range len).map f, ⟨some a, cap, by rw [hL], by rw [hL]; omega, some a, cap, by rw [hL], fun j u hj => ⟨a, rfl, ?_⟩⟩, by rw [hL]; omega⟩
    have hj3 : j < len * 3 := by have := (List.getElem?_eq_some_iff.1 hj).1; rw [BEdges.C_len, hL] at this; exact this
    have hi : j / 3 < len := by omega
    have hz : ((List.range len).map f)[j / 3]? = some (f (j / 3)) := by rw [List.getElem?_map, List.getElem?_range hi]; rfl
    have h9 := BEdges.C_at _ _ _ hz (j % 3) (Nat.mod_lt _ (by decide))
    have e9 : j / 3 * 3 + j % 3 = j := by omega
    rw [e9, hj] at h9
    have h8 := hf' (j / 3) hi (j % 3) u h9.symm
    rw [e9] at h8
    exact h8
set_option maxRecDepth 100000 in
theorem has_sys {H : Type} {enc : TypeId × Value → H} {W : World} {base : Nat} {v : Value} {d : DataW H} {ps : List MemPlace} (hok : Value.okWide Tryz.prog W .any base 24 v) (h : DataW.Trod enc Tryz.prog W 0 (fun _ => true) true 24 v d ps) :
    ∃ (n k s : Int) (u : Value) (es : List Sy.Ed), v = sysV n k s u ∧ HasE W u es ∧ es.length ≤ maxLen := by
  obtain ⟨v0, v1, v2, v3, y0, y1, y2, y3, f, rfl, _, _, t0, t1, t2, t3⟩ := Go.Joins.open_agg4 Tryz.underlying24 (by kernel_rfl) Tryz.cSys hok h
  obtain ⟨z0, e0, _⟩ := DataW.trod_int Tryz.underlying3 t0
  obtain ⟨z1, e1, _⟩ := DataW.trod_int Tryz.underlying3 t1
  obtain ⟨z2, e2, _⟩ := DataW.trod_int Tryz.underlying3 t2
  obtain rfl : v0 = .int .i64 z0 := by simpa using e0
  obtain rfl : v1 = .int .i64 z1 := by simpa using e1
  obtain rfl : v2 = .int .i64 z2 := by simpa using e2
  obtain ⟨es, h1, h2⟩ := edges_in t3
  exact ⟨z0, z1, z2, v3, es, rfl, h1, h2⟩
end Go.Proofs.YtkiapldehlnndaaGreatDoor
