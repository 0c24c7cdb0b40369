/- Contract of the law's met: is each step of p met by a step of q into the same class? -/
import Derived.Test.YtnpooilcpapkaaaGreatDoorPart3
import Derived.Test.YtnpooilcpapkaaaGreatDoorPart11
namespace Go.Proofs.YtnpooilcpapkaaaGreatDoor
open Go.RowKit Go.Maps
attribute [local go_sem ↓] Go.wp_at_zero Go.wp_at_succ
theorem bel9 {w W w8 : World} (hb : Below W.heap.size W w8) (h : Below w.heap.size w W) : Below w.heap.size w w8 := h.trans (hb.mono h.size)
/-- One step is met by steps with its label. -/
def hit (c : List Nat) (ys : List Int) (t : Int) (j : Nat) : Bool := (ys.take j).any fun y => Ro.cl c y == Ro.cl c t
def metB (c : List Nat) (xs ys : List BSteps.El) : Bool := xs.all fun x => (Sy.ends ys x.1).any fun y => Ro.cl c y == Ro.cl c x.2
theorem hit_succ (c : List Nat) {ys : List Int} (t : Int) {j : Nat} {y : Int} (h : ys[j]? = some y) : hit c ys t (j + 1) = (hit c ys t j || (Ro.cl c y == Ro.cl c t)) := by
  unfold hit
  rw [take_succ_of h]
  simp
theorem hit_all (c : List Nat) {ys : List Int} (t : Int) {j : Nat} (h : j = ys.length) : hit c ys t j = ys.any fun y => Ro.cl c y == Ro.cl c t := by
  unfold hit
  rw [List.take_of_length_le (by omega)]
theorem met_iff {c : List Nat} {xs ys : List BSteps.El} : metB c xs ys = true ↔ ∀ b k, Ro.leads c xs b k → Ro.leads c ys b k := by
  unfold metB Ro.leads
  rw [List.all_eq_true]
  constructor
  · rintro h b k ⟨z, hz, rfl, rfl⟩
    have h1 := h z hz
    rw [List.any_eq_true] at h1
    obtain ⟨y, hy, he⟩ := h1
    unfold Sy.ends at hy
    obtain ⟨z2, hz2, rfl⟩ := List.mem_map.1 hy
    obtain ⟨h2, h3⟩ := List.mem_filter.1 hz2
    exact ⟨z2, h2, by simpa using h3, by simpa using he⟩
  · intro h z hz
    obtain ⟨z2, h2, h3, h4⟩ := h z.1 (Ro.cl c z.2) ⟨z, hz, rfl, rfl⟩
    rw [List.any_eq_true]
    exact ⟨z2.2, List.mem_map.2 ⟨z2, List.mem_filter.2 ⟨h2, by simpa using h3⟩, rfl⟩, by simpa using h4⟩
theorem res_up9 {W w8 : World} {b : Nat} {o : Obj} (hb : Below W.heap.size W w8) (h : W.heap[b]? = some o) : w8.heap[b]? = some o := (hb.block b (t_lt h)).trans h
theorem met_no {c : List Nat} {xs ys : List BSteps.El} {i : Nat} (h : metB c (xs.take (i + 1)) ys = false) : metB c xs ys = false := by
  unfold metB at h ⊢
  rw [List.all_eq_false] at h ⊢
  obtain ⟨x, hx, hn⟩ := h
  exact ⟨x, List.mem_of_mem_take hx, hn⟩
theorem hasI_at {w : World} {ao : Option Addr} {n cap : Nat} {zs : List Int} (h : HasI w (.slice ao n cap) zs) {i : Nat} {z : Int} (hz : zs[i]? = some z) : ∃ a, ao = some a ∧ w.cell? (a.add i) = some (.int .i64 z) := by
  obtain ⟨ao', cap', he, h2⟩ := h
  injection he with e1 e2 e3
  rw [e1]
  exact h2 i z hz
theorem cls_at {w : World} {vc : Value} {c : List Nat} (hv : HasI w vc (natI c)) {t : Nat} {x : Nat} (h : c[t]? = some x) : ∃ a, (∃ n cap, vc = .slice (some a) n cap) ∧ w.cell? (a.add t) = some (.int .i64 x) := by
  obtain ⟨ao, cap, rfl, h2⟩ := hv
  obtain ⟨a, rfl, hc⟩ := h2 t (x : Int) (by simp [natI, h])
  exact ⟨a, ⟨_, _, rfl⟩, hc⟩
theorem row_fit {m : Nat} {k s : Int} {es : List Sy.Ed} (hq : Sy.right m k s es = true) (i : Int) : ∀ z ∈ Sy.rowOf m (Sy.nf es) i, 0 ≤ z.2 ∧ z.2 < (m : Int) := fun z hz => by
  unfold Sy.rowOf at hz
  split at hz
  · unfold Sy.steps at hz
    obtain ⟨e, he, rfl⟩ := List.mem_map.1 hz
    have h3 := (right_parts hq).2.2.2.2.2 e ((Sy.nf_mem es e).1 (List.mem_filter.1 he).1)
    exact ⟨h3.2.2.1, h3.2.2.2.1⟩
  · simp at hz
set_option maxRecDepth 100000 in
set_option maxHeartbeats 8000000 in
set_option linter.unusedSimpArgs false in
theorem met_any {B g bs bb cs cb m : Nat} {k s : Int} {es : List Sy.Ed} (c : List Nat) (vc : Value) (p q : Int) (w : World) (hG : Gr w B g bs bb cs cb m k s es) (hc : c.length = m) (hv : HasI w vc (natI c)) :
    Calls Tryz.prog 29 #[.pointer (some ⟨g, 0, none⟩), vc, .int .i64 p, .int .i64 q] w fun r w' => r = .returned (.bool (metB c (Sy.rowOf m (Sy.nf es) p) (Sy.rowOf m (Sy.nf es) q))) ∧ Below w.heap.size w w' := by
  have hv0 := hv
  obtain ⟨ac, cc, rfl, _⟩ := hv0
  have hcn : (natI c).length = m := by simp [natI, hc]
  rw [hcn] at hv ⊢
  obtain ⟨xs, hxs⟩ : ∃ xs, xs = Sy.rowOf m (Sy.nf es) p := ⟨_, rfl⟩
  obtain ⟨ys, hys⟩ : ∃ ys, ys = Sy.rowOf m (Sy.nf es) q := ⟨_, rfl⟩
  have hO := out_any p w hG
  have hlx := rowOf_len m (Sy.nf es) p
  have hly := rowOf_len m (Sy.nf es) q
  have hsz := hG.sizes
  rw [← hxs] at hO hlx ⊢
  rw [← hys] at hly ⊢
  have H0 : Hid _ := And.intro hO (And.intro hG (And.intro hv (And.intro hxs (And.intro hys hc))))
  obtain ⟨N, hN⟩ : ∃ N, N = xs.length := ⟨_, rfl⟩
  have hNm : N ≤ 10000 := by omega
  have hYm : ys.length ≤ 10000 := by omega
  have HN : Hid _ := hN
  clear hO hG hv hxs hys hc hN hlx hly hsz hcn
  go_enter Tryz.func29, Tryz.ntmps29
  go_wp2_with fail
  refine Calls.mono H0.out.1 ?_
  rintro r w1 ⟨u1, rfl, hO1, hb1⟩
  obtain ⟨a1, k1, hu1⟩ := row_shape hO1
  rw [← HN.out] at hu1
  subst hu1
  have H1 : Hid _ := And.intro hO1 hb1
  clear hO1 hb1
  go_wp2_with fail
  go_loopg [18] N (fun q9 iv wr => ∃ i : Nat, q9 = N - i ∧ i ≤ N ∧ iv = .int .i64 i ∧ metB c (xs.take i) ys = true ∧ Below w1.heap.size w1 wr)
  case atStart => exact ⟨0, rfl, Nat.zero_le _, rfl, rfl, Below.refl _ _⟩
  case round =>
    obtain ⟨i, rfl, hi, rfl, hmet, hbr⟩ := hrel
    obtain ⟨w2, rfl⟩ : ∃ w2, w2 = wr := ⟨_, rfl⟩
    by_cases hlt : i < N
    · obtain ⟨⟨lb, t0⟩, hz⟩ : ∃ z, xs[i]? = some z := ⟨xs[i]'(by have := HN.out; omega), List.getElem?_eq_getElem _⟩
      have hfit := row_fit H0.out.2.1.right p (lb, t0) (by rw [← H0.out.2.2.2.1]; exact List.mem_of_getElem? hz)
      simp only at hfit
      obtain ⟨t, rfl⟩ : ∃ t : Nat, t0 = (t : Int) := ⟨t0.toNat, by omega⟩
      obtain ⟨a, rfl, d0, d1⟩ := step_at (BSteps.Own.has (trow_at (w' := w2) H1.out.1 fun b e => hbr.block b (H1.out.1.lt b e).2)) hz
      simp only at d0 d1
      obtain ⟨ct, hct⟩ : ∃ ct, c[t]? = some ct := ⟨_, List.getElem?_eq_getElem (by have := H0.out.2.2.2.2.2; omega)⟩
      obtain ⟨w3, hw3⟩ : ∃ w3, w3 = w2.alloc (.cells #[.int .i64 lb, .int .i64 t] 129) := ⟨_, rfl⟩
      have hb3 : Below w2.heap.size w2 w3 := by rw [hw3]; exact (Below.refl _ _).alloc (Nat.le_refl _) _
      have hg3 : w3.heap[w2.heap.size]? = some (.cells #[.int .i64 lb, .int .i64 t] 129 (0, 0)) := by rw [hw3]; exact heap_alloc_new w2 _
      have f0 : w3.cell? ⟨w2.heap.size, 0, none⟩ = some (.int .i64 lb) := cell0_of hg3 rfl
      have hb03 := bel9 hb3 (bel9 hbr H1.out.2)
      have hBy := by_any q lb w3 (H0.out.2.1.below hb03)
      rw [← H0.out.2.2.2.2.1] at hBy
      have p0 : (0 : Int) ≤ (i : Int) := by omega
      have p1 : (i : Int) < (N : Int) := by omega
      have H3 : Hid _ := And.intro hw3 (And.intro hb03 (And.intro hg3 (And.intro hBy (And.intro hz (And.intro hmet (And.intro (bel9 hb3 hbr) hct))))))
      clear hw3 hb3 hg3 hb03 hBy hz hmet hbr hct
      go_upto_region 5 with fail
      rw [← H3.out.1]
      go_wp2_with fail
      refine Calls.mono H3.out.2.2.2.1 ?_
      rintro r w4 ⟨u4, rfl, hO4, hb4⟩
      obtain ⟨zs, hzs⟩ : ∃ zs, zs = Sy.ends ys lb := ⟨_, rfl⟩
      have hzl := Sy.ends_len ys lb
      rw [← hzs] at hO4 hzl
      obtain ⟨a4, k4, hu4⟩ := row_shape hO4
      obtain ⟨M, hM⟩ : ∃ M, M = zs.length := ⟨_, rfl⟩
      rw [← hM] at hu4
      subst hu4
      have hMm : M ≤ 10000 := by omega
      have H4 : Hid _ := And.intro hO4.has (And.intro hb4 (And.intro hzs hM))
      clear hO4 hb4 hzs hM hzl
      go_wp2_with fail
      go_loopg [11, 28] M (fun q9 fv jv wr => ∃ j : Nat, q9 = M - j ∧ j ≤ M ∧ jv = .int .i64 j ∧ fv = .bool (hit c zs t j) ∧ Below w4.heap.size w4 wr)
      case atStart => exact ⟨0, rfl, Nat.zero_le _, rfl, by simp [hit], Below.refl _ _⟩
      case round =>
        obtain ⟨j, rfl, hj, rfl, rfl, hbq⟩ := hrel
        obtain ⟨w5, rfl⟩ : ∃ w5, w5 = wr := ⟨_, rfl⟩
        by_cases hjm : j < M
        · obtain ⟨y0, hy⟩ : ∃ y, zs[j]? = some y := ⟨zs[j]'(by have := H4.out.2.2.2; omega), List.getElem?_eq_getElem _⟩
          have hyf : 0 ≤ y0 ∧ y0 < (m : Int) := by
            have h1 := List.mem_of_getElem? hy
            rw [H4.out.2.2.1] at h1
            obtain ⟨z2, hz2, rfl⟩ := List.mem_map.1 h1
            exact row_fit H0.out.2.1.right q z2 (by rw [← H0.out.2.2.2.2.1]; exact (List.mem_filter.1 hz2).1)
          obtain ⟨y, rfl⟩ : ∃ y : Nat, y0 = (y : Int) := ⟨y0.toNat, by omega⟩
          obtain ⟨cy, hcy⟩ : ∃ cy, c[y]? = some cy := ⟨_, List.getElem?_eq_getElem (by have := H0.out.2.2.2.2.2; omega)⟩
          obtain ⟨a6, rfl, e0⟩ := hasI_at (H4.out.1.below hbq) hy
          have hb05 := bel9 hbq (bel9 H4.out.2.1 H3.out.2.1)
          have hvk := H0.out.2.2.1.below hb05
          obtain ⟨a7, rfl, e1⟩ := hasI_at hvk (i := y) (z := (cy : Int)) (by simp [natI, hcy])
          obtain ⟨a8, ha8, e2⟩ := hasI_at hvk (i := t) (z := (ct : Int)) (by simp [natI, H3.out.2.2.2.2.2.2.2])
          obtain rfl := Option.some.inj ha8
          clear hvk ha8
          have hct : c[t]? = some ct := H3.out.2.2.2.2.2.2.2
          have hsu := hit_succ c (t : Int) hy
          have ecy : Ro.cl c (y : Int) = cy := by unfold Ro.cl; rw [Int.toNat_natCast, hcy]; rfl
          have ect : Ro.cl c (t : Int) = ct := by unfold Ro.cl; rw [Int.toNat_natCast, hct]; rfl
          rw [ecy, ect] at hsu
          have f1 : w5.cell? ⟨w2.heap.size, 1, none⟩ = some (.int .i64 t) := cell0_of (res_up9 (bel9 hbq H4.out.2.1) H3.out.2.2.1) rfl
          have r0 : (0 : Int) ≤ (j : Int) := by omega
          have r1 : (j : Int) < (M : Int) := by omega
          have r2 : (0 : Int) ≤ (y : Int) := by omega
          have r3 : (y : Int) < (m : Int) := by omega
          have r4 : (0 : Int) ≤ (t : Int) := by omega
          have r5 : (t : Int) < (m : Int) := by omega
          have HS : Hid _ := And.intro hsu hbq
          clear hsu hbq hb05 ecy ect hcy hct hy hyf
          generalize hfl : hit c zs (t : Int) j = fl at HS ⊢
          clear hfl
          cases fl with
          | true =>
            go_upto_region 8 with fail
            refine wp_region_held_drew (S := (fun w' => w'.cell? (a7.add y) = some (.int .i64 cy) ∧ w'.cell? (a7.add t) = some (.int .i64 ct) ∧ w'.cell? ⟨w2.heap.size, 1, none⟩ = some (.int .i64 t))) (by kernel_rfl) ?_ (fun hHeld => ?_)
            · exact ⟨e1, e2, f1⟩
            refine wpAnyH_take (i := 0) (oi := _) (v := ?_) rfl (by kernel_rfl) (by kernel_rfl) (by kernel_rfl) (fun _ _ _ h => h) (Or.inl ⟨by rfl, ?_⟩) (by assumption) ?_
            rotate_left
            · (intro w hSw; (try dsimp only at hSw); go_simp; (try with_reducible rfl))
            (try simp only [List.getElem_toArray, List.getElem_cons_succ, List.getElem_cons_zero, Act.put, List.setIfInBounds_toArray, List.set_cons_zero, List.set_cons_succ])
            refine wpAnyH_take (i := 1) (oi := _) (v := ?_) rfl (by kernel_rfl) (by kernel_rfl) (by kernel_rfl) (fun _ _ _ h => h) (Or.inl ⟨by rfl, ?_⟩) (by assumption) ?_
            rotate_left
            · (intro w hSw; (try dsimp only at hSw); go_simp; (try with_reducible rfl))
            (try simp only [List.getElem_toArray, List.getElem_cons_succ, List.getElem_cons_zero, Act.put, List.setIfInBounds_toArray, List.set_cons_zero, List.set_cons_succ])
            refine wpAnyH_take (i := 2) (oi := _) (v := undef) rfl (by kernel_rfl) (by kernel_rfl) (by kernel_rfl) (fun _ _ _ h => h) (Or.inr ⟨by rfl, rfl⟩) (by assumption) ?_
            (try simp only [List.getElem_toArray, List.getElem_cons_succ, List.getElem_cons_zero, Act.put, List.setIfInBounds_toArray, List.set_cons_zero, List.set_cons_succ])
            refine wpAnyH_take (i := 3) (oi := _) (v := undef) rfl (by kernel_rfl) (by kernel_rfl) (by kernel_rfl) (fun _ _ _ h => h) (Or.inr ⟨by rfl, rfl⟩) (by assumption) ?_
            (try simp only [List.getElem_toArray, List.getElem_cons_succ, List.getElem_cons_zero, Act.put, List.setIfInBounds_toArray, List.set_cons_zero, List.set_cons_succ])
            refine wpAnyH_take (i := 4) (oi := _) (v := undef) rfl (by kernel_rfl) (by kernel_rfl) (by kernel_rfl) (fun _ _ _ h => h) (Or.inr ⟨by rfl, rfl⟩) (by assumption) ?_
            (try simp only [List.getElem_toArray, List.getElem_cons_succ, List.getElem_cons_zero, Act.put, List.setIfInBounds_toArray, List.set_cons_zero, List.set_cons_succ])
            refine wpAnyH_take (i := 5) (oi := _) (v := undef) rfl (by kernel_rfl) (by kernel_rfl) (by kernel_rfl) (fun _ _ _ h => h) (Or.inr ⟨by rfl, rfl⟩) (by assumption) ?_
            (try simp only [List.getElem_toArray, List.getElem_cons_succ, List.getElem_cons_zero, Act.put, List.setIfInBounds_toArray, List.set_cons_zero, List.set_cons_succ])
            refine wpAnyH_take (i := 6) (oi := _) (v := undef) rfl (by kernel_rfl) (by kernel_rfl) (by kernel_rfl) (fun _ _ _ h => h) (Or.inr ⟨by rfl, rfl⟩) (by assumption) ?_
            (try simp only [List.getElem_toArray, List.getElem_cons_succ, List.getElem_cons_zero, Act.put, List.setIfInBounds_toArray, List.set_cons_zero, List.set_cons_succ])
            refine wpAnyH_take (i := 7) (oi := _) (v := undef) rfl (by kernel_rfl) (by kernel_rfl) (by kernel_rfl) (fun _ _ _ h => h) (Or.inr ⟨by rfl, rfl⟩) (by assumption) ?_
            (try simp only [List.getElem_toArray, List.getElem_cons_succ, List.getElem_cons_zero, Act.put, List.setIfInBounds_toArray, List.set_cons_zero, List.set_cons_succ])
            refine wpAnyH_take (i := 8) (oi := _) (v := undef) rfl (by kernel_rfl) (by kernel_rfl) (by kernel_rfl) (fun _ _ _ h => h) (Or.inr ⟨by rfl, rfl⟩) (by assumption) ?_
            (try simp only [List.getElem_toArray, List.getElem_cons_succ, List.getElem_cons_zero, Act.put, List.setIfInBounds_toArray, List.set_cons_zero, List.set_cons_succ])
            refine wpAnyH_take (i := 9) (oi := _) (v := undef) rfl (by kernel_rfl) (by kernel_rfl) (by kernel_rfl) (fun _ _ _ h => h) (Or.inr ⟨by rfl, rfl⟩) (by assumption) ?_
            (try simp only [List.getElem_toArray, List.getElem_cons_succ, List.getElem_cons_zero, Act.put, List.setIfInBounds_toArray, List.set_cons_zero, List.set_cons_succ])
            refine wpAnyH_take (i := 10) (oi := _) (v := undef) rfl (by kernel_rfl) (by kernel_rfl) (by kernel_rfl) (fun _ _ _ h => h) (Or.inr ⟨by rfl, rfl⟩) (by assumption) ?_
            (try simp only [List.getElem_toArray, List.getElem_cons_succ, List.getElem_cons_zero, Act.put, List.setIfInBounds_toArray, List.set_cons_zero, List.set_cons_succ])
            refine wpAnyH_take (i := 11) (oi := _) (v := undef) rfl (by kernel_rfl) (by kernel_rfl) (by kernel_rfl) (fun _ _ _ h => h) (Or.inr ⟨by rfl, rfl⟩) (by assumption) ?_
            (try simp only [List.getElem_toArray, List.getElem_cons_succ, List.getElem_cons_zero, Act.put, List.setIfInBounds_toArray, List.set_cons_zero, List.set_cons_succ])
            refine wpAnyH_take (i := 12) (oi := _) (v := ?_) rfl (by kernel_rfl) (by kernel_rfl) (by kernel_rfl) (fun _ _ _ h => h) (Or.inl ⟨by rfl, ?_⟩) (by assumption) ?_
            rotate_left
            · (intro w hSw; (try dsimp only at hSw); go_simp; (try with_reducible rfl))
            (try simp only [List.getElem_toArray, List.getElem_cons_succ, List.getElem_cons_zero, Act.put, List.setIfInBounds_toArray, List.set_cons_zero, List.set_cons_succ])
            refine wpAnyH_take (i := 13) (oi := _) (v := ?_) rfl (by kernel_rfl) (by kernel_rfl) (by kernel_rfl) (fun _ _ _ h => h) (Or.inl ⟨by rfl, ?_⟩) (by assumption) ?_
            rotate_left
            · (intro w hSw; (try dsimp only at hSw); go_simp; (try with_reducible rfl))
            (try simp only [List.getElem_toArray, List.getElem_cons_succ, List.getElem_cons_zero, Act.put, List.setIfInBounds_toArray, List.set_cons_zero, List.set_cons_succ])
            refine wpAnyH_done (by kernel_rfl) ?_ _
            (try go_simp)
            go_wp2_with fail
            go_roundg (M - (j + 1))
            case measure => omega
            case rel => exact ⟨j + 1, rfl, by omega, by go_num, by rw [HS.out.1]; rfl, HS.out.2.drew⟩
          | false =>
            obtain ⟨bq, hbq2⟩ : ∃ bq, bq = (cy == ct) := ⟨_, rfl⟩
            by_cases hce : cy = ct
            · have n1 : ((cy : Int) == (ct : Int)) = true := by simp [hce]
              have HCE : Hid _ := hce
              clear hce hbq2
              go_upto_region 8 with fail
              refine wp_region_held_drew (S := (fun w' => w'.cell? (a7.add y) = some (.int .i64 cy) ∧ w'.cell? (a7.add t) = some (.int .i64 ct) ∧ w'.cell? ⟨w2.heap.size, 1, none⟩ = some (.int .i64 t))) (by kernel_rfl) ?_ (fun hHeld => ?_)
              · exact ⟨e1, e2, f1⟩
              refine wpAnyH_take (i := 0) (oi := _) (v := ?_) rfl (by kernel_rfl) (by kernel_rfl) (by kernel_rfl) (fun _ _ _ h => h) (Or.inl ⟨by rfl, ?_⟩) (by assumption) ?_
              rotate_left
              · (intro w hSw; (try dsimp only at hSw); go_simp; (try with_reducible rfl))
              (try simp only [List.getElem_toArray, List.getElem_cons_succ, List.getElem_cons_zero, Act.put, List.setIfInBounds_toArray, List.set_cons_zero, List.set_cons_succ])
              refine wpAnyH_take (i := 1) (oi := _) (v := ?_) rfl (by kernel_rfl) (by kernel_rfl) (by kernel_rfl) (fun _ _ _ h => h) (Or.inl ⟨by rfl, ?_⟩) (by assumption) ?_
              rotate_left
              · (intro w hSw; (try dsimp only at hSw); go_simp; (try with_reducible rfl))
              (try simp only [List.getElem_toArray, List.getElem_cons_succ, List.getElem_cons_zero, Act.put, List.setIfInBounds_toArray, List.set_cons_zero, List.set_cons_succ])
              refine wpAnyH_take (i := 2) (oi := _) (v := ?_) rfl (by kernel_rfl) (by kernel_rfl) (by kernel_rfl) (fun _ _ _ h => h) (Or.inl ⟨by rfl, ?_⟩) (by assumption) ?_
              rotate_left
              · (intro w hSw; (try dsimp only at hSw); go_simp; (try with_reducible rfl))
              (try simp only [List.getElem_toArray, List.getElem_cons_succ, List.getElem_cons_zero, Act.put, List.setIfInBounds_toArray, List.set_cons_zero, List.set_cons_succ])
              refine wpAnyH_take (i := 3) (oi := _) (v := ?_) rfl (by kernel_rfl) (by kernel_rfl) (by kernel_rfl) (fun _ _ _ h => h) (Or.inl ⟨by rfl, ?_⟩) (by assumption) ?_
              rotate_left
              · (intro w hSw; (try dsimp only at hSw); go_simp; (try with_reducible rfl))
              (try simp only [List.getElem_toArray, List.getElem_cons_succ, List.getElem_cons_zero, Act.put, List.setIfInBounds_toArray, List.set_cons_zero, List.set_cons_succ])
              refine wpAnyH_take (i := 4) (oi := _) (v := ?_) rfl (by kernel_rfl) (by kernel_rfl) (by kernel_rfl) (fun _ _ _ h => h) (Or.inl ⟨by rfl, ?_⟩) (by assumption) ?_
              rotate_left
              · (intro w hSw; (try dsimp only at hSw); go_simp; (try with_reducible rfl))
              (try simp only [List.getElem_toArray, List.getElem_cons_succ, List.getElem_cons_zero, Act.put, List.setIfInBounds_toArray, List.set_cons_zero, List.set_cons_succ])
              refine wpAnyH_take (i := 5) (oi := _) (v := ?_) rfl (by kernel_rfl) (by kernel_rfl) (by kernel_rfl) (fun _ _ _ h => h) (Or.inl ⟨by rfl, ?_⟩) (by assumption) ?_
              rotate_left
              · (intro w hSw; (try dsimp only at hSw); go_simp; (try with_reducible rfl))
              (try simp only [List.getElem_toArray, List.getElem_cons_succ, List.getElem_cons_zero, Act.put, List.setIfInBounds_toArray, List.set_cons_zero, List.set_cons_succ])
              refine wpAnyH_take (i := 6) (oi := _) (v := ?_) rfl (by kernel_rfl) (by kernel_rfl) (by kernel_rfl) (fun _ _ _ h => h) (Or.inl ⟨by rfl, ?_⟩) (by assumption) ?_
              rotate_left
              · (intro w hSw; (try dsimp only at hSw); go_simp; (try with_reducible rfl))
              (try simp only [List.getElem_toArray, List.getElem_cons_succ, List.getElem_cons_zero, Act.put, List.setIfInBounds_toArray, List.set_cons_zero, List.set_cons_succ])
              refine wpAnyH_take (i := 7) (oi := _) (v := ?_) rfl (by kernel_rfl) (by kernel_rfl) (by kernel_rfl) (fun _ _ _ h => h) (Or.inl ⟨by rfl, ?_⟩) (by assumption) ?_
              rotate_left
              · (intro w hSw; (try dsimp only at hSw); go_simp; (try with_reducible rfl))
              (try simp only [List.getElem_toArray, List.getElem_cons_succ, List.getElem_cons_zero, Act.put, List.setIfInBounds_toArray, List.set_cons_zero, List.set_cons_succ])
              refine wpAnyH_take (i := 8) (oi := _) (v := ?_) rfl (by kernel_rfl) (by kernel_rfl) (by kernel_rfl) (fun _ _ _ h => h) (Or.inl ⟨by rfl, ?_⟩) (by assumption) ?_
              rotate_left
              · (intro w hSw; (try dsimp only at hSw); go_simp; (try with_reducible rfl))
              (try simp only [List.getElem_toArray, List.getElem_cons_succ, List.getElem_cons_zero, Act.put, List.setIfInBounds_toArray, List.set_cons_zero, List.set_cons_succ])
              refine wpAnyH_take (i := 9) (oi := _) (v := ?_) rfl (by kernel_rfl) (by kernel_rfl) (by kernel_rfl) (fun _ _ _ h => h) (Or.inl ⟨by rfl, ?_⟩) (by assumption) ?_
              rotate_left
              · (intro w hSw; (try dsimp only at hSw); go_simp; (try with_reducible rfl))
              (try simp only [List.getElem_toArray, List.getElem_cons_succ, List.getElem_cons_zero, Act.put, List.setIfInBounds_toArray, List.set_cons_zero, List.set_cons_succ])
              refine wpAnyH_take (i := 10) (oi := _) (v := ?_) rfl (by kernel_rfl) (by kernel_rfl) (by kernel_rfl) (fun _ _ _ h => h) (Or.inl ⟨by rfl, ?_⟩) (by assumption) ?_
              rotate_left
              · (intro w hSw; (try dsimp only at hSw); go_simp; (try with_reducible rfl))
              (try simp only [List.getElem_toArray, List.getElem_cons_succ, List.getElem_cons_zero, Act.put, List.setIfInBounds_toArray, List.set_cons_zero, List.set_cons_succ])
              refine wpAnyH_take (i := 11) (oi := _) (v := ?_) rfl (by kernel_rfl) (by kernel_rfl) (by kernel_rfl) (fun _ _ _ h => h) (Or.inl ⟨by rfl, ?_⟩) (by assumption) ?_
              rotate_left
              · (intro w hSw; (try dsimp only at hSw); go_simp; (try with_reducible rfl))
              (try simp only [List.getElem_toArray, List.getElem_cons_succ, List.getElem_cons_zero, Act.put, List.setIfInBounds_toArray, List.set_cons_zero, List.set_cons_succ])
              refine wpAnyH_take (i := 12) (oi := _) (v := ?_) rfl (by kernel_rfl) (by kernel_rfl) (by kernel_rfl) (fun _ _ _ h => h) (Or.inl ⟨by rfl, ?_⟩) (by assumption) ?_
              rotate_left
              · (intro w hSw; (try dsimp only at hSw); go_simp; (try with_reducible rfl))
              (try simp only [List.getElem_toArray, List.getElem_cons_succ, List.getElem_cons_zero, Act.put, List.setIfInBounds_toArray, List.set_cons_zero, List.set_cons_succ])
              refine wpAnyH_take (i := 13) (oi := _) (v := ?_) rfl (by kernel_rfl) (by kernel_rfl) (by kernel_rfl) (fun _ _ _ h => h) (Or.inl ⟨by rfl, ?_⟩) (by assumption) ?_
              rotate_left
              · (intro w hSw; (try dsimp only at hSw); go_simp; (try with_reducible rfl))
              (try simp only [List.getElem_toArray, List.getElem_cons_succ, List.getElem_cons_zero, Act.put, List.setIfInBounds_toArray, List.set_cons_zero, List.set_cons_succ])
              refine wpAnyH_done (by kernel_rfl) ?_ _
              (try go_simp)
              go_wp2_with fail
              go_roundg (M - (j + 1))
              case measure => omega
              case rel => exact ⟨j + 1, rfl, by omega, by go_num, by rw [HS.out.1]; simp [HCE.out], HS.out.2.drew⟩
            · have n1 : ((cy : Int) == (ct : Int)) = false := by simp; omega
              have HCE : Hid _ := hce
              clear hce hbq2
              go_upto_region 8 with fail
              refine wp_region_held_drew (S := (fun w' => w'.cell? (a7.add y) = some (.int .i64 cy) ∧ w'.cell? (a7.add t) = some (.int .i64 ct) ∧ w'.cell? ⟨w2.heap.size, 1, none⟩ = some (.int .i64 t))) (by kernel_rfl) ?_ (fun hHeld => ?_)
              · exact ⟨e1, e2, f1⟩
              refine wpAnyH_take (i := 0) (oi := _) (v := ?_) rfl (by kernel_rfl) (by kernel_rfl) (by kernel_rfl) (fun _ _ _ h => h) (Or.inl ⟨by rfl, ?_⟩) (by assumption) ?_
              rotate_left
              · (intro w hSw; (try dsimp only at hSw); go_simp; (try with_reducible rfl))
              (try simp only [List.getElem_toArray, List.getElem_cons_succ, List.getElem_cons_zero, Act.put, List.setIfInBounds_toArray, List.set_cons_zero, List.set_cons_succ])
              refine wpAnyH_take (i := 1) (oi := _) (v := ?_) rfl (by kernel_rfl) (by kernel_rfl) (by kernel_rfl) (fun _ _ _ h => h) (Or.inl ⟨by rfl, ?_⟩) (by assumption) ?_
              rotate_left
              · (intro w hSw; (try dsimp only at hSw); go_simp; (try with_reducible rfl))
              (try simp only [List.getElem_toArray, List.getElem_cons_succ, List.getElem_cons_zero, Act.put, List.setIfInBounds_toArray, List.set_cons_zero, List.set_cons_succ])
              refine wpAnyH_take (i := 2) (oi := _) (v := ?_) rfl (by kernel_rfl) (by kernel_rfl) (by kernel_rfl) (fun _ _ _ h => h) (Or.inl ⟨by rfl, ?_⟩) (by assumption) ?_
              rotate_left
              · (intro w hSw; (try dsimp only at hSw); go_simp; (try with_reducible rfl))
              (try simp only [List.getElem_toArray, List.getElem_cons_succ, List.getElem_cons_zero, Act.put, List.setIfInBounds_toArray, List.set_cons_zero, List.set_cons_succ])
              refine wpAnyH_take (i := 3) (oi := _) (v := ?_) rfl (by kernel_rfl) (by kernel_rfl) (by kernel_rfl) (fun _ _ _ h => h) (Or.inl ⟨by rfl, ?_⟩) (by assumption) ?_
              rotate_left
              · (intro w hSw; (try dsimp only at hSw); go_simp; (try with_reducible rfl))
              (try simp only [List.getElem_toArray, List.getElem_cons_succ, List.getElem_cons_zero, Act.put, List.setIfInBounds_toArray, List.set_cons_zero, List.set_cons_succ])
              refine wpAnyH_take (i := 4) (oi := _) (v := ?_) rfl (by kernel_rfl) (by kernel_rfl) (by kernel_rfl) (fun _ _ _ h => h) (Or.inl ⟨by rfl, ?_⟩) (by assumption) ?_
              rotate_left
              · (intro w hSw; (try dsimp only at hSw); go_simp; (try with_reducible rfl))
              (try simp only [List.getElem_toArray, List.getElem_cons_succ, List.getElem_cons_zero, Act.put, List.setIfInBounds_toArray, List.set_cons_zero, List.set_cons_succ])
              refine wpAnyH_take (i := 5) (oi := _) (v := ?_) rfl (by kernel_rfl) (by kernel_rfl) (by kernel_rfl) (fun _ _ _ h => h) (Or.inl ⟨by rfl, ?_⟩) (by assumption) ?_
              rotate_left
              · (intro w hSw; (try dsimp only at hSw); go_simp; (try with_reducible rfl))
              (try simp only [List.getElem_toArray, List.getElem_cons_succ, List.getElem_cons_zero, Act.put, List.setIfInBounds_toArray, List.set_cons_zero, List.set_cons_succ])
              refine wpAnyH_take (i := 6) (oi := _) (v := ?_) rfl (by kernel_rfl) (by kernel_rfl) (by kernel_rfl) (fun _ _ _ h => h) (Or.inl ⟨by rfl, ?_⟩) (by assumption) ?_
              rotate_left
              · (intro w hSw; (try dsimp only at hSw); go_simp; (try with_reducible rfl))
              (try simp only [List.getElem_toArray, List.getElem_cons_succ, List.getElem_cons_zero, Act.put, List.setIfInBounds_toArray, List.set_cons_zero, List.set_cons_succ])
              refine wpAnyH_take (i := 7) (oi := _) (v := ?_) rfl (by kernel_rfl) (by kernel_rfl) (by kernel_rfl) (fun _ _ _ h => h) (Or.inl ⟨by rfl, ?_⟩) (by assumption) ?_
              rotate_left
              · (intro w hSw; (try dsimp only at hSw); go_simp; (try with_reducible rfl))
              (try simp only [List.getElem_toArray, List.getElem_cons_succ, List.getElem_cons_zero, Act.put, List.setIfInBounds_toArray, List.set_cons_zero, List.set_cons_succ])
              refine wpAnyH_take (i := 8) (oi := _) (v := ?_) rfl (by kernel_rfl) (by kernel_rfl) (by kernel_rfl) (fun _ _ _ h => h) (Or.inl ⟨by rfl, ?_⟩) (by assumption) ?_
              rotate_left
              · (intro w hSw; (try dsimp only at hSw); go_simp; (try with_reducible rfl))
              (try simp only [List.getElem_toArray, List.getElem_cons_succ, List.getElem_cons_zero, Act.put, List.setIfInBounds_toArray, List.set_cons_zero, List.set_cons_succ])
              refine wpAnyH_take (i := 9) (oi := _) (v := ?_) rfl (by kernel_rfl) (by kernel_rfl) (by kernel_rfl) (fun _ _ _ h => h) (Or.inl ⟨by rfl, ?_⟩) (by assumption) ?_
              rotate_left
              · (intro w hSw; (try dsimp only at hSw); go_simp; (try with_reducible rfl))
              (try simp only [List.getElem_toArray, List.getElem_cons_succ, List.getElem_cons_zero, Act.put, List.setIfInBounds_toArray, List.set_cons_zero, List.set_cons_succ])
              refine wpAnyH_take (i := 10) (oi := _) (v := ?_) rfl (by kernel_rfl) (by kernel_rfl) (by kernel_rfl) (fun _ _ _ h => h) (Or.inl ⟨by rfl, ?_⟩) (by assumption) ?_
              rotate_left
              · (intro w hSw; (try dsimp only at hSw); go_simp; (try with_reducible rfl))
              (try simp only [List.getElem_toArray, List.getElem_cons_succ, List.getElem_cons_zero, Act.put, List.setIfInBounds_toArray, List.set_cons_zero, List.set_cons_succ])
              refine wpAnyH_take (i := 11) (oi := _) (v := ?_) rfl (by kernel_rfl) (by kernel_rfl) (by kernel_rfl) (fun _ _ _ h => h) (Or.inl ⟨by rfl, ?_⟩) (by assumption) ?_
              rotate_left
              · (intro w hSw; (try dsimp only at hSw); go_simp; (try with_reducible rfl))
              (try simp only [List.getElem_toArray, List.getElem_cons_succ, List.getElem_cons_zero, Act.put, List.setIfInBounds_toArray, List.set_cons_zero, List.set_cons_succ])
              refine wpAnyH_take (i := 12) (oi := _) (v := ?_) rfl (by kernel_rfl) (by kernel_rfl) (by kernel_rfl) (fun _ _ _ h => h) (Or.inl ⟨by rfl, ?_⟩) (by assumption) ?_
              rotate_left
              · (intro w hSw; (try dsimp only at hSw); go_simp; (try with_reducible rfl))
              (try simp only [List.getElem_toArray, List.getElem_cons_succ, List.getElem_cons_zero, Act.put, List.setIfInBounds_toArray, List.set_cons_zero, List.set_cons_succ])
              refine wpAnyH_take (i := 13) (oi := _) (v := ?_) rfl (by kernel_rfl) (by kernel_rfl) (by kernel_rfl) (fun _ _ _ h => h) (Or.inl ⟨by rfl, ?_⟩) (by assumption) ?_
              rotate_left
              · (intro w hSw; (try dsimp only at hSw); go_simp; (try with_reducible rfl))
              (try simp only [List.getElem_toArray, List.getElem_cons_succ, List.getElem_cons_zero, Act.put, List.setIfInBounds_toArray, List.set_cons_zero, List.set_cons_succ])
              refine wpAnyH_done (by kernel_rfl) ?_ _
              (try go_simp)
              go_wp2_with fail
              go_roundg (M - (j + 1))
              case measure => omega
              case rel => exact ⟨j + 1, rfl, by omega, by go_num, by rw [HS.out.1]; simpa using HCE.out, HS.out.2.drew⟩
        · obtain rfl : j = M := by omega
          have r1 : ¬ (j : Int) < (j : Int) := by omega
          have hall := hit_all c (t : Int) (ys := zs) (j := j) H4.out.2.2.2
          have hst : metB c (xs.take (i + 1)) ys = hit c zs (t : Int) j := by
            rw [hall, H4.out.2.2.1]
            unfold metB
            rw [take_succ_of H3.out.2.2.2.2.1, List.all_append]
            have h1 := H3.out.2.2.2.2.2.1
            unfold metB at h1
            rw [h1]
            simp
          have HS : Hid _ := And.intro hst (bel9 hbq (bel9 H4.out.2.1 H3.out.2.2.2.2.2.2.1))
          clear hall hst hbq
          generalize hfl : hit c zs (t : Int) j = fl at HS ⊢
          clear hfl
          cases fl with
          | true =>
            go_wp2_with fail
            go_roundg (N - (i + 1))
            case measure => omega
            case rel => exact ⟨i + 1, rfl, by omega, by go_num, HS.out.1, HS.out.2⟩
          | false =>
            go_wp2_with fail
            go_ret
            refine ⟨?_, bel9 HS.out.2 H1.out.2⟩
            rw [met_no HS.out.1]
            rfl
    · obtain rfl : i = N := by omega
      have p1 : ¬ (i : Int) < (i : Int) := by omega
      have HS : Hid _ := And.intro hmet hbr
      clear hmet hbr
      go_wp2_with fail
      go_ret
      refine ⟨?_, bel9 HS.out.2 H1.out.2⟩
      have h1 := HS.out.1
      rw [List.take_of_length_le (by have := HN.out; omega)] at h1
      rw [h1]
      rfl
end Go.Proofs.YtnpooilcpapkaaaGreatDoor
