/- Texts of this claim, joined: SyTen, SgMet, SgLaw0, SgRelates, ErLaid. -/
import Derived.Test.YtkiapldehlnndaaGreatDoorPart15
import Derived.DataElems
import Derived.Test.YtkiapldehlnndaaGreatDoorPart4
import Derived.Test.YtkiapldehlnndaaGreatDoorRows
import Derived.Test.YtkiapldehlnndaaGreatDoorPart0
import Derived.ProofKit
import Derived.LaidMore
import Derived.Stop.LaidErr
/- Contracts of the program's table.ends, By and From. -/
namespace Go.Proofs.YtkiapldehlnndaaGreatDoor
open Go.RowKit Go.Maps
attribute [local go_sem ↓] Go.wp_at_zero Go.wp_at_succ
theorem Sy.str_pair {l : List Sy.Ed} (h : Sy.Str l) : l.Pairwise fun a b => Sy.lt a b = true := by
  induction l with
  | nil => exact .nil
  | cons a r ih => exact List.pairwise_cons.2 ⟨h.head, ih h.tail⟩
theorem hasS_drop {w : World} {av : Option Addr} {M cv : Nat} {zs : List BSteps.El} (h : BSteps.Has w (.slice av M cv) zs) (f c : Nat) (hM : M = zs.length) : BSteps.Has w (.slice (Option.map (fun x => x.add (f * 2)) av) (M - f) c) (zs.drop f) := by
  obtain ⟨ao, cap, he, hc⟩ := h
  injection he with e1 e2 e3
  subst e1
  refine ⟨_, c, by rw [List.length_drop, hM], fun j u hj => ?_⟩
  have hl : j < (zs.drop f).length * 2 := by have := (List.getElem?_eq_some_iff.1 hj).1; rw [BSteps.C_len] at this; exact this
  obtain ⟨z, hz⟩ : ∃ z, (zs.drop f)[j / 2]? = some z := ⟨_, List.getElem?_eq_getElem (by omega)⟩
  have h1 := BSteps.C_at _ (j / 2) z hz (j % 2) (Nat.mod_lt _ (by decide))
  rw [show j / 2 * 2 + j % 2 = j by omega, hj] at h1
  rw [List.getElem?_drop] at hz
  have h2 := BSteps.C_at _ (f + j / 2) z hz (j % 2) (Nat.mod_lt _ (by decide))
  rw [← h1, show (f + j / 2) * 2 + j % 2 = f * 2 + j by omega] at h2
  obtain ⟨a, rfl, hca⟩ := hc _ _ h2
  exact ⟨_, rfl, by rw [Addr.add_add]; exact hca⟩
theorem Sy.rowOf_rise {l : List Sy.Ed} (h : Sy.Str l) (n : Nat) (i : Int) : (Sy.rowOf n l i).Pairwise fun x y => x.1 ≤ y.1 := by
  unfold Sy.rowOf
  split
  · unfold Sy.steps
    rw [List.pairwise_map]
    refine (((Sy.str_pair h).filter _).imp_of_mem ?_)
    intro a b ha hb hl
    have h1 : a.1 = i := by simpa using (List.mem_filter.1 ha).2
    have h2 : b.1 = i := by simpa using (List.mem_filter.1 hb).2
    rw [Sy.lt_iff] at hl
    show a.2.1 ≤ b.2.1
    omega
  · exact .nil
theorem bel8 {w W w8 : World} (hb : Below W.heap.size W w8) (h : Below w.heap.size w W) : Below w.heap.size w w8 := h.trans (hb.mono h.size)
theorem Sy.ends_nil_of {zs : List BSteps.El} {b : Int} (h : ∀ z ∈ zs, z.1 ≠ b) : Sy.ends zs b = [] := by
  unfold Sy.ends
  rw [List.filter_eq_nil_iff.2 fun z hz => by simpa using h z hz]
  rfl
theorem Sy.ends_append (xs ys : List BSteps.El) (b : Int) : Sy.ends (xs ++ ys) b = Sy.ends xs b ++ Sy.ends ys b := by simp [Sy.ends]
theorem Sy.ends_cut {zs : List BSteps.El} {b : Int} {i j : Nat} (hs : zs.Pairwise fun x y => x.1 ≤ y.1) (hB : BinAt zs b i i) (hij : i + j ≤ zs.length) (hj : ∀ z, zs[i + j]? = some z → z.1 ≠ b) : Sy.ends zs b = Sy.ends ((zs.drop i).take j) b := by
  have e1 : zs = zs.take i ++ ((zs.drop i).take j ++ (zs.drop i).drop j) := by rw [List.take_append_drop, List.take_append_drop]
  have h1 : Sy.ends (zs.take i) b = [] := Sy.ends_nil_of fun z hz => by
    obtain ⟨k, hk, rfl⟩ := List.mem_iff_getElem.1 hz
    rw [List.length_take] at hk
    have := hB.lo k (zs[k]'(by omega)) (by omega) (List.getElem?_eq_getElem _)
    rw [List.getElem_take]
    omega
  have h2 : Sy.ends ((zs.drop i).drop j) b = [] := Sy.ends_nil_of fun z hz => by
    obtain ⟨k, hk, rfl⟩ := List.mem_iff_getElem.1 hz
    simp only [List.length_drop] at hk
    have h3 := hj (zs[i + j]'(by omega)) (List.getElem?_eq_getElem _)
    have h4 := hB.hi (i + j) (zs[i + j]'(by omega)) (by omega) (List.getElem?_eq_getElem _)
    simp only [List.getElem_drop]
    by_cases e : k = 0
    · subst e; simpa using h3
    · have := List.pairwise_iff_getElem.1 hs (i + j) (i + (j + k)) (by omega) (by omega) (by omega)
      omega
  conv => lhs; rw [e1]
  rw [Sy.ends_append, Sy.ends_append, h1, h2]
  simp
set_option maxRecDepth 100000 in
set_option maxHeartbeats 8000000 in
theorem tends_any (bs bb m n B : Nat) (l : List Sy.Ed) (i b : Int) (w : World) (hn : n ≤ 100000) (hl : l.length = m) (hm : m ≤ 100000) (hs : Sy.Str l) (hT : Tb w B bs bb n l) :
    Calls Tryz.prog 150 #[tabV bs bb m n, .int .i64 i, .int .i64 b] w fun r w' => ∃ u, r = .returned u ∧ OwnI w' w.heap.size u (Sy.ends (Sy.rowOf n l i) b) ∧ Below w.heap.size w w' := by
  obtain ⟨i0, hi0, hz0, hz1, hz2⟩ := info_parts Tryz.infoI4
  obtain ⟨w1, hw1⟩ : ∃ w1, w1 = w.alloc (.cells #[.slice (some ⟨bs, 0, none⟩) m m, .slice (some ⟨bb, 0, none⟩) (n + 1) (n + 1)] 134) := ⟨_, rfl⟩
  have hb1 : Below w.heap.size w w1 := by rw [hw1]; exact (Below.refl _ _).alloc (Nat.le_refl _) _
  have hg1 : w1.heap[w.heap.size]? = some (.cells #[.slice (some ⟨bs, 0, none⟩) m m, .slice (some ⟨bb, 0, none⟩) (n + 1) (n + 1)] 134 (0, 0)) := by rw [hw1]; exact heap_alloc_new w _
  have hR := row2_any bs bb m n B l i w1 hn hl (str_rows hs) (hT.below hb1)
  obtain ⟨zs, hzs⟩ : ∃ zs, zs = Sy.rowOf n l i := ⟨_, rfl⟩
  have hrise := Sy.rowOf_rise hs n i
  have hzl := rowOf_len n l i
  rw [← hzs] at hR hrise hzl ⊢
  have c0 : w1.cell? ⟨w.heap.size, 0, none⟩ = some (.slice (some ⟨bs, 0, none⟩) m m) := cell0_of hg1 rfl
  have c1 : w1.cell? ⟨w.heap.size, 1, none⟩ = some (.slice (some ⟨bb, 0, none⟩) (n + 1) (n + 1)) := cell0_of hg1 rfl
  unfold tabV at hR ⊢
  have H1 : Hid _ := And.intro hw1 (And.intro hb1 (And.intro hR (And.intro hrise (And.intro (hT.below hb1) hzl))))
  have hzm : zs.length ≤ 100000 := by omega
  have HT0 : Hid _ := hT
  clear hw1 hb1 hg1 hR hT hrise hs hzs hl hzl
  go_enter Tryz.func150, Tryz.ntmps150
  go_upto_region 1 with fail
  rw [← H1.out.1]
  go_wp2_with fail
  refine Calls.mono H1.out.2.2.1 ?_
  rintro r w2 ⟨v, rfl, hv, hcap, hb2⟩
  have hT2 := H1.out.2.2.2.2.1.below hb2
  obtain ⟨av, cv, rfl, _⟩ := hv w2 hT2
  have hBi := bin_any _ zs b w2 (hv w2 hT2) H1.out.2.2.2.1 hzm
  obtain ⟨M, hM⟩ : ∃ M, M = zs.length := ⟨_, rfl⟩
  rw [← hM] at hv hBi hzm hcap ⊢
  have hMc : M ≤ cv := by
    obtain ⟨a', k', c', he, hkc⟩ := hcap
    injection he with e1 e2 e3
    omega
  have H2 : Hid _ := And.intro hBi (And.intro hv (And.intro hT2 (And.intro (bel8 hb2 H1.out.2.1) hM)))
  clear hBi hv hT2 hb2 hM c0 c1 hcap
  go_wp2_with fail
  refine Calls.mono H2.out.1 ?_
  rintro r w3 ⟨f, fb, rfl, hfM, hBA, hb3⟩
  have hf0 : (0 : Int) ≤ (f : Int) := by omega
  have hf1 : (f : Int) ≤ (M : Int) := by omega
  have H3 : Hid _ := And.intro hBA (And.intro (H2.out.2.2.1.below hb3) (bel8 hb3 H2.out.2.2.2.1))
  clear hBA hb3
  by_cases hcf : cv = f
  · obtain rfl : f = M := by omega
    subst hcf
    have z0 : cv - cv = 0 := Nat.sub_self _
    go_wp2_with fail
    go_loopg [10, 26] 0 (fun q uv kv wr => q = 0 ∧ kv = .int .i64 0 ∧ uv = .slice none 0 0 ∧ wr = w3)
    case atStart => exact ⟨rfl, rfl, rfl, rfl⟩
    case round =>
      obtain ⟨rfl, rfl, rfl, rfl⟩ := hrel
      go_wp2_with fail
      go_ret
      refine ⟨_, rfl, ?_, H3.out.2.2⟩
      rw [Sy.ends_cut (j := 0) H1.out.2.2.2.1 H3.out.1 (by have := H2.out.2.2.2.2; omega) (fun z hz => by have := (List.getElem?_eq_some_iff.1 hz).1; have := H2.out.2.2.2.2; omega)]
      exact World.ownsRow_nil _ _ _ _
  · have hD := fun W (hW : Tb W B bs bb n l) => hasS_drop (H2.out.2.1 W hW) f (cv - f) H2.out.2.2.2.2
    go_wp2_with fail
    obtain ⟨R, hR⟩ : ∃ R, R = M - f := ⟨_, rfl⟩
    obtain ⟨a2, ha2⟩ : ∃ a2, a2 = Option.map (fun (x : Addr) => x.add (f * 2)) av := ⟨_, rfl⟩
    obtain ⟨c2, hc2⟩ : ∃ c2, c2 = cv - f := ⟨_, rfl⟩
    rw [← hR, ← ha2, ← hc2] at hD
    rw [← hR, ← ha2, ← hc2]
    have hR2 : f + R = M := by omega
    have H4 : Hid _ := And.intro hD hR2
    clear hD hR ha2 hc2 hR2
    have hRm : R ≤ 100000 := by have := H4.out.2; omega
    go_loopg [10, 26] R (fun q uv kv wr => ∃ j : Nat, q = R - j ∧ j ≤ R ∧ kv = .int .i64 j ∧ OwnI wr w.heap.size uv (Sy.ends ((zs.drop f).take j) b) ∧ Below w.heap.size w wr)
    case atStart => exact ⟨0, rfl, Nat.zero_le _, rfl, World.ownsRow_nil _ _ _ _, H3.out.2.2⟩
    case round =>
      obtain ⟨j, rfl, hj, rfl, hO, hb⟩ := hrel
      obtain ⟨au, cu, hu⟩ := row_shape hO
      obtain ⟨ys, hys⟩ : ∃ ys, ys = Sy.ends ((zs.drop f).take j) b := ⟨_, rfl⟩
      rw [← hys] at hO hu
      obtain ⟨N, hN⟩ : ∃ N, N = ys.length := ⟨_, rfl⟩
      rw [← hN] at hu
      subst hu
      by_cases hlt : j < R
      · obtain ⟨x, hx⟩ : ∃ x, (zs.drop f)[j]? = some x := ⟨(zs.drop f)[j]'(by have := H4.out.2; have := H2.out.2.2.2.2; rw [List.length_drop]; omega), List.getElem?_eq_getElem _⟩
        obtain ⟨a, rfl, d0, d1⟩ := step_at (H4.out.1 wr (HT0.out.below hb)) hx
        have hst := Sy.ends_take hx b
        have hno := fun (hxb : x.1 ≠ b) => Sy.ends_cut (j := j) H1.out.2.2.2.1 H3.out.1 (by have := H2.out.2.2.2.2; have := H4.out.2; omega) (fun z hz => by rw [List.getElem?_drop] at hx; rw [hx] at hz; cases hz; exact hxb)
        obtain ⟨x1, x2⟩ := x
        simp only at d0 d1 hst hno
        obtain ⟨wb, hwb⟩ : ∃ wb, wb = wr.alloc (.cells #[.int .i64 x1, .int .i64 x2] 142) := ⟨_, rfl⟩
        have hbb : Below wr.heap.size wr wb := by rw [hwb]; exact (Below.refl _ _).alloc (Nat.le_refl _) _
        have hgb : wb.heap[wr.heap.size]? = some (.cells #[.int .i64 x1, .int .i64 x2] 142 (0, 0)) := by rw [hwb]; exact heap_alloc_new wr _
        have f0 : wb.cell? ⟨wr.heap.size, 0, none⟩ = some (.int .i64 x1) := cell0_of hgb rfl
        have f1 : wb.cell? ⟨wr.heap.size, 1, none⟩ = some (.int .i64 x2) := cell0_of hgb rfl
        have hOb : OwnI wb w.heap.size (.slice au N cu) ys := trow_at hO fun b hb => hbb.block b (hO.lt b hb).2
        have hOz : wb.ownsRow w.heap.size 3 1 (.slice au N cu) N (iC ys) := by have h1 := hOb; unfold OwnI at h1; rw [← hN] at h1; exact h1
        have hbw : Below w.heap.size w wb := hb.trans (hbb.mono hb.size)
        have hle : w.heap.size ≤ (wb.alloc (.cells #[.int .i64 x2] 3)).heap.size := by have := hbw.size; simp; omega
        have hNl : N ≤ 100000 := by have := Sy.ends_len ((zs.drop f).take j) b; rw [List.length_take, List.length_drop] at this; rw [hN, hys]; omega
        have hml : N + 1 ≤ maxLen := by unfold maxLen; omega
        have hby : (N + 1) * 8 ≤ 140737488355328 := by omega
        have q0 : (0 : Int) ≤ (j : Int) := by omega
        have q1 : (j : Int) < (R : Int) := by omega
        have HZ : Hid _ := And.intro hOz (And.intro hbw (And.intro hwb (And.intro hys (And.intro hst (And.intro hN (And.intro hOb hno))))))
        clear hO hOb hOz hbw hwb hbb hgb hys hst hN hx hb hno
        by_cases hxb : x1 = b
        · have e1 : (x1 != b) = false := by simp [hxb]
          have HX : Hid (x1 = b) := hxb
          clear hxb
          go_upto_region 7 with fail
          rw [← HZ.out.2.2.1]
          go_wp2_with (at_builtin; refine wpList_append_own_at _ rfl _ _ 28 rfl w.heap.size 3 i0 (.int .i64 0) 1 8 Tryz.underlying28 hi0 hz0 hz1 hz2 rfl (by decide) (.slice au N cu) N (iC ys) rfl (HZ.out.1.alloc _) ⟨wb.heap.size, 0, none⟩ 1 1 [.int .i64 x2] rfl rfl (World.news_of_block (cs := #[.int .i64 x2]) (t := 3) (fr := (0, 0)) (heap_alloc_new wb _)) (by simp [Value.oneCell']) hml hby hle ?_; intro v5 w5 hO5 hg5 hnil5 hat5; have H5 : Hid _ := And.intro hO5 hg5; clear hO5 hg5 hnil5 hat5)
          go_roundg (R - (j + 1))
          case measure => omega
          case rel =>
            refine ⟨j + 1, rfl, by omega, by go_num, ?_, ?_⟩
            · rw [HZ.out.2.2.2.2.1, if_pos HX.out, ← HZ.out.2.2.2.1]
              unfold OwnI
              rw [iC_snoc, List.length_append, ← HZ.out.2.2.2.2.2.1]
              exact H5.out.1
            · exact HZ.out.2.1.trans ((grown_alloc H5.out.2).below HZ.out.2.1.size fun b hb => (HZ.out.1.lt b hb).1)
        · have e1 : (x1 != b) = true := by simp [hxb]
          have HX : Hid (x1 ≠ b) := hxb
          clear hxb
          go_upto_region 7 with fail
          rw [← HZ.out.2.2.1]
          go_wp2_with fail
          go_ret
          refine ⟨_, rfl, ?_, HZ.out.2.1⟩
          rw [HZ.out.2.2.2.2.2.2.2 HX.out, ← HZ.out.2.2.2.1]
          exact HZ.out.2.2.2.2.2.2.1
      · obtain rfl : j = R := by omega
        have q1 : ¬ (j : Int) < (j : Int) := by omega
        have HO : Hid _ := And.intro hO (And.intro hb hys)
        clear hO hb hys hN
        go_wp2_with fail
        go_ret
        refine ⟨_, rfl, ?_, HO.out.2.1⟩
        rw [Sy.ends_cut (j := j) H1.out.2.2.2.1 H3.out.1 (by have := H2.out.2.2.2.2; have := H4.out.2; omega) (fun z hz => by have := (List.getElem?_eq_some_iff.1 hz).1; have := H2.out.2.2.2.2; have := H4.out.2; omega), ← HO.out.2.2]
        exact HO.out.1
set_option maxRecDepth 100000 in
set_option maxHeartbeats 1000000 in
theorem by_any {B g bs bb cs cb n : Nat} {k s : Int} {es : List Sy.Ed} (i b : Int) (w : World) (h : Gr w B g bs bb cs cb n k s es) : Calls Tryz.prog 106 #[.pointer (some ⟨g, 0, none⟩), .int .i64 i, .int .i64 b] w fun r w' => ∃ u, r = .returned u ∧ OwnI w' w.heap.size u (Sy.ends (Sy.rowOf n (Sy.nf es) i) b) ∧ Below w.heap.size w w' := by
  obtain ⟨_, _, _, ⟨c0, c1⟩, _, _⟩ := h.cells
  have hq := Tryz.eqG g
  have hs := h.sizes
  have hR := tends_any bs bb (Sy.nf es).length n B (Sy.nf es) i b w (by omega) (rfl) (by omega) (Sy.nf_str _) h.out
  unfold tabV at hR
  have HR : Hid _ := hR
  obtain ⟨L, hL⟩ : ∃ L, L = (Sy.nf es).length := ⟨_, rfl⟩
  rw [← hL] at c0 HR
  clear h hR hL hs
  go_enter Tryz.func106, Tryz.ntmps106
  go_wp2_with fail
  refine Calls.mono HR.out ?_
  rintro r w1 ⟨u, rfl, hO, hb⟩
  have H1 : Hid _ := And.intro hO hb
  clear hO hb
  go_wp2_with fail
  go_ret
  exact ⟨_, rfl, H1.out.1, H1.out.2⟩
end Go.Proofs.YtkiapldehlnndaaGreatDoor
/- Contract of the law's met: is each step of p met by a step of q into the same class? -/
namespace Go.Proofs.YtkiapldehlnndaaGreatDoor
open Go.RowKit Go.Maps
attribute [local go_sem ↓] Go.wp_at_zero Go.wp_at_succ
theorem bel9 {w W w8 : World} (hb : Below W.heap.size W w8) (h : Below w.heap.size w W) : Below w.heap.size w w8 := h.trans (hb.mono h.size)
def hit (c : List Nat) (ys : List Int) (t : Int) (j : Nat) : Bool := (ys.take j).any fun y => Ro.cl c y == Ro.cl c t
def metB (c : List Nat) (xs ys : List BSteps.El) : Bool := xs.all fun x => (Sy.ends ys x.1).any fun y => Ro.cl c y == Ro.cl c x.2
theorem hit_succ (c : List Nat) {ys : List Int} (t : Int) {j : Nat} {y : Int} (h : ys[j]? = some y) : hit c ys t (j + 1) = (hit c ys t j || (Ro.cl c y == Ro.cl c t)) := by
  unfold hit
  rw [take_succ_of h]
  simp
theorem hit_all (c : List Nat) {ys : List Int} (t : Int) {j : Nat} (h : j = ys.length) : hit c ys t j = ys.any fun y => Ro.cl c y == Ro.cl c t := by
  unfold hit
  rw [List.take_of_length_le (by omega)]
theorem met_iff {c : List Nat} {xs ys : List BSteps.El} : metB c xs ys = true ↔ ∀ b k, Ro.leads c xs b k → Ro.leads c ys b k := by
  unfold metB Ro.leads
  rw [List.all_eq_true]
  constructor
  · rintro h b k ⟨z, hz, rfl, rfl⟩
    have h1 := h z hz
    rw [List.any_eq_true] at h1
    obtain ⟨y, hy, he⟩ := h1
    unfold Sy.ends at hy
    obtain ⟨z2, hz2, rfl⟩ := List.mem_map.1 hy
    obtain ⟨h2, h3⟩ := List.mem_filter.1 hz2
    exact ⟨z2, h2, by simpa using h3, by simpa using he⟩
  · intro h z hz
    obtain ⟨z2, h2, h3, h4⟩ := h z.1 (Ro.cl c z.2) ⟨z, hz, rfl, rfl⟩
    rw [List.any_eq_true]
    exact ⟨z2.2, List.mem_map.2 ⟨z2, List.mem_filter.2 ⟨h2, by simpa using h3⟩, rfl⟩, by simpa using h4⟩
theorem res_up9 {W w8 : World} {b : Nat} {o : Obj} (hb : Below W.heap.size W w8) (h : W.heap[b]? = some o) : w8.heap[b]? = some o := (hb.block b (t_lt h)).trans h
theorem met_no {c : List Nat} {xs ys : List BSteps.El} {i : Nat} (h : metB c (xs.take (i + 1)) ys = false) : metB c xs ys = false := by
  unfold metB at h ⊢
  rw [List.all_eq_false] at h ⊢
  obtain ⟨x, hx, hn⟩ := h
  exact ⟨x, List.mem_of_mem_take hx, hn⟩
theorem hasI_at {w : World} {ao : Option Addr} {n cap : Nat} {zs : List Int} (h : HasI w (.slice ao n cap) zs) {i : Nat} {z : Int} (hz : zs[i]? = some z) : ∃ a, ao = some a ∧ w.cell? (a.add i) = some (.int .i64 z) := by
  obtain ⟨ao', cap', he, h2⟩ := h
  injection he with e1 e2 e3
  rw [e1]
  exact h2 i z hz
theorem row_fit {m : Nat} {k s : Int} {es : List Sy.Ed} (hq : Sy.right m k s es = true) (i : Int) : ∀ z ∈ Sy.rowOf m (Sy.nf es) i, 0 ≤ z.2 ∧ z.2 < (m : Int) := fun z hz => by
  unfold Sy.rowOf at hz
  split at hz
  · unfold Sy.steps at hz
    obtain ⟨e, he, rfl⟩ := List.mem_map.1 hz
    have h3 := (right_parts hq).2.2.2.2.2 e ((Sy.nf_mem es e).1 (List.mem_filter.1 he).1)
    exact ⟨h3.2.2.1, h3.2.2.2.1⟩
  · simp at hz
set_option maxRecDepth 100000 in
set_option maxHeartbeats 8000000 in
set_option linter.unusedSimpArgs false in
theorem met_any {B g bs bb cs cb m : Nat} {k s : Int} {es : List Sy.Ed} (c : List Nat) (vc : Value) (p q : Int) (w : World) (hG : Gr w B g bs bb cs cb m k s es) (hc : c.length = m) (hv : HasI w vc (natI c)) :
    Calls Tryz.prog 30 #[.pointer (some ⟨g, 0, none⟩), vc, .int .i64 p, .int .i64 q] w fun r w' => r = .returned (.bool (metB c (Sy.rowOf m (Sy.nf es) p) (Sy.rowOf m (Sy.nf es) q))) ∧ Below w.heap.size w w' := by
  have hv0 := hv
  obtain ⟨ac, cc, rfl, _⟩ := hv0
  have hcn : (natI c).length = m := by simp [natI, hc]
  rw [hcn] at hv ⊢
  obtain ⟨xs, hxs⟩ : ∃ xs, xs = Sy.rowOf m (Sy.nf es) p := ⟨_, rfl⟩
  obtain ⟨ys, hys⟩ : ∃ ys, ys = Sy.rowOf m (Sy.nf es) q := ⟨_, rfl⟩
  have hO := out_any p w hG
  have hlx := rowOf_len m (Sy.nf es) p
  have hly := rowOf_len m (Sy.nf es) q
  have hsz := hG.sizes
  rw [← hxs] at hO hlx ⊢
  rw [← hys] at hly ⊢
  have H0 : Hid _ := And.intro hO (And.intro hG (And.intro hv (And.intro hxs (And.intro hys hc))))
  obtain ⟨N, hN⟩ : ∃ N, N = xs.length := ⟨_, rfl⟩
  have hNm : N ≤ 10000 := by omega
  have hYm : ys.length ≤ 10000 := by omega
  have HN : Hid _ := hN
  clear hO hG hv hxs hys hc hN hlx hly hsz hcn
  go_enter Tryz.func30, Tryz.ntmps30
  go_wp2_with fail
  refine Calls.mono H0.out.1 ?_
  rintro r w1 ⟨u1, rfl, hO1, hb1⟩
  obtain ⟨a1, k1, hu1⟩ := row_shape hO1
  rw [← HN.out] at hu1
  subst hu1
  have H1 : Hid _ := And.intro hO1 hb1
  clear hO1 hb1
  go_wp2_with fail
  go_loopg [18] N (fun q9 iv wr => ∃ i : Nat, q9 = N - i ∧ i ≤ N ∧ iv = .int .i64 i ∧ metB c (xs.take i) ys = true ∧ Below w1.heap.size w1 wr)
  case atStart => exact ⟨0, rfl, Nat.zero_le _, rfl, rfl, Below.refl _ _⟩
  case round =>
    obtain ⟨i, rfl, hi, rfl, hmet, hbr⟩ := hrel
    obtain ⟨w2, rfl⟩ : ∃ w2, w2 = wr := ⟨_, rfl⟩
    by_cases hlt : i < N
    · obtain ⟨⟨lb, t0⟩, hz⟩ : ∃ z, xs[i]? = some z := ⟨xs[i]'(by have := HN.out; omega), List.getElem?_eq_getElem _⟩
      have hfit := row_fit H0.out.2.1.right p (lb, t0) (by rw [← H0.out.2.2.2.1]; exact List.mem_of_getElem? hz)
      simp only at hfit
      obtain ⟨t, rfl⟩ : ∃ t : Nat, t0 = (t : Int) := ⟨t0.toNat, by omega⟩
      obtain ⟨a, rfl, d0, d1⟩ := step_at (BSteps.Own.has (trow_at (w' := w2) H1.out.1 fun b e => hbr.block b (H1.out.1.lt b e).2)) hz
      simp only at d0 d1
      obtain ⟨ct, hct⟩ : ∃ ct, c[t]? = some ct := ⟨_, List.getElem?_eq_getElem (by have := H0.out.2.2.2.2.2; omega)⟩
      obtain ⟨w3, hw3⟩ : ∃ w3, w3 = w2.alloc (.cells #[.int .i64 lb, .int .i64 t] 142) := ⟨_, rfl⟩
      have hb3 : Below w2.heap.size w2 w3 := by rw [hw3]; exact (Below.refl _ _).alloc (Nat.le_refl _) _
      have hg3 : w3.heap[w2.heap.size]? = some (.cells #[.int .i64 lb, .int .i64 t] 142 (0, 0)) := by rw [hw3]; exact heap_alloc_new w2 _
      have f0 : w3.cell? ⟨w2.heap.size, 0, none⟩ = some (.int .i64 lb) := cell0_of hg3 rfl
      have hb03 := bel9 hb3 (bel9 hbr H1.out.2)
      have hBy := by_any q lb w3 (H0.out.2.1.below hb03)
      rw [← H0.out.2.2.2.2.1] at hBy
      have p0 : (0 : Int) ≤ (i : Int) := by omega
      have p1 : (i : Int) < (N : Int) := by omega
      have H3 : Hid _ := And.intro hw3 (And.intro hb03 (And.intro hg3 (And.intro hBy (And.intro hz (And.intro hmet (And.intro (bel9 hb3 hbr) hct))))))
      clear hw3 hb3 hg3 hb03 hBy hz hmet hbr hct
      go_upto_region 5 with fail
      rw [← H3.out.1]
      go_wp2_with fail
      refine Calls.mono H3.out.2.2.2.1 ?_
      rintro r w4 ⟨u4, rfl, hO4, hb4⟩
      obtain ⟨zs, hzs⟩ : ∃ zs, zs = Sy.ends ys lb := ⟨_, rfl⟩
      have hzl := Sy.ends_len ys lb
      rw [← hzs] at hO4 hzl
      obtain ⟨a4, k4, hu4⟩ := row_shape hO4
      obtain ⟨M, hM⟩ : ∃ M, M = zs.length := ⟨_, rfl⟩
      rw [← hM] at hu4
      subst hu4
      have hMm : M ≤ 10000 := by omega
      have H4 : Hid _ := And.intro hO4.has (And.intro hb4 (And.intro hzs hM))
      clear hO4 hb4 hzs hM hzl
      go_wp2_with fail
      go_loopg [11, 28] M (fun q9 fv jv wr => ∃ j : Nat, q9 = M - j ∧ j ≤ M ∧ jv = .int .i64 j ∧ fv = .bool (hit c zs t j) ∧ Below w4.heap.size w4 wr)
      case atStart => exact ⟨0, rfl, Nat.zero_le _, rfl, by simp [hit], Below.refl _ _⟩
      case round =>
        obtain ⟨j, rfl, hj, rfl, rfl, hbq⟩ := hrel
        obtain ⟨w5, rfl⟩ : ∃ w5, w5 = wr := ⟨_, rfl⟩
        by_cases hjm : j < M
        · obtain ⟨y0, hy⟩ : ∃ y, zs[j]? = some y := ⟨zs[j]'(by have := H4.out.2.2.2; omega), List.getElem?_eq_getElem _⟩
          have hyf : 0 ≤ y0 ∧ y0 < (m : Int) := by
            have h1 := List.mem_of_getElem? hy
            rw [H4.out.2.2.1] at h1
            obtain ⟨z2, hz2, rfl⟩ := List.mem_map.1 h1
            exact row_fit H0.out.2.1.right q z2 (by rw [← H0.out.2.2.2.2.1]; exact (List.mem_filter.1 hz2).1)
          obtain ⟨y, rfl⟩ : ∃ y : Nat, y0 = (y : Int) := ⟨y0.toNat, by omega⟩
          obtain ⟨cy, hcy⟩ : ∃ cy, c[y]? = some cy := ⟨_, List.getElem?_eq_getElem (by have := H0.out.2.2.2.2.2; omega)⟩
          obtain ⟨a6, rfl, e0⟩ := hasI_at (H4.out.1.below hbq) hy
          have hb05 := bel9 hbq (bel9 H4.out.2.1 H3.out.2.1)
          have hvk := H0.out.2.2.1.below hb05
          obtain ⟨a7, rfl, e1⟩ := hasI_at hvk (i := y) (z := (cy : Int)) (by simp [natI, hcy])
          obtain ⟨a8, ha8, e2⟩ := hasI_at hvk (i := t) (z := (ct : Int)) (by simp [natI, H3.out.2.2.2.2.2.2.2])
          obtain rfl := Option.some.inj ha8
          clear hvk ha8
          have hct : c[t]? = some ct := H3.out.2.2.2.2.2.2.2
          have hsu := hit_succ c (t : Int) hy
          have ecy : Ro.cl c (y : Int) = cy := by unfold Ro.cl; rw [Int.toNat_natCast, hcy]; rfl
          have ect : Ro.cl c (t : Int) = ct := by unfold Ro.cl; rw [Int.toNat_natCast, hct]; rfl
          rw [ecy, ect] at hsu
          have f1 : w5.cell? ⟨w2.heap.size, 1, none⟩ = some (.int .i64 t) := cell0_of (res_up9 (bel9 hbq H4.out.2.1) H3.out.2.2.1) rfl
          have r0 : (0 : Int) ≤ (j : Int) := by omega
          have r1 : (j : Int) < (M : Int) := by omega
          have r2 : (0 : Int) ≤ (y : Int) := by omega
          have r3 : (y : Int) < (m : Int) := by omega
          have r4 : (0 : Int) ≤ (t : Int) := by omega
          have r5 : (t : Int) < (m : Int) := by omega
          have HS : Hid _ := And.intro hsu hbq
          clear hsu hbq hb05 ecy ect hcy hct hy hyf
          generalize hfl : hit c zs (t : Int) j = fl at HS ⊢
          clear hfl
          cases fl with
          | true =>
            go_upto_region 8 with fail
            refine wp_region_held_drew (S := (fun w' => w'.cell? (a7.add y) = some (.int .i64 cy) ∧ w'.cell? (a7.add t) = some (.int .i64 ct) ∧ w'.cell? ⟨w2.heap.size, 1, none⟩ = some (.int .i64 t))) (by kernel_rfl) ?_ (fun hHeld => ?_)
            · exact ⟨e1, e2, f1⟩
            refine wpAnyH_take (i := 0) (oi := _) (v := ?_) rfl (by kernel_rfl) (by kernel_rfl) (by kernel_rfl) (fun _ _ _ h => h) (Or.inl ⟨by rfl, ?_⟩) (by assumption) ?_; rotate_left; (focus (intro w hSw; (try dsimp only at hSw); go_simp; (try with_reducible rfl))); (try simp only [List.getElem_toArray, List.getElem_cons_succ, List.getElem_cons_zero, Act.put, List.setIfInBounds_toArray, List.set_cons_zero, List.set_cons_succ])
            refine wpAnyH_take (i := 1) (oi := _) (v := ?_) rfl (by kernel_rfl) (by kernel_rfl) (by kernel_rfl) (fun _ _ _ h => h) (Or.inl ⟨by rfl, ?_⟩) (by assumption) ?_; rotate_left; (focus (intro w hSw; (try dsimp only at hSw); go_simp; (try with_reducible rfl))); (try simp only [List.getElem_toArray, List.getElem_cons_succ, List.getElem_cons_zero, Act.put, List.setIfInBounds_toArray, List.set_cons_zero, List.set_cons_succ])
            refine wpAnyH_take (i := 2) (oi := _) (v := undef) rfl (by kernel_rfl) (by kernel_rfl) (by kernel_rfl) (fun _ _ _ h => h) (Or.inr ⟨by rfl, rfl⟩) (by assumption) ?_
            (try simp only [List.getElem_toArray, List.getElem_cons_succ, List.getElem_cons_zero, Act.put, List.setIfInBounds_toArray, List.set_cons_zero, List.set_cons_succ])
            refine wpAnyH_take (i := 3) (oi := _) (v := undef) rfl (by kernel_rfl) (by kernel_rfl) (by kernel_rfl) (fun _ _ _ h => h) (Or.inr ⟨by rfl, rfl⟩) (by assumption) ?_
            (try simp only [List.getElem_toArray, List.getElem_cons_succ, List.getElem_cons_zero, Act.put, List.setIfInBounds_toArray, List.set_cons_zero, List.set_cons_succ])
            refine wpAnyH_take (i := 4) (oi := _) (v := undef) rfl (by kernel_rfl) (by kernel_rfl) (by kernel_rfl) (fun _ _ _ h => h) (Or.inr ⟨by rfl, rfl⟩) (by assumption) ?_
            (try simp only [List.getElem_toArray, List.getElem_cons_succ, List.getElem_cons_zero, Act.put, List.setIfInBounds_toArray, List.set_cons_zero, List.set_cons_succ])
            refine wpAnyH_take (i := 5) (oi := _) (v := undef) rfl (by kernel_rfl) (by kernel_rfl) (by kernel_rfl) (fun _ _ _ h => h) (Or.inr ⟨by rfl, rfl⟩) (by assumption) ?_
            (try simp only [List.getElem_toArray, List.getElem_cons_succ, List.getElem_cons_zero, Act.put, List.setIfInBounds_toArray, List.set_cons_zero, List.set_cons_succ])
            refine wpAnyH_take (i := 6) (oi := _) (v := undef) rfl (by kernel_rfl) (by kernel_rfl) (by kernel_rfl) (fun _ _ _ h => h) (Or.inr ⟨by rfl, rfl⟩) (by assumption) ?_
            (try simp only [List.getElem_toArray, List.getElem_cons_succ, List.getElem_cons_zero, Act.put, List.setIfInBounds_toArray, List.set_cons_zero, List.set_cons_succ])
            refine wpAnyH_take (i := 7) (oi := _) (v := undef) rfl (by kernel_rfl) (by kernel_rfl) (by kernel_rfl) (fun _ _ _ h => h) (Or.inr ⟨by rfl, rfl⟩) (by assumption) ?_
            (try simp only [List.getElem_toArray, List.getElem_cons_succ, List.getElem_cons_zero, Act.put, List.setIfInBounds_toArray, List.set_cons_zero, List.set_cons_succ])
            refine wpAnyH_take (i := 8) (oi := _) (v := undef) rfl (by kernel_rfl) (by kernel_rfl) (by kernel_rfl) (fun _ _ _ h => h) (Or.inr ⟨by rfl, rfl⟩) (by assumption) ?_
            (try simp only [List.getElem_toArray, List.getElem_cons_succ, List.getElem_cons_zero, Act.put, List.setIfInBounds_toArray, List.set_cons_zero, List.set_cons_succ])
            refine wpAnyH_take (i := 9) (oi := _) (v := undef) rfl (by kernel_rfl) (by kernel_rfl) (by kernel_rfl) (fun _ _ _ h => h) (Or.inr ⟨by rfl, rfl⟩) (by assumption) ?_
            (try simp only [List.getElem_toArray, List.getElem_cons_succ, List.getElem_cons_zero, Act.put, List.setIfInBounds_toArray, List.set_cons_zero, List.set_cons_succ])
            refine wpAnyH_take (i := 10) (oi := _) (v := undef) rfl (by kernel_rfl) (by kernel_rfl) (by kernel_rfl) (fun _ _ _ h => h) (Or.inr ⟨by rfl, rfl⟩) (by assumption) ?_
            (try simp only [List.getElem_toArray, List.getElem_cons_succ, List.getElem_cons_zero, Act.put, List.setIfInBounds_toArray, List.set_cons_zero, List.set_cons_succ])
            refine wpAnyH_take (i := 11) (oi := _) (v := undef) rfl (by kernel_rfl) (by kernel_rfl) (by kernel_rfl) (fun _ _ _ h => h) (Or.inr ⟨by rfl, rfl⟩) (by assumption) ?_
            (try simp only [List.getElem_toArray, List.getElem_cons_succ, List.getElem_cons_zero, Act.put, List.setIfInBounds_toArray, List.set_cons_zero, List.set_cons_succ])
            refine wpAnyH_take (i := 12) (oi := _) (v := ?_) rfl (by kernel_rfl) (by kernel_rfl) (by kernel_rfl) (fun _ _ _ h => h) (Or.inl ⟨by rfl, ?_⟩) (by assumption) ?_; rotate_left; (focus (intro w hSw; (try dsimp only at hSw); go_simp; (try with_reducible rfl))); (try simp only [List.getElem_toArray, List.getElem_cons_succ, List.getElem_cons_zero, Act.put, List.setIfInBounds_toArray, List.set_cons_zero, List.set_cons_succ])
            refine wpAnyH_take (i := 13) (oi := _) (v := ?_) rfl (by kernel_rfl) (by kernel_rfl) (by kernel_rfl) (fun _ _ _ h => h) (Or.inl ⟨by rfl, ?_⟩) (by assumption) ?_; rotate_left; (focus (intro w hSw; (try dsimp only at hSw); go_simp; (try with_reducible rfl))); (try simp only [List.getElem_toArray, List.getElem_cons_succ, List.getElem_cons_zero, Act.put, List.setIfInBounds_toArray, List.set_cons_zero, List.set_cons_succ])
            refine wpAnyH_done (by kernel_rfl) ?_ _
            (try go_simp)
            go_wp2_with fail
            go_roundg (M - (j + 1))
            case measure => omega
            case rel => exact ⟨j + 1, rfl, by omega, by go_num, by rw [HS.out.1]; rfl, HS.out.2.drew⟩
          | false =>
            obtain ⟨bq, hbq2⟩ : ∃ bq, bq = (cy == ct) := ⟨_, rfl⟩
            by_cases hce : cy = ct
            · have n1 : ((cy : Int) == (ct : Int)) = true := by simp [hce]
              have HCE : Hid _ := hce
              clear hce hbq2
              go_upto_region 8 with fail
              refine wp_region_held_drew (S := (fun w' => w'.cell? (a7.add y) = some (.int .i64 cy) ∧ w'.cell? (a7.add t) = some (.int .i64 ct) ∧ w'.cell? ⟨w2.heap.size, 1, none⟩ = some (.int .i64 t))) (by kernel_rfl) ?_ (fun hHeld => ?_)
              · exact ⟨e1, e2, f1⟩
              refine wpAnyH_take (i := 0) (oi := _) (v := ?_) rfl (by kernel_rfl) (by kernel_rfl) (by kernel_rfl) (fun _ _ _ h => h) (Or.inl ⟨by rfl, ?_⟩) (by assumption) ?_; rotate_left; (focus (intro w hSw; (try dsimp only at hSw); go_simp; (try with_reducible rfl))); (try simp only [List.getElem_toArray, List.getElem_cons_succ, List.getElem_cons_zero, Act.put, List.setIfInBounds_toArray, List.set_cons_zero, List.set_cons_succ])
              refine wpAnyH_take (i := 1) (oi := _) (v := ?_) rfl (by kernel_rfl) (by kernel_rfl) (by kernel_rfl) (fun _ _ _ h => h) (Or.inl ⟨by rfl, ?_⟩) (by assumption) ?_; rotate_left; (focus (intro w hSw; (try dsimp only at hSw); go_simp; (try with_reducible rfl))); (try simp only [List.getElem_toArray, List.getElem_cons_succ, List.getElem_cons_zero, Act.put, List.setIfInBounds_toArray, List.set_cons_zero, List.set_cons_succ])
              refine wpAnyH_take (i := 2) (oi := _) (v := ?_) rfl (by kernel_rfl) (by kernel_rfl) (by kernel_rfl) (fun _ _ _ h => h) (Or.inl ⟨by rfl, ?_⟩) (by assumption) ?_; rotate_left; (focus (intro w hSw; (try dsimp only at hSw); go_simp; (try with_reducible rfl))); (try simp only [List.getElem_toArray, List.getElem_cons_succ, List.getElem_cons_zero, Act.put, List.setIfInBounds_toArray, List.set_cons_zero, List.set_cons_succ])
              refine wpAnyH_take (i := 3) (oi := _) (v := ?_) rfl (by kernel_rfl) (by kernel_rfl) (by kernel_rfl) (fun _ _ _ h => h) (Or.inl ⟨by rfl, ?_⟩) (by assumption) ?_; rotate_left; (focus (intro w hSw; (try dsimp only at hSw); go_simp; (try with_reducible rfl))); (try simp only [List.getElem_toArray, List.getElem_cons_succ, List.getElem_cons_zero, Act.put, List.setIfInBounds_toArray, List.set_cons_zero, List.set_cons_succ])
              refine wpAnyH_take (i := 4) (oi := _) (v := ?_) rfl (by kernel_rfl) (by kernel_rfl) (by kernel_rfl) (fun _ _ _ h => h) (Or.inl ⟨by rfl, ?_⟩) (by assumption) ?_; rotate_left; (focus (intro w hSw; (try dsimp only at hSw); go_simp; (try with_reducible rfl))); (try simp only [List.getElem_toArray, List.getElem_cons_succ, List.getElem_cons_zero, Act.put, List.setIfInBounds_toArray, List.set_cons_zero, List.set_cons_succ])
              refine wpAnyH_take (i := 5) (oi := _) (v := ?_) rfl (by kernel_rfl) (by kernel_rfl) (by kernel_rfl) (fun _ _ _ h => h) (Or.inl ⟨by rfl, ?_⟩) (by assumption) ?_; rotate_left; (focus (intro w hSw; (try dsimp only at hSw); go_simp; (try with_reducible rfl))); (try simp only [List.getElem_toArray, List.getElem_cons_succ, List.getElem_cons_zero, Act.put, List.setIfInBounds_toArray, List.set_cons_zero, List.set_cons_succ])
              refine wpAnyH_take (i := 6) (oi := _) (v := ?_) rfl (by kernel_rfl) (by kernel_rfl) (by kernel_rfl) (fun _ _ _ h => h) (Or.inl ⟨by rfl, ?_⟩) (by assumption) ?_; rotate_left; (focus (intro w hSw; (try dsimp only at hSw); go_simp; (try with_reducible rfl))); (try simp only [List.getElem_toArray, List.getElem_cons_succ, List.getElem_cons_zero, Act.put, List.setIfInBounds_toArray, List.set_cons_zero, List.set_cons_succ])
              refine wpAnyH_take (i := 7) (oi := _) (v := ?_) rfl (by kernel_rfl) (by kernel_rfl) (by kernel_rfl) (fun _ _ _ h => h) (Or.inl ⟨by rfl, ?_⟩) (by assumption) ?_; rotate_left; (focus (intro w hSw; (try dsimp only at hSw); go_simp; (try with_reducible rfl))); (try simp only [List.getElem_toArray, List.getElem_cons_succ, List.getElem_cons_zero, Act.put, List.setIfInBounds_toArray, List.set_cons_zero, List.set_cons_succ])
              refine wpAnyH_take (i := 8) (oi := _) (v := ?_) rfl (by kernel_rfl) (by kernel_rfl) (by kernel_rfl) (fun _ _ _ h => h) (Or.inl ⟨by rfl, ?_⟩) (by assumption) ?_; rotate_left; (focus (intro w hSw; (try dsimp only at hSw); go_simp; (try with_reducible rfl))); (try simp only [List.getElem_toArray, List.getElem_cons_succ, List.getElem_cons_zero, Act.put, List.setIfInBounds_toArray, List.set_cons_zero, List.set_cons_succ])
              refine wpAnyH_take (i := 9) (oi := _) (v := ?_) rfl (by kernel_rfl) (by kernel_rfl) (by kernel_rfl) (fun _ _ _ h => h) (Or.inl ⟨by rfl, ?_⟩) (by assumption) ?_; rotate_left; (focus (intro w hSw; (try dsimp only at hSw); go_simp; (try with_reducible rfl))); (try simp only [List.getElem_toArray, List.getElem_cons_succ, List.getElem_cons_zero, Act.put, List.setIfInBounds_toArray, List.set_cons_zero, List.set_cons_succ])
              refine wpAnyH_take (i := 10) (oi := _) (v := ?_) rfl (by kernel_rfl) (by kernel_rfl) (by kernel_rfl) (fun _ _ _ h => h) (Or.inl ⟨by rfl, ?_⟩) (by assumption) ?_; rotate_left; (focus (intro w hSw; (try dsimp only at hSw); go_simp; (try with_reducible rfl))); (try simp only [List.getElem_toArray, List.getElem_cons_succ, List.getElem_cons_zero, Act.put, List.setIfInBounds_toArray, List.set_cons_zero, List.set_cons_succ])
              refine wpAnyH_take (i := 11) (oi := _) (v := ?_) rfl (by kernel_rfl) (by kernel_rfl) (by kernel_rfl) (fun _ _ _ h => h) (Or.inl ⟨by rfl, ?_⟩) (by assumption) ?_; rotate_left; (focus (intro w hSw; (try dsimp only at hSw); go_simp; (try with_reducible rfl))); (try simp only [List.getElem_toArray, List.getElem_cons_succ, List.getElem_cons_zero, Act.put, List.setIfInBounds_toArray, List.set_cons_zero, List.set_cons_succ])
              refine wpAnyH_take (i := 12) (oi := _) (v := ?_) rfl (by kernel_rfl) (by kernel_rfl) (by kernel_rfl) (fun _ _ _ h => h) (Or.inl ⟨by rfl, ?_⟩) (by assumption) ?_; rotate_left; (focus (intro w hSw; (try dsimp only at hSw); go_simp; (try with_reducible rfl))); (try simp only [List.getElem_toArray, List.getElem_cons_succ, List.getElem_cons_zero, Act.put, List.setIfInBounds_toArray, List.set_cons_zero, List.set_cons_succ])
              refine wpAnyH_take (i := 13) (oi := _) (v := ?_) rfl (by kernel_rfl) (by kernel_rfl) (by kernel_rfl) (fun _ _ _ h => h) (Or.inl ⟨by rfl, ?_⟩) (by assumption) ?_; rotate_left; (focus (intro w hSw; (try dsimp only at hSw); go_simp; (try with_reducible rfl))); (try simp only [List.getElem_toArray, List.getElem_cons_succ, List.getElem_cons_zero, Act.put, List.setIfInBounds_toArray, List.set_cons_zero, List.set_cons_succ])
              refine wpAnyH_done (by kernel_rfl) ?_ _
              (try go_simp)
              go_wp2_with fail
              go_roundg (M - (j + 1))
              case measure => omega
              case rel => exact ⟨j + 1, rfl, by omega, by go_num, by rw [HS.out.1]; simp [HCE.out], HS.out.2.drew⟩
            · have n1 : ((cy : Int) == (ct : Int)) = false := by simp; omega
              have HCE : Hid _ := hce
              clear hce hbq2
              go_upto_region 8 with fail
              refine wp_region_held_drew (S := (fun w' => w'.cell? (a7.add y) = some (.int .i64 cy) ∧ w'.cell? (a7.add t) = some (.int .i64 ct) ∧ w'.cell? ⟨w2.heap.size, 1, none⟩ = some (.int .i64 t))) (by kernel_rfl) ?_ (fun hHeld => ?_)
              · exact ⟨e1, e2, f1⟩
              refine wpAnyH_take (i := 0) (oi := _) (v := ?_) rfl (by kernel_rfl) (by kernel_rfl) (by kernel_rfl) (fun _ _ _ h => h) (Or.inl ⟨by rfl, ?_⟩) (by assumption) ?_; rotate_left; (focus (intro w hSw; (try dsimp only at hSw); go_simp; (try with_reducible rfl))); (try simp only [List.getElem_toArray, List.getElem_cons_succ, List.getElem_cons_zero, Act.put, List.setIfInBounds_toArray, List.set_cons_zero, List.set_cons_succ])
              refine wpAnyH_take (i := 1) (oi := _) (v := ?_) rfl (by kernel_rfl) (by kernel_rfl) (by kernel_rfl) (fun _ _ _ h => h) (Or.inl ⟨by rfl, ?_⟩) (by assumption) ?_; rotate_left; (focus (intro w hSw; (try dsimp only at hSw); go_simp; (try with_reducible rfl))); (try simp only [List.getElem_toArray, List.getElem_cons_succ, List.getElem_cons_zero, Act.put, List.setIfInBounds_toArray, List.set_cons_zero, List.set_cons_succ])
              refine wpAnyH_take (i := 2) (oi := _) (v := ?_) rfl (by kernel_rfl) (by kernel_rfl) (by kernel_rfl) (fun _ _ _ h => h) (Or.inl ⟨by rfl, ?_⟩) (by assumption) ?_; rotate_left; (focus (intro w hSw; (try dsimp only at hSw); go_simp; (try with_reducible rfl))); (try simp only [List.getElem_toArray, List.getElem_cons_succ, List.getElem_cons_zero, Act.put, List.setIfInBounds_toArray, List.set_cons_zero, List.set_cons_succ])
              refine wpAnyH_take (i := 3) (oi := _) (v := ?_) rfl (by kernel_rfl) (by kernel_rfl) (by kernel_rfl) (fun _ _ _ h => h) (Or.inl ⟨by rfl, ?_⟩) (by assumption) ?_; rotate_left; (focus (intro w hSw; (try dsimp only at hSw); go_simp; (try with_reducible rfl))); (try simp only [List.getElem_toArray, List.getElem_cons_succ, List.getElem_cons_zero, Act.put, List.setIfInBounds_toArray, List.set_cons_zero, List.set_cons_succ])
              refine wpAnyH_take (i := 4) (oi := _) (v := ?_) rfl (by kernel_rfl) (by kernel_rfl) (by kernel_rfl) (fun _ _ _ h => h) (Or.inl ⟨by rfl, ?_⟩) (by assumption) ?_; rotate_left; (focus (intro w hSw; (try dsimp only at hSw); go_simp; (try with_reducible rfl))); (try simp only [List.getElem_toArray, List.getElem_cons_succ, List.getElem_cons_zero, Act.put, List.setIfInBounds_toArray, List.set_cons_zero, List.set_cons_succ])
              refine wpAnyH_take (i := 5) (oi := _) (v := ?_) rfl (by kernel_rfl) (by kernel_rfl) (by kernel_rfl) (fun _ _ _ h => h) (Or.inl ⟨by rfl, ?_⟩) (by assumption) ?_; rotate_left; (focus (intro w hSw; (try dsimp only at hSw); go_simp; (try with_reducible rfl))); (try simp only [List.getElem_toArray, List.getElem_cons_succ, List.getElem_cons_zero, Act.put, List.setIfInBounds_toArray, List.set_cons_zero, List.set_cons_succ])
              refine wpAnyH_take (i := 6) (oi := _) (v := ?_) rfl (by kernel_rfl) (by kernel_rfl) (by kernel_rfl) (fun _ _ _ h => h) (Or.inl ⟨by rfl, ?_⟩) (by assumption) ?_; rotate_left; (focus (intro w hSw; (try dsimp only at hSw); go_simp; (try with_reducible rfl))); (try simp only [List.getElem_toArray, List.getElem_cons_succ, List.getElem_cons_zero, Act.put, List.setIfInBounds_toArray, List.set_cons_zero, List.set_cons_succ])
              refine wpAnyH_take (i := 7) (oi := _) (v := ?_) rfl (by kernel_rfl) (by kernel_rfl) (by kernel_rfl) (fun _ _ _ h => h) (Or.inl ⟨by rfl, ?_⟩) (by assumption) ?_; rotate_left; (focus (intro w hSw; (try dsimp only at hSw); go_simp; (try with_reducible rfl))); (try simp only [List.getElem_toArray, List.getElem_cons_succ, List.getElem_cons_zero, Act.put, List.setIfInBounds_toArray, List.set_cons_zero, List.set_cons_succ])
              refine wpAnyH_take (i := 8) (oi := _) (v := ?_) rfl (by kernel_rfl) (by kernel_rfl) (by kernel_rfl) (fun _ _ _ h => h) (Or.inl ⟨by rfl, ?_⟩) (by assumption) ?_; rotate_left; (focus (intro w hSw; (try dsimp only at hSw); go_simp; (try with_reducible rfl))); (try simp only [List.getElem_toArray, List.getElem_cons_succ, List.getElem_cons_zero, Act.put, List.setIfInBounds_toArray, List.set_cons_zero, List.set_cons_succ])
              refine wpAnyH_take (i := 9) (oi := _) (v := ?_) rfl (by kernel_rfl) (by kernel_rfl) (by kernel_rfl) (fun _ _ _ h => h) (Or.inl ⟨by rfl, ?_⟩) (by assumption) ?_; rotate_left; (focus (intro w hSw; (try dsimp only at hSw); go_simp; (try with_reducible rfl))); (try simp only [List.getElem_toArray, List.getElem_cons_succ, List.getElem_cons_zero, Act.put, List.setIfInBounds_toArray, List.set_cons_zero, List.set_cons_succ])
              refine wpAnyH_take (i := 10) (oi := _) (v := ?_) rfl (by kernel_rfl) (by kernel_rfl) (by kernel_rfl) (fun _ _ _ h => h) (Or.inl ⟨by rfl, ?_⟩) (by assumption) ?_; rotate_left; (focus (intro w hSw; (try dsimp only at hSw); go_simp; (try with_reducible rfl))); (try simp only [List.getElem_toArray, List.getElem_cons_succ, List.getElem_cons_zero, Act.put, List.setIfInBounds_toArray, List.set_cons_zero, List.set_cons_succ])
              refine wpAnyH_take (i := 11) (oi := _) (v := ?_) rfl (by kernel_rfl) (by kernel_rfl) (by kernel_rfl) (fun _ _ _ h => h) (Or.inl ⟨by rfl, ?_⟩) (by assumption) ?_; rotate_left; (focus (intro w hSw; (try dsimp only at hSw); go_simp; (try with_reducible rfl))); (try simp only [List.getElem_toArray, List.getElem_cons_succ, List.getElem_cons_zero, Act.put, List.setIfInBounds_toArray, List.set_cons_zero, List.set_cons_succ])
              refine wpAnyH_take (i := 12) (oi := _) (v := ?_) rfl (by kernel_rfl) (by kernel_rfl) (by kernel_rfl) (fun _ _ _ h => h) (Or.inl ⟨by rfl, ?_⟩) (by assumption) ?_; rotate_left; (focus (intro w hSw; (try dsimp only at hSw); go_simp; (try with_reducible rfl))); (try simp only [List.getElem_toArray, List.getElem_cons_succ, List.getElem_cons_zero, Act.put, List.setIfInBounds_toArray, List.set_cons_zero, List.set_cons_succ])
              refine wpAnyH_take (i := 13) (oi := _) (v := ?_) rfl (by kernel_rfl) (by kernel_rfl) (by kernel_rfl) (fun _ _ _ h => h) (Or.inl ⟨by rfl, ?_⟩) (by assumption) ?_; rotate_left; (focus (intro w hSw; (try dsimp only at hSw); go_simp; (try with_reducible rfl))); (try simp only [List.getElem_toArray, List.getElem_cons_succ, List.getElem_cons_zero, Act.put, List.setIfInBounds_toArray, List.set_cons_zero, List.set_cons_succ])
              refine wpAnyH_done (by kernel_rfl) ?_ _
              (try go_simp)
              go_wp2_with fail
              go_roundg (M - (j + 1))
              case measure => omega
              case rel => exact ⟨j + 1, rfl, by omega, by go_num, by rw [HS.out.1]; simpa using HCE.out, HS.out.2.drew⟩
        · obtain rfl : j = M := by omega
          have r1 : ¬ (j : Int) < (j : Int) := by omega
          have hall := hit_all c (t : Int) (ys := zs) (j := j) H4.out.2.2.2
          have hst : metB c (xs.take (i + 1)) ys = hit c zs (t : Int) j := by
            rw [hall, H4.out.2.2.1]
            unfold metB
            rw [take_succ_of H3.out.2.2.2.2.1, List.all_append]
            have h1 := H3.out.2.2.2.2.2.1
            unfold metB at h1
            rw [h1]
            simp
          have HS : Hid _ := And.intro hst (bel9 hbq (bel9 H4.out.2.1 H3.out.2.2.2.2.2.2.1))
          clear hall hst hbq
          generalize hfl : hit c zs (t : Int) j = fl at HS ⊢
          clear hfl
          cases fl with
          | true =>
            go_wp2_with fail
            go_roundg (N - (i + 1))
            case measure => omega
            case rel => exact ⟨i + 1, rfl, by omega, by go_num, HS.out.1, HS.out.2⟩
          | false =>
            go_wp2_with fail
            go_ret
            refine ⟨?_, bel9 HS.out.2 H1.out.2⟩
            rw [met_no HS.out.1]
            rfl
    · obtain rfl : i = N := by omega
      have p1 : ¬ (i : Int) < (i : Int) := by omega
      have HS : Hid _ := And.intro hmet hbr
      clear hmet hbr
      go_wp2_with fail
      go_ret
      refine ⟨?_, bel9 HS.out.2 H1.out.2⟩
      have h1 := HS.out.1
      rw [List.take_of_length_le (by have := HN.out; omega)] at h1
      rw [h1]
      rfl
end Go.Proofs.YtkiapldehlnndaaGreatDoor
/- Chapter 9's laws: small; what the last round's classes keep. -/
namespace Go.Proofs.YtkiapldehlnndaaGreatDoor
open Go.RowKit Go.Maps
attribute [local go_sem ↓] Go.wp_at_zero Go.wp_at_succ
theorem cell_upA {w W : World} {a : Addr} {v : Value} (hc : w.cell? a = some v) (hb : Below w.heap.size w W) : W.cell? a = some v := (hb.cell (World.block_lt_of_cell? w _ hc)).trans hc
theorem alb (w : World) : Hid (∀ o, Below w.heap.size w (w.alloc o)) := fun _ => (Below.refl _ _).alloc (Nat.le_refl _) _
set_option maxRecDepth 100000 in
set_option maxHeartbeats 4000000 in
theorem small_in (n k s : Int) (ao : Option Addr) (L cap : Nat) (w : World) (hn : n ≤ 80) (hl : L ≤ 600) :
    Calls Tryz.prog 26 #[sysV n k s (.slice ao L cap)] w fun r w' => r = .returned (.bool true) ∧ Below w.heap.size w w' := by
  have q1 : decide (n ≤ (80 : Int)) = true := by simpa using hn
  have q2 : decide ((L : Int) ≤ (600 : Int)) = true := by simp; omega
  have HB := alb w
  unfold sysV
  clear hn hl
  go_enter Tryz.func26, Tryz.ntmps26
  go_wp2
  go_ret
  exact ⟨rfl, HB.out _⟩
set_option maxRecDepth 100000 in
set_option maxHeartbeats 4000000 in
theorem small_out (n k s : Int) (ao : Option Addr) (L cap : Nat) (w : World) (h : 80 < n ∨ 600 < L) :
    Calls Tryz.prog 26 #[sysV n k s (.slice ao L cap)] w fun r w' => r = .returned (.bool false) ∧ Below w.heap.size w w' := by
  have HB := alb w
  unfold sysV
  by_cases hn : n ≤ 80
  · have q1 : decide (n ≤ (80 : Int)) = true := by simpa using hn
    have q2 : decide ((L : Int) ≤ (600 : Int)) = false := by simp; omega
    clear hn h
    go_enter Tryz.func26, Tryz.ntmps26
    go_wp2
    go_ret
    exact ⟨rfl, HB.out _⟩
  · have q1 : decide (n ≤ (80 : Int)) = false := by simpa using hn
    clear hn h
    go_enter Tryz.func26, Tryz.ntmps26
    go_wp2
    go_ret
    exact ⟨rfl, HB.out _⟩
namespace Sg
open Ro in
theorem relates_pure {n R : Nat} {out : Nat → List St} (hn : n ≤ 1000) (hR : Last n out R) {p q u : Nat} (hu : (rnd n out R)[p]? = some u) (hv : (rnd n out R)[q]? = some u) : metB (rnd n out R) (out p) (out q) = true := by
  have e1 := hu
  have e2 := hv
  rw [← hR.1] at e1 e2
  exact met_iff.2 fun b k => ((nx_eq (rnd_len n out R) hn (fun u hu => rnd_lt hu) (show (nx n out (rnd n out R))[p]? = some u from e1) e2 hu hv).1 rfl).2 b k |>.1
end Sg
end Go.Proofs.YtkiapldehlnndaaGreatDoor
/- StrongRelates as a call. (Written by mklaw9.py.) -/
namespace Go.Proofs.YtkiapldehlnndaaGreatDoor
open Go.RowKit Go.Maps
attribute [local go_sem ↓] Go.wp_at_zero Go.wp_at_succ
theorem rnd_classes9 (m : Nat) (out : Nat → List Ro.St) (j : Nat) : Sy.classes m (natI (Ro.rnd m out j)) = true := by
  unfold Sy.classes
  rw [Sy.formG_iff, show Sy.canon (natI (Ro.rnd m out j)) = Ro.rnd m out j from (Sg.canon_nat _).trans (Ro.rnd_num m out j)]
  simp [natI, Ro.rnd_len]
theorem rnd_i649 (m : Nat) (hm : m ≤ 1000) (out : Nat → List Ro.St) (j : Nat) : I64s (natI (Ro.rnd m out j)) := fun z hz => by
  unfold natI at hz
  obtain ⟨u, hu, rfl⟩ := List.mem_map.1 hz
  have h1 := Ro.rnd_lt hu
  exact WalkArith.wf_i64 (by omega)
theorem is_sent {w : World} {v : Value} {ls : List ByteArray} {a : Addr} {g : Nat} (hC : Chain w 0 0 a ls v) (hS : Sent w g a) : Calls Tryz.prog 27 #[v, .iface 287 (.pointer (some a))] w fun r w' => r = .returned (.bool true) ∧ w' = w := by
  obtain ⟨_, c, t, h⟩ := hS
  exact (is_chain v ls 0 0 a a c c t t w hC h h).mono fun r w' h => by rw [decide_eq_true rfl] at h; exact h
set_option maxRecDepth 100000 in
set_option maxHeartbeats 4000000 in
theorem lawRelates_out (n k s : Int) (v : Value) (es : List Sy.Ed) (w : World) (hA : PAl9 w) (hv : HasE w v es) (hlen : 80 < n ∨ 600 < es.length) :
    Calls Tryz.prog 7 #[sysV n k s v] w fun r w' => r = .returned (.bool true) ∧ Below w.heap.size w w' := by
  obtain ⟨ao, cap, rfl, hcap, hH⟩ := hv
  obtain ⟨L, hL⟩ : ∃ L, L = es.length := ⟨_, rfl⟩
  rw [← hL] at hcap hlen ⊢
  obtain ⟨w1, hw1⟩ : ∃ w1, w1 = w.alloc (.cells #[.int .i64 n, .int .i64 k, .int .i64 s, .slice ao L cap] 24) := ⟨_, rfl⟩
  have hb1 : Below w.heap.size w w1 := by rw [hw1]; exact (Below.refl _ _).alloc (Nat.le_refl _) _
  have hg1 : w1.heap[w.heap.size]? = some (.cells #[.int .i64 n, .int .i64 k, .int .i64 s, .slice ao L cap] 24 (0, 0)) := by rw [hw1]; exact heap_alloc_new w _
  have hSm := small_out n k s ao L cap w1 hlen
  unfold sysV at hSm ⊢
  obtain ⟨x0, x1, x2, x3⟩ := four_cellsB hg1
  have H1 : Hid _ := And.intro hw1 (And.intro hb1 (And.intro hSm hA))
  clear hA hH hcap hL hw1 hb1 hg1 hSm hlen
  go_enter Tryz.func7, Tryz.ntmps7
  go_upto_region 1 with fail
  rw [← H1.out.1]
  go_wp2_with fail
  refine Calls.mono H1.out.2.2.1 ?_
  rintro r w2 ⟨rfl, hb2⟩
  have H2 : Hid _ := bel9 hb2 H1.out.2.1
  clear hb2 x0 x1 x2 x3
  go_wp2_with fail
  refine Calls.mono (H1.out.2.2.2 _ H2.out) ?_
  rintro r w3 ⟨rfl, hb3⟩
  have H3 : Hid _ := bel9 hb3 H2.out
  clear hb3
  go_wp2_with fail
  go_ret
  exact ⟨rfl, H3.out⟩
set_option maxRecDepth 100000 in
set_option maxHeartbeats 4000000 in
theorem lawRelates_bad (hS : SortOk 1000000) (n k s : Int) (v : Value) (es : List Sy.Ed) (aS aC a1 a3 : Addr) (w : World) (hA : PAl9 w) (hE : EnvS w aS aC a1 a3) (hv : HasE w v es) (hn : n ≤ 80) (hlen : es.length ≤ 600) (hq : Sy.right n k s es = false) :
    Calls Tryz.prog 7 #[sysV n k s v] w fun r w' => r = .returned (.bool true) ∧ Below w.heap.size w w' := by
  obtain ⟨ao, cap, rfl, hcap, hH⟩ := hv
  obtain ⟨L, hL⟩ : ∃ L, L = es.length := ⟨_, rfl⟩
  obtain ⟨w1, hw1⟩ : ∃ w1, w1 = w.alloc (.cells #[.int .i64 n, .int .i64 k, .int .i64 s, .slice ao L cap] 24) := ⟨_, rfl⟩
  have hb1 : Below w.heap.size w w1 := by rw [hw1]; exact (Below.refl _ _).alloc (Nat.le_refl _) _
  have hg1 : w1.heap[w.heap.size]? = some (.cells #[.int .i64 n, .int .i64 k, .int .i64 s, .slice ao L cap] 24 (0, 0)) := by rw [hw1]; exact heap_alloc_new w _
  have hCl := fun W (hb : Below w1.heap.size w1 W) => sclasses_bad hS n k s _ es aS W ((hE.below hb1).below hb).sy ((hH.below hb1).below hb) (by omega) hq
  have hSm := small_in n k s ao L cap w1 hn (by omega)
  rw [← hL] at hCl hlen ⊢
  unfold sysV at hCl hSm ⊢
  have H1 : Hid _ := And.intro hw1 (And.intro hb1 (And.intro hg1 (And.intro hSm (And.intro hCl (And.intro hA hE)))))
  obtain ⟨x0, x1, x2, x3⟩ := four_cellsB hg1
  clear hA hE hH hcap hL hw1 hb1 hg1 hq hCl hSm
  go_enter Tryz.func7, Tryz.ntmps7
  go_upto_region 1 with fail
  rw [← H1.out.1]
  go_wp2_with fail
  refine Calls.mono H1.out.2.2.2.1 ?_
  rintro r w2 ⟨rfl, hb2⟩
  have H2 : Hid _ := And.intro hb2 (bup hb2 H1.out.2.2.1)
  clear hb2 x0 x1 x2 x3
  obtain ⟨x0, x1, x2, x3⟩ := four_cellsB H2.out.2
  go_wp2_with fail
  refine Calls.mono (H1.out.2.2.2.2.1 _ H2.out.1) ?_
  rintro r w3 ⟨b, rfl, hC3, hb3⟩
  have H3 : Hid _ := And.intro (bel9 hb3 (bel9 H2.out.1 H1.out.2.1)) hC3
  clear hC3 hb3 x0 x1 x2 x3
  go_wp2_with fail
  refine Calls.mono (H1.out.2.2.2.2.2.1 _ H3.out.1) ?_
  rintro r w4 ⟨rfl, hb4⟩
  have hE4 := H1.out.2.2.2.2.2.2.below (bel9 hb4 H3.out.1)
  have c0 := hE4.sy.1
  have hIs := is_sent (H3.out.2.below hb4) hE4.sy
  have H4 : Hid _ := And.intro (bel9 hb4 H3.out.1) hIs
  clear hb4 hE4 hIs
  go_wp2_with fail
  refine Calls.mono H4.out.2 ?_
  rintro r w5 ⟨rfl, rfl⟩
  go_wp2_with fail
  go_ret
  exact ⟨rfl, H4.out.1⟩
set_option maxRecDepth 100000 in
set_option maxHeartbeats 32000000 in
set_option linter.unusedSimpArgs false in
theorem lawRelates_ok (hS : SortOk 1000000) (m kk : Nat) (s : Int) (v : Value) (es : List Sy.Ed) (aS aC a1 a3 : Addr) (w : World) (hA : PAl9 w) (hE : EnvS w aS aC a1 a3) (hv : HasE w v es) (hn : m ≤ 80) (hlen : es.length ≤ 600) (hq : Sy.right m kk s es = true) :
    Calls Tryz.prog 7 #[sysV m kk s v] w fun r w' => r = .returned (.bool true) ∧ Below w.heap.size w w' := by
  obtain ⟨ao, cap, rfl, hcap, hH⟩ := hv
  obtain ⟨L, hL⟩ : ∃ L, L = es.length := ⟨_, rfl⟩
  obtain ⟨w1, hw1⟩ : ∃ w1, w1 = w.alloc (.cells #[.int .i64 m, .int .i64 kk, .int .i64 s, .slice ao L cap] 24) := ⟨_, rfl⟩
  have hb1 : Below w.heap.size w w1 := by rw [hw1]; exact (Below.refl _ _).alloc (Nat.le_refl _) _
  have hg1 : w1.heap[w.heap.size]? = some (.cells #[.int .i64 m, .int .i64 kk, .int .i64 s, .slice ao L cap] 24 (0, 0)) := by rw [hw1]; exact heap_alloc_new w _
  have hCl := fun W (hb : Below w1.heap.size w1 W) => sclasses_ok hS m kk s _ es aS W ((hE.below hb1).below hb).sy ((hH.below hb1).below hb) (by omega) hq
  have hNw := fun W (hb : Below w1.heap.size w1 W) => new_ok hS m kk s _ es aS W ((hE.below hb1).below hb).sy ((hH.below hb1).below hb) (by omega) (by omega) hq
  have hSm := small_in m kk s ao L cap w1 (by omega) (by omega)
  have hfit := row_fit hq
  rw [← hL] at hCl hNw hlen ⊢
  unfold sysV at hCl hNw hSm ⊢
  have H1 : Hid _ := And.intro hw1 (And.intro hb1 (And.intro hg1 (And.intro hSm (And.intro hCl (And.intro hNw (And.intro hA hfit))))))
  obtain ⟨x0, x1, x2, x3⟩ := four_cellsB hg1
  clear hA hE hH hcap hL hw1 hb1 hg1 hq hCl hNw hSm hfit
  go_enter Tryz.func7, Tryz.ntmps7
  go_upto_region 1 with fail
  rw [← H1.out.1]
  go_wp2_with fail
  refine Calls.mono H1.out.2.2.2.1 ?_
  rintro r w2 ⟨rfl, hb2⟩
  have H2 : Hid _ := And.intro hb2 (bup hb2 H1.out.2.2.1)
  clear hb2 x0 x1 x2 x3
  obtain ⟨x0, x1, x2, x3⟩ := four_cellsB H2.out.2
  go_wp2_with fail
  refine Calls.mono (H1.out.2.2.2.2.1 _ H2.out.1) ?_
  rintro r w3 ⟨u, R, rfl, hR, hO3, hb3⟩
  obtain ⟨c, hc⟩ : ∃ c, c = Ro.rnd m (fun i => Sy.rowOf m (Sy.nf es) (i : Int)) R := ⟨_, rfl⟩
  have hcl : c.length = m := by rw [hc, Ro.rnd_len]
  rw [← hc] at hO3
  obtain ⟨au, cu, hu⟩ := row_shape hO3
  have hcn : (natI c).length = m := by simp [natI, hcl]
  rw [hcn] at hu
  subst hu
  have hvc := hO3.has
  have H3 : Hid _ := And.intro (bel9 hb3 H2.out.1) (And.intro (bup hb3 H2.out.2) (And.intro hvc (And.intro hR (And.intro hc hcl))))
  clear hb3 x0 x1 x2 x3 hO3 hvc hR hc hcl hcn
  obtain ⟨x0, x1, x2, x3⟩ := four_cellsB H3.out.2.1
  go_wp2_with fail
  refine Calls.mono (H1.out.2.2.2.2.2.1 _ H3.out.1) ?_
  rintro r w4 ⟨g, bs, bb, cs, cb, m', hm', rfl, hG4, hb4⟩
  obtain rfl : m = m' := by omega
  have hMt := fun W (hb : Below w4.heap.size w4 W) (p q : Int) => met_any c (.slice au m cu) p q W (hG4.below hb) H3.out.2.2.2.2.2 ((H3.out.2.2.1.below hb4).below hb)
  have H4 : Hid _ := And.intro (bel9 (bel9 hb4 H3.out.1) H1.out.2.1) (And.intro (bup hb4 H3.out.2.1) (And.intro (H3.out.2.2.1.below hb4) (And.intro hMt (H3.out.1.trans (hb4.mono H3.out.1.size)))))
  clear hb4 x0 x1 x2 x3 hG4 hMt hm'
  obtain ⟨x0, x1, x2, x3⟩ := four_cellsB H4.out.2.1
  have hCs : Calls Tryz.prog 29 #[.agg #[.int .i64 m, .int .i64 kk, .int .i64 s, .slice ao L cap], .slice au m cu] w4 fun r w' => r = .returned (.bool true) ∧ Below w4.heap.size w4 w' := by
    have h1 := pClasses m kk s (.slice ao L cap) (.slice au m cu) _ w4 H4.out.2.2.1 (by simp [natI, H3.out.2.2.2.2.2]; omega) (by rw [H3.out.2.2.2.2.1]; exact rnd_i649 m (by omega) _ R)
    rw [H3.out.2.2.2.2.1, rnd_classes9] at h1
    exact h1
  have HCs : Hid _ := hCs
  clear hCs
  go_wp2_with fail
  refine Calls.mono HCs.out ?_
  rintro r w6 ⟨rfl, hb6⟩
  have H6 : Hid _ := hb6
  clear hb6 x0 x1 x2 x3
  obtain ⟨x0, x1, x2, x3⟩ := four_cellsB (bup H6.out H4.out.2.1)
  go_wp2_with fail
  go_loopg [7] m (fun q9 iv wr => ∃ p : Nat, q9 = m - p ∧ p ≤ m ∧ iv = .int .i64 p ∧ Below w4.heap.size w4 wr)
  case atStart => exact ⟨0, rfl, Nat.zero_le _, rfl, H6.out⟩
  case round =>
    obtain ⟨p, rfl, hp, rfl, hbp⟩ := hrel
    obtain ⟨w9, rfl⟩ : ∃ w9, w9 = wr := ⟨_, rfl⟩
    have s0 : w9.cell? ⟨w.heap.size, 0, none⟩ = some (.int .i64 m) := (four_cellsB (bup hbp H4.out.2.1)).1
    by_cases hpm : p < m
    · have r0 : (p : Int) < (m : Int) := by omega
      have r1 : (0 : Int) ≤ (p : Int) := by omega
      have HP : Hid _ := hbp
      clear hbp x0 x1 x2 x3
      go_wp2_with fail
      go_loopg [8] m (fun q9 iv wr => ∃ q : Nat, q9 = m - q ∧ q ≤ m ∧ iv = .int .i64 q ∧ Below w4.heap.size w4 wr)
      case atStart => exact ⟨0, rfl, Nat.zero_le _, rfl, HP.out⟩
      case round =>
        obtain ⟨q, rfl, hqp, rfl, hbq⟩ := hrel
        obtain ⟨w5, rfl⟩ : ∃ w5, w5 = wr := ⟨_, rfl⟩
        have s1 : w5.cell? ⟨w.heap.size, 0, none⟩ = some (.int .i64 m) := (four_cellsB (bup hbq H4.out.2.1)).1
        by_cases hql : q < m
        · have hql2 : q < m := by omega
          have t0 : (0 : Int) ≤ (q : Int) := by omega
          have t1 : (q : Int) < (m : Int) := by omega
          have t2 : (q : Int) < (m : Int) := by omega
          obtain ⟨cp, hcp⟩ : ∃ cp, c[p]? = some cp := ⟨_, List.getElem?_eq_getElem (by have := H3.out.2.2.2.2.2; omega)⟩
          obtain ⟨cq, hcq⟩ : ∃ cq, c[q]? = some cq := ⟨_, List.getElem?_eq_getElem (by have := H3.out.2.2.2.2.2; omega)⟩
          have hvk := H4.out.2.2.1.below hbq
          obtain ⟨a7, rfl, e1⟩ := hasI_at hvk (i := p) (z := (cp : Int)) (by simp [natI, hcp])
          obtain ⟨a8, ha8, e2⟩ := hasI_at hvk (i := q) (z := (cq : Int)) (by simp [natI, hcq])
          obtain rfl := Option.some.inj ha8
          clear hvk ha8
          have hM1 := fun W (hb : Below w5.heap.size w5 W) => H4.out.2.2.2.1 W (bel9 hb hbq) p q
          have hM2 := fun W (hb : Below w5.heap.size w5 W) => H4.out.2.2.2.1 W (bel9 hb hbq) q p
          have hfp := H1.out.2.2.2.2.2.2.2 (p : Int)
          have hfq := H1.out.2.2.2.2.2.2.2 (q : Int)
          have hrl := fun (h1 : cp = cq) => (by
            rw [H3.out.2.2.2.2.1] at hcp hcq ⊢
            rw [← h1] at hcq
            exact Sg.relates_pure (n := m) (R := R) (out := fun i => Sy.rowOf m (Sy.nf es) (i : Int)) (p := p) (q := q) (by omega) H3.out.2.2.2.1 hcp hcq : metB c (Sy.rowOf m (Sy.nf es) (p : Int)) (Sy.rowOf m (Sy.nf es) (q : Int)) = true)
          have HQ : Hid _ := hbq
          by_cases hce : cp = cq
          · have n1 : ((cp : Int) == (cq : Int)) = true := by rw [hce]; simp
            rw [hrl hce] at hM1
            have HM : Hid _ := hM1
            clear hce hrl hM1 hM2 hfp hfq hcp hcq hbq
            go_upto_region 15 with fail
            refine wp_region_held_drew (S := (fun w' => (w'.cell? (a7.add p) = some (.int .i64 cp) ∧ w'.cell? (a7.add q) = some (.int .i64 cq)) ∧ Hid (Below w5.heap.size w5 w'))) (by kernel_rfl) ?_ (fun hHeld => ?_)
            · exact ⟨⟨e1, e2⟩, ((Below.refl _ _).drew : Below w5.heap.size w5 w5.drew)⟩
            refine wpAnyH_take (i := 0) (oi := _) (v := ?_) rfl (by kernel_rfl) (by kernel_rfl) (by kernel_rfl) (fun _ _ _ h => h) (Or.inl ⟨by rfl, ?_⟩) (by assumption) ?_; rotate_left; (focus (intro w hSw; (try dsimp only at hSw); go_simp; (try with_reducible rfl))); (try simp only [List.getElem_toArray, List.getElem_cons_succ, List.getElem_cons_zero, Act.put, List.setIfInBounds_toArray, List.set_cons_zero, List.set_cons_succ])
            refine wpAnyH_take (i := 1) (oi := _) (v := ?_) rfl (by kernel_rfl) (by kernel_rfl) (by kernel_rfl) (fun _ _ _ h => h) (Or.inl ⟨by rfl, ?_⟩) (by assumption) ?_; rotate_left; (focus (intro w hSw; (try dsimp only at hSw); go_simp; (try with_reducible rfl))); (try simp only [List.getElem_toArray, List.getElem_cons_succ, List.getElem_cons_zero, Act.put, List.setIfInBounds_toArray, List.set_cons_zero, List.set_cons_succ])
            refine wpAnyH_take (i := 2) (oi := _) (v := ?_) rfl (by kernel_rfl) (by kernel_rfl) (by kernel_rfl) (fun _ _ _ h => h) (Or.inl ⟨by rfl, ?_⟩) (by assumption) ?_; rotate_left; (focus (intro w hSw; (try dsimp only at hSw); go_simp; (try with_reducible rfl))); (try simp only [List.getElem_toArray, List.getElem_cons_succ, List.getElem_cons_zero, Act.put, List.setIfInBounds_toArray, List.set_cons_zero, List.set_cons_succ])
            refine wpAnyH_take (i := 3) (oi := _) (v := ?_) rfl (by kernel_rfl) (by kernel_rfl) (by kernel_rfl) (fun _ _ _ h => h) (Or.inl ⟨by rfl, ?_⟩) (by assumption) ?_; rotate_left; (focus (intro w hSw; (try dsimp only at hSw); go_simp; (try with_reducible rfl))); (try simp only [List.getElem_toArray, List.getElem_cons_succ, List.getElem_cons_zero, Act.put, List.setIfInBounds_toArray, List.set_cons_zero, List.set_cons_succ])
            refine wpAnyH_take (i := 4) (oi := _) (v := ?_) rfl (by kernel_rfl) (by kernel_rfl) (by kernel_rfl) (fun _ _ _ h => h) (Or.inl ⟨by rfl, ?_⟩) (by assumption) ?_; rotate_left; (focus (intro w hSw; (try dsimp only at hSw); go_simp; (try with_reducible rfl))); (try simp only [List.getElem_toArray, List.getElem_cons_succ, List.getElem_cons_zero, Act.put, List.setIfInBounds_toArray, List.set_cons_zero, List.set_cons_succ])
            refine wpAnyH_take (i := 5) (oi := _) (v := ?_) rfl (by kernel_rfl) (by kernel_rfl) (by kernel_rfl) (fun _ _ _ h => h) (Or.inl ⟨by rfl, ?_⟩) (by assumption) ?_; rotate_left; (focus (intro w hSw; (try dsimp only at hSw); go_simp; (try with_reducible rfl))); (try simp only [List.getElem_toArray, List.getElem_cons_succ, List.getElem_cons_zero, Act.put, List.setIfInBounds_toArray, List.set_cons_zero, List.set_cons_succ])
            refine wpAnyH_take (i := 6) (oi := _) (v := ?_) rfl (by kernel_rfl) (by kernel_rfl) (by kernel_rfl) (fun _ _ _ h => h) (Or.inl ⟨by rfl, ?_⟩) (by assumption) ?_; rotate_left; (focus (intro w hSw; (try dsimp only at hSw); go_simp; (try with_reducible rfl))); (try simp only [List.getElem_toArray, List.getElem_cons_succ, List.getElem_cons_zero, Act.put, List.setIfInBounds_toArray, List.set_cons_zero, List.set_cons_succ])
            refine wpAnyH_take (i := 7) (oi := _) (v := ?_) rfl (by kernel_rfl) (by kernel_rfl) (by kernel_rfl) (fun _ _ _ h => h) (Or.inl ⟨by rfl, ?_⟩) (by assumption) ?_; rotate_left; (focus (intro w hSw; (try dsimp only at hSw); go_simp; (try with_reducible rfl))); (try simp only [List.getElem_toArray, List.getElem_cons_succ, List.getElem_cons_zero, Act.put, List.setIfInBounds_toArray, List.set_cons_zero, List.set_cons_succ])
            refine wpAnyH_take (i := 8) (oi := _) (v := ?_) rfl (by kernel_rfl) (by kernel_rfl) (by kernel_rfl) (fun _ _ _ h => h) (Or.inl ⟨by rfl, ?_⟩) (by assumption) ?_; rotate_left; (focus (intro w hSw; (try dsimp only at hSw); go_simp; (try with_reducible rfl))); (try simp only [List.getElem_toArray, List.getElem_cons_succ, List.getElem_cons_zero, Act.put, List.setIfInBounds_toArray, List.set_cons_zero, List.set_cons_succ])
            refine wpAnyH_take (i := 9) (oi := _) (v := ?_) rfl (by kernel_rfl) (by kernel_rfl) (by kernel_rfl) (fun _ _ _ h => h) (Or.inl ⟨by rfl, ?_⟩) (by assumption) ?_; rotate_left; (focus (intro w hSw; (try dsimp only at hSw); go_simp; (try with_reducible rfl))); (try simp only [List.getElem_toArray, List.getElem_cons_succ, List.getElem_cons_zero, Act.put, List.setIfInBounds_toArray, List.set_cons_zero, List.set_cons_succ])
            refine wpAnyH_take (i := 10) (oi := _) (v := ?_) rfl (by kernel_rfl) (by kernel_rfl) (by kernel_rfl) (fun _ _ _ h => h) (Or.inl ⟨by rfl, ?_⟩) (by assumption) ?_; rotate_left; (focus (intro w hSw; (try dsimp only at hSw); go_simp; (try with_reducible rfl))); (try simp only [List.getElem_toArray, List.getElem_cons_succ, List.getElem_cons_zero, Act.put, List.setIfInBounds_toArray, List.set_cons_zero, List.set_cons_succ])
            refine wpAnyH_take (i := 11) (oi := _) (v := ?_) rfl (by kernel_rfl) (by kernel_rfl) (by kernel_rfl) (fun _ _ _ h => h) (Or.inl ⟨by rfl, ?_⟩) (by assumption) ?_; rotate_left; (focus (intro w hSw; (try dsimp only at hSw); go_simp; (try with_reducible rfl))); (try simp only [List.getElem_toArray, List.getElem_cons_succ, List.getElem_cons_zero, Act.put, List.setIfInBounds_toArray, List.set_cons_zero, List.set_cons_succ])
            refine wpAnyH_take (i := 12) (oi := _) (v := ?_) rfl (by kernel_rfl) (by kernel_rfl) (by kernel_rfl) (fun _ _ _ h => h) (Or.inl ⟨by rfl, ?_⟩) (by assumption) ?_; rotate_left; (focus (intro w hSw; (try dsimp only at hSw); go_simp; (try with_reducible rfl))); (try simp only [List.getElem_toArray, List.getElem_cons_succ, List.getElem_cons_zero, Act.put, List.setIfInBounds_toArray, List.set_cons_zero, List.set_cons_succ])
            refine wpAnyH_take (i := 13) (oi := _) (v := ?_) rfl (by kernel_rfl) (by kernel_rfl) (by kernel_rfl) (fun _ _ _ h => h) (Or.inl ⟨by rfl, ?_⟩) (by assumption) ?_; rotate_left; (focus (intro w hSw; (try dsimp only at hSw); go_simp; (try with_reducible rfl))); (try simp only [List.getElem_toArray, List.getElem_cons_succ, List.getElem_cons_zero, Act.put, List.setIfInBounds_toArray, List.set_cons_zero, List.set_cons_succ])
            refine wpAnyH_ready (rs := [14]) (by kernel_rfl) (by simp) ?_
            refine AllReadyH.cons (o := _) rfl (fun K hK => ?_) ?_
            · (go_simp; go_at_call 30; refine Calls.mono (HM.out _ hHeld.2.out) ?_; rintro r w6 ⟨rfl, hw6⟩)
              (try go_wp2_with fail)
              refine hK.out _ _ ?_ (fun hHeld => ?_)
              · exact ⟨⟨cell_upA hHeld.1.1 hw6, cell_upA hHeld.1.2 hw6⟩, bel9 hw6 hHeld.2.out⟩
              clear hK K
              (try simp only [List.getElem_toArray, List.getElem_cons_succ, List.getElem_cons_zero, Act.put, List.setIfInBounds_toArray, List.set_cons_zero, List.set_cons_succ])
              clear hw6
              refine wpAnyH_take (i := 15) (oi := _) (v := ?_) rfl (by kernel_rfl) (by kernel_rfl) (by kernel_rfl) (fun _ _ _ h => h) (Or.inl ⟨by rfl, ?_⟩) (by assumption) ?_; rotate_left; (focus (intro w hSw; (try dsimp only at hSw); go_simp; (try with_reducible rfl))); (try simp only [List.getElem_toArray, List.getElem_cons_succ, List.getElem_cons_zero, Act.put, List.setIfInBounds_toArray, List.set_cons_zero, List.set_cons_succ])
              refine wpAnyH_take (i := 16) (oi := _) (v := ?_) rfl (by kernel_rfl) (by kernel_rfl) (by kernel_rfl) (fun _ _ _ h => h) (Or.inl ⟨by rfl, ?_⟩) (by assumption) ?_; rotate_left; (focus (intro w hSw; (try dsimp only at hSw); go_simp; (try with_reducible rfl))); (try simp only [List.getElem_toArray, List.getElem_cons_succ, List.getElem_cons_zero, Act.put, List.setIfInBounds_toArray, List.set_cons_zero, List.set_cons_succ])
              refine wpAnyH_done (by kernel_rfl) ?_ _
              (try go_simp)
              have H9 : Hid _ := hHeld.2.out
              clear hHeld
              go_wp2_with fail
              go_roundg (m - (q + 1))
              case measure => omega
              case rel => exact ⟨q + 1, rfl, by omega, by go_num, bel9 H9.out HQ.out⟩
            exact AllReadyH.nil
          · have n1 : ((cp : Int) == (cq : Int)) = false := by simp; omega
            clear hce hrl hM1 hM2 hfp hfq hcp hcq hbq
            go_upto_region 15 with fail
            refine wp_region_held_drew (S := (fun w' => (w'.cell? (a7.add p) = some (.int .i64 cp) ∧ w'.cell? (a7.add q) = some (.int .i64 cq)) ∧ Hid (Below w5.heap.size w5 w'))) (by kernel_rfl) ?_ (fun hHeld => ?_)
            · exact ⟨⟨e1, e2⟩, ((Below.refl _ _).drew : Below w5.heap.size w5 w5.drew)⟩
            refine wpAnyH_take (i := 0) (oi := _) (v := ?_) rfl (by kernel_rfl) (by kernel_rfl) (by kernel_rfl) (fun _ _ _ h => h) (Or.inl ⟨by rfl, ?_⟩) (by assumption) ?_; rotate_left; (focus (intro w hSw; (try dsimp only at hSw); go_simp; (try with_reducible rfl))); (try simp only [List.getElem_toArray, List.getElem_cons_succ, List.getElem_cons_zero, Act.put, List.setIfInBounds_toArray, List.set_cons_zero, List.set_cons_succ])
            refine wpAnyH_take (i := 1) (oi := _) (v := ?_) rfl (by kernel_rfl) (by kernel_rfl) (by kernel_rfl) (fun _ _ _ h => h) (Or.inl ⟨by rfl, ?_⟩) (by assumption) ?_; rotate_left; (focus (intro w hSw; (try dsimp only at hSw); go_simp; (try with_reducible rfl))); (try simp only [List.getElem_toArray, List.getElem_cons_succ, List.getElem_cons_zero, Act.put, List.setIfInBounds_toArray, List.set_cons_zero, List.set_cons_succ])
            refine wpAnyH_take (i := 2) (oi := _) (v := ?_) rfl (by kernel_rfl) (by kernel_rfl) (by kernel_rfl) (fun _ _ _ h => h) (Or.inl ⟨by rfl, ?_⟩) (by assumption) ?_; rotate_left; (focus (intro w hSw; (try dsimp only at hSw); go_simp; (try with_reducible rfl))); (try simp only [List.getElem_toArray, List.getElem_cons_succ, List.getElem_cons_zero, Act.put, List.setIfInBounds_toArray, List.set_cons_zero, List.set_cons_succ])
            refine wpAnyH_take (i := 3) (oi := _) (v := ?_) rfl (by kernel_rfl) (by kernel_rfl) (by kernel_rfl) (fun _ _ _ h => h) (Or.inl ⟨by rfl, ?_⟩) (by assumption) ?_; rotate_left; (focus (intro w hSw; (try dsimp only at hSw); go_simp; (try with_reducible rfl))); (try simp only [List.getElem_toArray, List.getElem_cons_succ, List.getElem_cons_zero, Act.put, List.setIfInBounds_toArray, List.set_cons_zero, List.set_cons_succ])
            refine wpAnyH_take (i := 4) (oi := _) (v := ?_) rfl (by kernel_rfl) (by kernel_rfl) (by kernel_rfl) (fun _ _ _ h => h) (Or.inl ⟨by rfl, ?_⟩) (by assumption) ?_; rotate_left; (focus (intro w hSw; (try dsimp only at hSw); go_simp; (try with_reducible rfl))); (try simp only [List.getElem_toArray, List.getElem_cons_succ, List.getElem_cons_zero, Act.put, List.setIfInBounds_toArray, List.set_cons_zero, List.set_cons_succ])
            refine wpAnyH_take (i := 5) (oi := _) (v := ?_) rfl (by kernel_rfl) (by kernel_rfl) (by kernel_rfl) (fun _ _ _ h => h) (Or.inl ⟨by rfl, ?_⟩) (by assumption) ?_; rotate_left; (focus (intro w hSw; (try dsimp only at hSw); go_simp; (try with_reducible rfl))); (try simp only [List.getElem_toArray, List.getElem_cons_succ, List.getElem_cons_zero, Act.put, List.setIfInBounds_toArray, List.set_cons_zero, List.set_cons_succ])
            refine wpAnyH_take (i := 6) (oi := _) (v := ?_) rfl (by kernel_rfl) (by kernel_rfl) (by kernel_rfl) (fun _ _ _ h => h) (Or.inl ⟨by rfl, ?_⟩) (by assumption) ?_; rotate_left; (focus (intro w hSw; (try dsimp only at hSw); go_simp; (try with_reducible rfl))); (try simp only [List.getElem_toArray, List.getElem_cons_succ, List.getElem_cons_zero, Act.put, List.setIfInBounds_toArray, List.set_cons_zero, List.set_cons_succ])
            refine wpAnyH_take (i := 7) (oi := _) (v := ?_) rfl (by kernel_rfl) (by kernel_rfl) (by kernel_rfl) (fun _ _ _ h => h) (Or.inl ⟨by rfl, ?_⟩) (by assumption) ?_; rotate_left; (focus (intro w hSw; (try dsimp only at hSw); go_simp; (try with_reducible rfl))); (try simp only [List.getElem_toArray, List.getElem_cons_succ, List.getElem_cons_zero, Act.put, List.setIfInBounds_toArray, List.set_cons_zero, List.set_cons_succ])
            refine wpAnyH_take (i := 8) (oi := _) (v := ?_) rfl (by kernel_rfl) (by kernel_rfl) (by kernel_rfl) (fun _ _ _ h => h) (Or.inl ⟨by rfl, ?_⟩) (by assumption) ?_; rotate_left; (focus (intro w hSw; (try dsimp only at hSw); go_simp; (try with_reducible rfl))); (try simp only [List.getElem_toArray, List.getElem_cons_succ, List.getElem_cons_zero, Act.put, List.setIfInBounds_toArray, List.set_cons_zero, List.set_cons_succ])
            refine wpAnyH_take (i := 9) (oi := _) (v := ?_) rfl (by kernel_rfl) (by kernel_rfl) (by kernel_rfl) (fun _ _ _ h => h) (Or.inl ⟨by rfl, ?_⟩) (by assumption) ?_; rotate_left; (focus (intro w hSw; (try dsimp only at hSw); go_simp; (try with_reducible rfl))); (try simp only [List.getElem_toArray, List.getElem_cons_succ, List.getElem_cons_zero, Act.put, List.setIfInBounds_toArray, List.set_cons_zero, List.set_cons_succ])
            refine wpAnyH_take (i := 10) (oi := _) (v := undef) rfl (by kernel_rfl) (by kernel_rfl) (by kernel_rfl) (fun _ _ _ h => h) (Or.inr ⟨by rfl, rfl⟩) (by assumption) ?_
            (try simp only [List.getElem_toArray, List.getElem_cons_succ, List.getElem_cons_zero, Act.put, List.setIfInBounds_toArray, List.set_cons_zero, List.set_cons_succ])
            refine wpAnyH_take (i := 11) (oi := _) (v := undef) rfl (by kernel_rfl) (by kernel_rfl) (by kernel_rfl) (fun _ _ _ h => h) (Or.inr ⟨by rfl, rfl⟩) (by assumption) ?_
            (try simp only [List.getElem_toArray, List.getElem_cons_succ, List.getElem_cons_zero, Act.put, List.setIfInBounds_toArray, List.set_cons_zero, List.set_cons_succ])
            refine wpAnyH_take (i := 12) (oi := _) (v := undef) rfl (by kernel_rfl) (by kernel_rfl) (by kernel_rfl) (fun _ _ _ h => h) (Or.inr ⟨by rfl, rfl⟩) (by assumption) ?_
            (try simp only [List.getElem_toArray, List.getElem_cons_succ, List.getElem_cons_zero, Act.put, List.setIfInBounds_toArray, List.set_cons_zero, List.set_cons_succ])
            refine wpAnyH_take (i := 13) (oi := _) (v := undef) rfl (by kernel_rfl) (by kernel_rfl) (by kernel_rfl) (fun _ _ _ h => h) (Or.inr ⟨by rfl, rfl⟩) (by assumption) ?_
            (try simp only [List.getElem_toArray, List.getElem_cons_succ, List.getElem_cons_zero, Act.put, List.setIfInBounds_toArray, List.set_cons_zero, List.set_cons_succ])
            refine wpAnyH_take (i := 14) (oi := _) (v := undef) rfl (by kernel_rfl) (by kernel_rfl) (by kernel_rfl) (fun _ _ _ h => h) (Or.inr ⟨by rfl, rfl⟩) (by assumption) ?_
            (try simp only [List.getElem_toArray, List.getElem_cons_succ, List.getElem_cons_zero, Act.put, List.setIfInBounds_toArray, List.set_cons_zero, List.set_cons_succ])
            refine wpAnyH_take (i := 15) (oi := _) (v := undef) rfl (by kernel_rfl) (by kernel_rfl) (by kernel_rfl) (fun _ _ _ h => h) (Or.inr ⟨by rfl, rfl⟩) (by assumption) ?_
            (try simp only [List.getElem_toArray, List.getElem_cons_succ, List.getElem_cons_zero, Act.put, List.setIfInBounds_toArray, List.set_cons_zero, List.set_cons_succ])
            refine wpAnyH_take (i := 16) (oi := _) (v := ?_) rfl (by kernel_rfl) (by kernel_rfl) (by kernel_rfl) (fun _ _ _ h => h) (Or.inl ⟨by rfl, ?_⟩) (by assumption) ?_; rotate_left; (focus (intro w hSw; (try dsimp only at hSw); go_simp; (try with_reducible rfl))); (try simp only [List.getElem_toArray, List.getElem_cons_succ, List.getElem_cons_zero, Act.put, List.setIfInBounds_toArray, List.set_cons_zero, List.set_cons_succ])
            refine wpAnyH_done (by kernel_rfl) ?_ _
            (try go_simp)
            have H9 : Hid _ := hHeld.2.out
            clear hHeld
            go_wp2_with fail
            go_roundg (m - (q + 1))
            case measure => omega
            case rel => exact ⟨q + 1, rfl, by omega, by go_num, bel9 H9.out HQ.out⟩
        · obtain rfl : q = m := by omega
          have t1 : ¬ (q : Int) < (q : Int) := by omega
          have HQ : Hid _ := hbq
          clear hbq
          go_wp2_with fail
          go_roundg (q - (p + 1))
          case measure => omega
          case rel => exact ⟨p + 1, rfl, by omega, by go_num, HQ.out⟩
    · obtain rfl : p = m := by omega
      have r0 : ¬ (p : Int) < (p : Int) := by omega
      have HP : Hid _ := bel9 hbp H4.out.1
      clear hbp x0 x1 x2 x3
      go_wp2_with fail
      refine Calls.mono (H1.out.2.2.2.2.2.2.1 _ HP.out) ?_
      rintro r w8 ⟨rfl, hb8⟩
      have H8 : Hid _ := bel9 hb8 HP.out
      clear hb8
      go_wp2_with fail
      go_ret
      exact ⟨rfl, H8.out⟩
theorem lawRelates_any (hS : SortOk 1000000) (n k s : Int) (v : Value) (es : List Sy.Ed) (aS aC a1 a3 : Addr) (w : World) (hE : EnvS w aS aC a1 a3) (hv : HasE w v es) :
    Calls Tryz.prog 7 #[sysV n k s v] w fun r w' => r = .returned (.bool true) ∧ Below w.heap.size w w' := by
  have hA := pAl9 hS aS aC a1 a3 w hE
  by_cases h1 : 80 < n ∨ 600 < es.length
  · exact lawRelates_out n k s v es w hA hv h1
  · cases hq : Sy.right n k s es with
    | false => exact lawRelates_bad hS n k s v es aS aC a1 a3 w hA hE hv (by omega) (by omega) hq
    | true =>
      have hp := right_parts hq
      obtain ⟨m, rfl⟩ : ∃ m : Nat, n = (m : Int) := ⟨n.toNat, by omega⟩
      obtain ⟨kk, rfl⟩ : ∃ m : Nat, k = (m : Int) := ⟨k.toNat, by omega⟩
      exact lawRelates_ok hS m kk s v es aS aC a1 a3 w hA hE hv (by omega) (by omega) hq
end Go.Proofs.YtkiapldehlnndaaGreatDoor
/- What the listed package variables give: api's errors lie in memory, each at an address of its own, whichever are listed. (Written by mker.py.) -/
namespace Go.Proofs.YtkiapldehlnndaaGreatDoor
open Go.ChangeShapes Go.WideShapes Go.ChangeAt Go.WideMaps Go.WideElems Go.RowKit
theorem Tryz.own : ownKnob Tryz.prog.godebug = none := by kernel_rfl
theorem Tryz.laidOut : laidOutB Tryz.prog = true := by kernel_rfl
theorem Tryz.cellsE : Tryz.prog.cellsOf 307 = 1 := by kernel_rfl
theorem Tryz.cellsS : Tryz.prog.cellsOf 9 = 1 := by kernel_rfl
set_option maxRecDepth 100000 in
theorem Tryz.star : "*" ++ "errors.errorString" = "*errors.errorString" := by decide
set_option maxRecDepth 100000 in
theorem Tryz.rowE (u : TypeId) (h : Tryz.prog.typeName? 3 u = some "*errors.errorString") : u = 287 :=
  typeName_ptr_named (nm := "errors.errorString") (by rw [Tryz.star]; kernel_rfl) (by kernel_rfl) (by decide) u (by rw [Tryz.star]; exact h)
set_option maxRecDepth 100000 in
theorem laid_step {W : World} {n : String} {g : Nat} {text : List UInt8} {r : List (String × DataW Unit)} {ps : List MemPlace} (hg : Tryz.prog.globalNamed n = some g) (ht : (Tryz.prog.globals[g]?).map (·.type) = some 30)
    (h : DataW.LaidVars Tryz.prog W ((n, .iface "*errors.errorString" (.ptr (.agg [.lit (.string text)]))) :: r) ps)
    (hrows : ∀ b off, MemPlace.cell b off ∈ ps → (∃ c t, W.heap[b]? = some (.cells c t (0, 0))) ∧ ∀ u v, W.cell? ⟨b, off, none⟩ = some (.iface u v) → Value.okWide Tryz.prog W .any 0 u v) :
    ∃ a q, Sent W g a ∧ DataW.LaidVars Tryz.prog W r q ∧ ps = MemPlace.cell g 0 :: MemPlace.cell a.block a.off :: q := by
  obtain ⟨g0, t0, cs0, f0, p0, q0, hg0, ht0, hv0, hd0, hr, e0⟩ := h
  obtain rfl := Option.some.inj (hg.symm.trans hg0)
  obtain rfl := Option.some.inj (ht.symm.trans ht0)
  subst e0
  obtain ⟨l0⟩ := cs0
  have ok0 : ∀ u v, l0 = [.iface u v] → Value.okWide Tryz.prog W .any 0 u v := fun u v e => by
    subst e
    exact (hrows g 0 (by simp [MemPlace.row])).2 u v (by simpa using World.var?_cell hg0 hv0 0)
  obtain ⟨a0, s0, rfl, hc0, hs0, hz0, rfl⟩ := errorString_of_trod Tryz.underlying30 Tryz.rowE Tryz.underlying287 Tryz.underlying307 rfl rfl Tryz.underlying9 Tryz.cellsE Tryz.cellsS hd0 ok0
  refine ⟨a0, q0, ⟨by simpa using World.var?_cell hg0 hv0 0, (hrows a0.block a0.off (by simp [MemPlace.row])).1⟩, hr, ?_⟩
  simp [MemPlace.row]
abbrev LE : Type := String × Nat × List UInt8
def leV (x : LE) : String × DataW Unit := (x.1, .iface "*errors.errorString" (.ptr (.agg [.lit (.string x.2.2)])))
theorem laid_list {W : World} {r : List (String × DataW Unit)} : ∀ (xs : List LE) (ps : List MemPlace), (∀ x ∈ xs, Tryz.prog.globalNamed x.1 = some x.2.1 ∧ (Tryz.prog.globals[x.2.1]?).map (·.type) = some 30) →
    DataW.LaidVars Tryz.prog W (xs.map leV ++ r) ps → (∀ b off, MemPlace.cell b off ∈ ps → (∃ c t, W.heap[b]? = some (.cells c t (0, 0))) ∧ ∀ u v, W.cell? ⟨b, off, none⟩ = some (.iface u v) → Value.okWide Tryz.prog W .any 0 u v) →
    ∃ ads : List Addr, ads.length = xs.length ∧ (∀ (i : Nat) (x : LE) (a : Addr), xs[i]? = some x → ads[i]? = some a → Sent W x.2.1 a) ∧ (∀ a ∈ ads, MemPlace.cell a.block a.off ∈ ps) ∧ (ps.Nodup → ads.Pairwise (· ≠ ·))
  | [], ps, _, _, _ => ⟨[], rfl, fun i x a h => by simp at h, fun a h => by simp at h, fun _ => List.Pairwise.nil⟩
  | x :: xs, ps, hx, h, hr => by
    obtain ⟨a, q, hs, hq, rfl⟩ := laid_step (hx x List.mem_cons_self).1 (hx x List.mem_cons_self).2 h hr
    obtain ⟨ads, h1, h2, h3, h4⟩ := laid_list xs q (fun y hy => hx y (List.mem_cons_of_mem _ hy)) hq (fun b off hb => hr b off (List.mem_cons_of_mem _ (List.mem_cons_of_mem _ hb)))
    refine ⟨a :: ads, by simp [h1], fun i y b hy hb => ?_, fun b hb => ?_, fun hn => ?_⟩
    · cases i with
      | zero => simp at hy hb; subst hy; subst hb; exact hs
      | succ i => exact h2 i y b (by simpa using hy) (by simpa using hb)
    · rcases List.mem_cons.1 hb with rfl | hb
      · exact List.mem_cons_of_mem _ List.mem_cons_self
      · exact List.mem_cons_of_mem _ (List.mem_cons_of_mem _ (h3 b hb))
    · have hn2 := (List.nodup_cons.1 hn).2
      have hn3 := List.nodup_cons.1 hn2
      exact List.Pairwise.cons (fun b hb e => hn3.1 (by rw [e]; exact h3 b hb)) (h4 hn3.2)
end Go.Proofs.YtkiapldehlnndaaGreatDoor
