/- Texts of this claim, joined: SyTen, SyEdg, SyPl1, SyReach, SyCut0, SyCup0, SyCut1, SyRep. -/
import Derived.Test.YtgnfommndoodmaaGreatDoorPart8
import Derived.Test.YtgnfommndoodmaaGreatDoorPart9
import Derived.DataElems
import Derived.Maps.AppendAt
import Derived.Test.YtgnfommndoodmaaGreatDoorPart5
import Derived.Test.YtgnfommndoodmaaGreatDoorPart6
import Derived.Laws.IdiomCopy
import Derived.Deep.LoopGhost
import Derived.WalkSmall
import Derived.Deep.DrawnRows
/- Contracts of the program's table.ends, By and From. -/
namespace Go.Proofs.YtgnfommndoodmaaGreatDoor
open Go.RowKit Go.Maps
attribute [local go_sem ↓] Go.wp_at_zero Go.wp_at_succ
theorem Sy.str_pair {l : List Sy.Ed} (h : Sy.Str l) : l.Pairwise fun a b => Sy.lt a b = true := by
  induction l with
  | nil => exact .nil
  | cons a r ih => exact List.pairwise_cons.2 ⟨h.head, ih h.tail⟩
/-- The rest of a list of steps. -/
theorem hasS_drop {w : World} {av : Option Addr} {M cv : Nat} {zs : List BSteps.El} (h : BSteps.Has w (.slice av M cv) zs) (f c : Nat) (hM : M = zs.length) : BSteps.Has w (.slice (Option.map (fun x => x.add (f * 2)) av) (M - f) c) (zs.drop f) := by
  obtain ⟨ao, cap, he, hc⟩ := h
  injection he with e1 e2 e3
  subst e1
  refine ⟨_, c, by rw [List.length_drop, hM], fun j u hj => ?_⟩
  have hl : j < (zs.drop f).length * 2 := by have := (List.getElem?_eq_some_iff.1 hj).1; rw [BSteps.C_len] at this; exact this
  obtain ⟨z, hz⟩ : ∃ z, (zs.drop f)[j / 2]? = some z := ⟨_, List.getElem?_eq_getElem (by omega)⟩
  have h1 := BSteps.C_at _ (j / 2) z hz (j % 2) (Nat.mod_lt _ (by decide))
  rw [show j / 2 * 2 + j % 2 = j by omega, hj] at h1
  rw [List.getElem?_drop] at hz
  have h2 := BSteps.C_at _ (f + j / 2) z hz (j % 2) (Nat.mod_lt _ (by decide))
  rw [← h1, show (f + j / 2) * 2 + j % 2 = f * 2 + j by omega] at h2
  obtain ⟨a, rfl, hca⟩ := hc _ _ h2
  exact ⟨_, rfl, by rw [Addr.add_add]; exact hca⟩
/-- In a row the labels rise. -/
theorem Sy.rowOf_rise {l : List Sy.Ed} (h : Sy.Str l) (n : Nat) (i : Int) : (Sy.rowOf n l i).Pairwise fun x y => x.1 ≤ y.1 := by
  unfold Sy.rowOf
  split
  · unfold Sy.steps
    rw [List.pairwise_map]
    refine (((Sy.str_pair h).filter _).imp_of_mem ?_)
    intro a b ha hb hl
    have h1 : a.1 = i := by simpa using (List.mem_filter.1 ha).2
    have h2 : b.1 = i := by simpa using (List.mem_filter.1 hb).2
    rw [Sy.lt_iff] at hl
    show a.2.1 ≤ b.2.1
    omega
  · exact .nil
theorem bel8 {w W w8 : World} (hb : Below W.heap.size W w8) (h : Below w.heap.size w W) : Below w.heap.size w w8 := h.trans (hb.mono h.size)
theorem Sy.ends_nil_of {zs : List BSteps.El} {b : Int} (h : ∀ z ∈ zs, z.1 ≠ b) : Sy.ends zs b = [] := by
  unfold Sy.ends
  rw [List.filter_eq_nil_iff.2 fun z hz => by simpa using h z hz]
  rfl
theorem Sy.ends_append (xs ys : List BSteps.El) (b : Int) : Sy.ends (xs ++ ys) b = Sy.ends xs b ++ Sy.ends ys b := by simp [Sy.ends]
/-- Ahead of the place none, and behind the first other none. -/
theorem Sy.ends_cut {zs : List BSteps.El} {b : Int} {i j : Nat} (hs : zs.Pairwise fun x y => x.1 ≤ y.1) (hB : BinAt zs b i i) (hij : i + j ≤ zs.length) (hj : ∀ z, zs[i + j]? = some z → z.1 ≠ b) : Sy.ends zs b = Sy.ends ((zs.drop i).take j) b := by
  have e1 : zs = zs.take i ++ ((zs.drop i).take j ++ (zs.drop i).drop j) := by rw [List.take_append_drop, List.take_append_drop]
  have h1 : Sy.ends (zs.take i) b = [] := Sy.ends_nil_of fun z hz => by
    obtain ⟨k, hk, rfl⟩ := List.mem_iff_getElem.1 hz
    rw [List.length_take] at hk
    have := hB.lo k (zs[k]'(by omega)) (by omega) (List.getElem?_eq_getElem _)
    rw [List.getElem_take]
    omega
  have h2 : Sy.ends ((zs.drop i).drop j) b = [] := Sy.ends_nil_of fun z hz => by
    obtain ⟨k, hk, rfl⟩ := List.mem_iff_getElem.1 hz
    simp only [List.length_drop] at hk
    have h3 := hj (zs[i + j]'(by omega)) (List.getElem?_eq_getElem _)
    have h4 := hB.hi (i + j) (zs[i + j]'(by omega)) (by omega) (List.getElem?_eq_getElem _)
    simp only [List.getElem_drop]
    by_cases e : k = 0
    · subst e; simpa using h3
    · have := List.pairwise_iff_getElem.1 hs (i + j) (i + (j + k)) (by omega) (by omega) (by omega)
      omega
  conv => lhs; rw [e1]
  rw [Sy.ends_append, Sy.ends_append, h1, h2]
  simp
set_option maxRecDepth 100000 in
set_option maxHeartbeats 8000000 in
theorem tends_any (bs bb m n B : Nat) (l : List Sy.Ed) (i b : Int) (w : World) (hn : n ≤ 100000) (hl : l.length = m) (hm : m ≤ 100000) (hs : Sy.Str l) (hT : Tb w B bs bb n l) :
    Calls Tryz.prog 46 #[tabV bs bb m n, .int .i64 i, .int .i64 b] w fun r w' => ∃ u, r = .returned u ∧ OwnI w' w.heap.size u (Sy.ends (Sy.rowOf n l i) b) ∧ Below w.heap.size w w' := by
  obtain ⟨i0, hi0, hz0, hz1, hz2⟩ := info_parts Tryz.infoI4
  obtain ⟨w1, hw1⟩ : ∃ w1, w1 = w.alloc (.cells #[.slice (some ⟨bs, 0, none⟩) m m, .slice (some ⟨bb, 0, none⟩) (n + 1) (n + 1)] 79) := ⟨_, rfl⟩
  have hb1 : Below w.heap.size w w1 := by rw [hw1]; exact (Below.refl _ _).alloc (Nat.le_refl _) _
  have hg1 : w1.heap[w.heap.size]? = some (.cells #[.slice (some ⟨bs, 0, none⟩) m m, .slice (some ⟨bb, 0, none⟩) (n + 1) (n + 1)] 79 (0, 0)) := by rw [hw1]; exact heap_alloc_new w _
  have hR := row2_any bs bb m n B l i w1 hn hl (str_rows hs) (hT.below hb1)
  obtain ⟨zs, hzs⟩ : ∃ zs, zs = Sy.rowOf n l i := ⟨_, rfl⟩
  have hrise := Sy.rowOf_rise hs n i
  have hzl := rowOf_len n l i
  rw [← hzs] at hR hrise hzl ⊢
  have c0 : w1.cell? ⟨w.heap.size, 0, none⟩ = some (.slice (some ⟨bs, 0, none⟩) m m) := cell0_of hg1 rfl
  have c1 : w1.cell? ⟨w.heap.size, 1, none⟩ = some (.slice (some ⟨bb, 0, none⟩) (n + 1) (n + 1)) := cell0_of hg1 rfl
  unfold tabV at hR ⊢
  have H1 : Hid _ := And.intro hw1 (And.intro hb1 (And.intro hR (And.intro hrise (And.intro (hT.below hb1) hzl))))
  have hzm : zs.length ≤ 100000 := by omega
  have HT0 : Hid _ := hT
  clear hw1 hb1 hg1 hR hT hrise hs hzs hl hzl
  go_enter Tryz.func46, Tryz.ntmps46
  go_upto_region 1 with fail
  rw [← H1.out.1]
  go_wp2_with fail
  refine Calls.mono H1.out.2.2.1 ?_
  rintro r w2 ⟨v, rfl, hv, hcap, hb2⟩
  have hT2 := H1.out.2.2.2.2.1.below hb2
  obtain ⟨av, cv, rfl, _⟩ := hv w2 hT2
  have hBi := bin_any _ zs b w2 (hv w2 hT2) H1.out.2.2.2.1 hzm
  obtain ⟨M, hM⟩ : ∃ M, M = zs.length := ⟨_, rfl⟩
  rw [← hM] at hv hBi hzm hcap ⊢
  have hMc : M ≤ cv := by
    obtain ⟨a', k', c', he, hkc⟩ := hcap
    injection he with e1 e2 e3
    omega
  have H2 : Hid _ := And.intro hBi (And.intro hv (And.intro hT2 (And.intro (bel8 hb2 H1.out.2.1) hM)))
  clear hBi hv hT2 hb2 hM c0 c1 hcap
  go_wp2_with fail
  refine Calls.mono H2.out.1 ?_
  rintro r w3 ⟨f, fb, rfl, hfM, hBA, hb3⟩
  have hf0 : (0 : Int) ≤ (f : Int) := by omega
  have hf1 : (f : Int) ≤ (M : Int) := by omega
  have H3 : Hid _ := And.intro hBA (And.intro (H2.out.2.2.1.below hb3) (bel8 hb3 H2.out.2.2.2.1))
  clear hBA hb3
  by_cases hcf : cv = f
  · obtain rfl : f = M := by omega
    subst hcf
    have z0 : cv - cv = 0 := Nat.sub_self _
    go_wp2_with fail
    go_loopg [10, 26] 0 (fun q uv kv wr => q = 0 ∧ kv = .int .i64 0 ∧ uv = .slice none 0 0 ∧ wr = w3)
    case atStart => exact ⟨rfl, rfl, rfl, rfl⟩
    case round =>
      obtain ⟨rfl, rfl, rfl, rfl⟩ := hrel
      go_wp2_with fail
      go_ret
      refine ⟨_, rfl, ?_, H3.out.2.2⟩
      rw [Sy.ends_cut (j := 0) H1.out.2.2.2.1 H3.out.1 (by have := H2.out.2.2.2.2; omega) (fun z hz => by have := (List.getElem?_eq_some_iff.1 hz).1; have := H2.out.2.2.2.2; omega)]
      exact World.ownsRow_nil _ _ _ _
  · have hD := fun W (hW : Tb W B bs bb n l) => hasS_drop (H2.out.2.1 W hW) f (cv - f) H2.out.2.2.2.2
    go_wp2_with fail
    obtain ⟨R, hR⟩ : ∃ R, R = M - f := ⟨_, rfl⟩
    obtain ⟨a2, ha2⟩ : ∃ a2, a2 = Option.map (fun (x : Addr) => x.add (f * 2)) av := ⟨_, rfl⟩
    obtain ⟨c2, hc2⟩ : ∃ c2, c2 = cv - f := ⟨_, rfl⟩
    rw [← hR, ← ha2, ← hc2] at hD
    rw [← hR, ← ha2, ← hc2]
    have hR2 : f + R = M := by omega
    have H4 : Hid _ := And.intro hD hR2
    clear hD hR ha2 hc2 hR2
    have hRm : R ≤ 100000 := by have := H4.out.2; omega
    go_loopg [10, 26] R (fun q uv kv wr => ∃ j : Nat, q = R - j ∧ j ≤ R ∧ kv = .int .i64 j ∧ OwnI wr w.heap.size uv (Sy.ends ((zs.drop f).take j) b) ∧ Below w.heap.size w wr)
    case atStart => exact ⟨0, rfl, Nat.zero_le _, rfl, World.ownsRow_nil _ _ _ _, H3.out.2.2⟩
    case round =>
      obtain ⟨j, rfl, hj, rfl, hO, hb⟩ := hrel
      obtain ⟨au, cu, hu⟩ := row_shape hO
      obtain ⟨ys, hys⟩ : ∃ ys, ys = Sy.ends ((zs.drop f).take j) b := ⟨_, rfl⟩
      rw [← hys] at hO hu
      obtain ⟨N, hN⟩ : ∃ N, N = ys.length := ⟨_, rfl⟩
      rw [← hN] at hu
      subst hu
      by_cases hlt : j < R
      · obtain ⟨x, hx⟩ : ∃ x, (zs.drop f)[j]? = some x := ⟨(zs.drop f)[j]'(by have := H4.out.2; have := H2.out.2.2.2.2; rw [List.length_drop]; omega), List.getElem?_eq_getElem _⟩
        obtain ⟨a, rfl, d0, d1⟩ := step_at (H4.out.1 wr (HT0.out.below hb)) hx
        have hst := Sy.ends_take hx b
        have hno := fun (hxb : x.1 ≠ b) => Sy.ends_cut (j := j) H1.out.2.2.2.1 H3.out.1 (by have := H2.out.2.2.2.2; have := H4.out.2; omega) (fun z hz => by rw [List.getElem?_drop] at hx; rw [hx] at hz; cases hz; exact hxb)
        obtain ⟨x1, x2⟩ := x
        simp only at d0 d1 hst hno
        obtain ⟨wb, hwb⟩ : ∃ wb, wb = wr.alloc (.cells #[.int .i64 x1, .int .i64 x2] 92) := ⟨_, rfl⟩
        have hbb : Below wr.heap.size wr wb := by rw [hwb]; exact (Below.refl _ _).alloc (Nat.le_refl _) _
        have hgb : wb.heap[wr.heap.size]? = some (.cells #[.int .i64 x1, .int .i64 x2] 92 (0, 0)) := by rw [hwb]; exact heap_alloc_new wr _
        have f0 : wb.cell? ⟨wr.heap.size, 0, none⟩ = some (.int .i64 x1) := cell0_of hgb rfl
        have f1 : wb.cell? ⟨wr.heap.size, 1, none⟩ = some (.int .i64 x2) := cell0_of hgb rfl
        have hOb : OwnI wb w.heap.size (.slice au N cu) ys := trow_at hO fun b hb => hbb.block b (hO.lt b hb).2
        have hOz : wb.ownsRow w.heap.size 3 1 (.slice au N cu) N (iC ys) := by have h1 := hOb; unfold OwnI at h1; rw [← hN] at h1; exact h1
        have hbw : Below w.heap.size w wb := hb.trans (hbb.mono hb.size)
        have hle : w.heap.size ≤ (wb.alloc (.cells #[.int .i64 x2] 3)).heap.size := by have := hbw.size; simp; omega
        have hNl : N ≤ 100000 := by have := Sy.ends_len ((zs.drop f).take j) b; rw [List.length_take, List.length_drop] at this; rw [hN, hys]; omega
        have hml : N + 1 ≤ maxLen := by unfold maxLen; omega
        have hby : (N + 1) * 8 ≤ 140737488355328 := by omega
        have q0 : (0 : Int) ≤ (j : Int) := by omega
        have q1 : (j : Int) < (R : Int) := by omega
        have HZ : Hid _ := And.intro hOz (And.intro hbw (And.intro hwb (And.intro hys (And.intro hst (And.intro hN (And.intro hOb hno))))))
        clear hO hOb hOz hbw hwb hbb hgb hys hst hN hx hb hno
        by_cases hxb : x1 = b
        · have e1 : (x1 != b) = false := by simp [hxb]
          have HX : Hid (x1 = b) := hxb
          clear hxb
          go_upto_region 7 with fail
          rw [← HZ.out.2.2.1]
          go_wp2_with (at_builtin; refine wpList_append_own_at _ rfl _ _ 44 rfl w.heap.size 3 i0 (.int .i64 0) 1 8 Tryz.underlying44 hi0 hz0 hz1 hz2 rfl (by decide) (.slice au N cu) N (iC ys) rfl (HZ.out.1.alloc _) ⟨wb.heap.size, 0, none⟩ 1 1 [.int .i64 x2] rfl rfl (World.news_of_block (cs := #[.int .i64 x2]) (t := 3) (fr := (0, 0)) (heap_alloc_new wb _)) (by simp [Value.oneCell']) hml hby hle ?_; intro v5 w5 hO5 hg5 hnil5 hat5; have H5 : Hid _ := And.intro hO5 hg5; clear hO5 hg5 hnil5 hat5)
          go_roundg (R - (j + 1))
          case measure => omega
          case rel =>
            refine ⟨j + 1, rfl, by omega, by go_num, ?_, ?_⟩
            · rw [HZ.out.2.2.2.2.1, if_pos HX.out, ← HZ.out.2.2.2.1]
              unfold OwnI
              rw [iC_snoc, List.length_append, ← HZ.out.2.2.2.2.2.1]
              exact H5.out.1
            · exact HZ.out.2.1.trans ((grown_alloc H5.out.2).below HZ.out.2.1.size fun b hb => (HZ.out.1.lt b hb).1)
        · have e1 : (x1 != b) = true := by simp [hxb]
          have HX : Hid (x1 ≠ b) := hxb
          clear hxb
          go_upto_region 7 with fail
          rw [← HZ.out.2.2.1]
          go_wp2_with fail
          go_ret
          refine ⟨_, rfl, ?_, HZ.out.2.1⟩
          rw [HZ.out.2.2.2.2.2.2.2 HX.out, ← HZ.out.2.2.2.1]
          exact HZ.out.2.2.2.2.2.2.1
      · obtain rfl : j = R := by omega
        have q1 : ¬ (j : Int) < (j : Int) := by omega
        have HO : Hid _ := And.intro hO (And.intro hb hys)
        clear hO hb hys hN
        go_wp2_with fail
        go_ret
        refine ⟨_, rfl, ?_, HO.out.2.1⟩
        rw [Sy.ends_cut (j := j) H1.out.2.2.2.1 H3.out.1 (by have := H2.out.2.2.2.2; have := H4.out.2; omega) (fun z hz => by have := (List.getElem?_eq_some_iff.1 hz).1; have := H2.out.2.2.2.2; have := H4.out.2; omega), ← HO.out.2.2]
        exact HO.out.1
set_option maxRecDepth 100000 in
set_option maxHeartbeats 1000000 in
theorem by_any {B g bs bb cs cb n : Nat} {k s : Int} {es : List Sy.Ed} (i b : Int) (w : World) (h : Gr w B g bs bb cs cb n k s es) : Calls Tryz.prog 20 #[.pointer (some ⟨g, 0, none⟩), .int .i64 i, .int .i64 b] w fun r w' => ∃ u, r = .returned u ∧ OwnI w' w.heap.size u (Sy.ends (Sy.rowOf n (Sy.nf es) i) b) ∧ Below w.heap.size w w' := by
  obtain ⟨_, _, _, ⟨c0, c1⟩, _, _⟩ := h.cells
  have hq := Tryz.eqG g
  have hs := h.sizes
  have hR := tends_any bs bb (Sy.nf es).length n B (Sy.nf es) i b w (by omega) (rfl) (by omega) (Sy.nf_str _) h.out
  unfold tabV at hR
  have HR : Hid _ := hR
  obtain ⟨L, hL⟩ : ∃ L, L = (Sy.nf es).length := ⟨_, rfl⟩
  rw [← hL] at c0 HR
  clear h hR hL hs
  go_enter Tryz.func20, Tryz.ntmps20
  go_wp2_with fail
  refine Calls.mono HR.out ?_
  rintro r w1 ⟨u, rfl, hO, hb⟩
  have H1 : Hid _ := And.intro hO hb
  clear hO hb
  go_wp2_with fail
  go_ret
  exact ⟨_, rfl, H1.out.1, H1.out.2⟩
set_option maxRecDepth 100000 in
set_option maxHeartbeats 1000000 in
theorem from_any {B g bs bb cs cb n : Nat} {k s : Int} {es : List Sy.Ed} (i b : Int) (w : World) (h : Gr w B g bs bb cs cb n k s es) : Calls Tryz.prog 21 #[.pointer (some ⟨g, 0, none⟩), .int .i64 i, .int .i64 b] w fun r w' => ∃ u, r = .returned u ∧ OwnI w' w.heap.size u (Sy.ends (Sy.rowOf n (Sy.nf ((Sy.nf es).map Sy.turn)) i) b) ∧ Below w.heap.size w w' := by
  obtain ⟨_, _, _, _, c0, c1⟩ := h.cells
  have hq := Tryz.eqG g
  have hs := h.sizes
  have hR := tends_any cs cb (Sy.nf es).length n B (Sy.nf ((Sy.nf es).map Sy.turn)) i b w (by omega) (nf_turn_len es) (by omega) (Sy.nf_str _) h.inn
  unfold tabV at hR
  have HR : Hid _ := hR
  obtain ⟨L, hL⟩ : ∃ L, L = (Sy.nf es).length := ⟨_, rfl⟩
  rw [← hL] at c0 HR
  clear h hR hL hs
  go_enter Tryz.func21, Tryz.ntmps21
  go_wp2_with fail
  refine Calls.mono HR.out ?_
  rintro r w1 ⟨u, rfl, hO, hb⟩
  have H1 : Hid _ := And.intro hO hb
  clear hO hb
  go_wp2_with fail
  go_ret
  exact ⟨_, rfl, H1.out.1, H1.out.2⟩
end Go.Proofs.YtgnfommndoodmaaGreatDoor
/- Contract of the program's Edges. -/
namespace Go.Proofs.YtgnfommndoodmaaGreatDoor
open Go.RowKit Go.Maps
attribute [local go_sem ↓] Go.wp_at_zero Go.wp_at_succ
/-- A state's steps as edges. -/
def Sy.es1 (st : Int) (zs : List BSteps.El) : List Sy.Ed := zs.map fun x => (st, x.1, x.2)
theorem Sy.es1_steps (l : List Sy.Ed) (st : Int) : Sy.es1 st (Sy.steps l st) = l.filter fun e => e.1 == st := by
  unfold Sy.es1 Sy.steps
  rw [List.map_map]
  have h : ∀ e ∈ l.filter (fun e => e.1 == st), ((fun x : BSteps.El => (st, x.1, x.2)) ∘ fun e : Sy.Ed => (e.2.1, e.2.2)) e = e := fun e he => by
    have := (List.mem_filter.1 he).2
    simp at this
    obtain ⟨a, b, c⟩ := e
    simp at this
    simp [this]
  rw [List.map_congr_left h]
  simp
theorem Sy.take_row {l : List Sy.Ed} (h : Sy.Rows l) (st : Int) : l.take (Sy.cnt l st) ++ Sy.es1 st (Sy.steps l st) = l.take (Sy.cnt l (st + 1)) := by
  rw [Sy.es1_steps, Sy.row_piece h st]
  have h1 := Sy.cnt_mono l st
  conv => rhs; rw [show Sy.cnt l (st + 1) = Sy.cnt l st + (Sy.cnt l (st + 1) - Sy.cnt l st) by omega, List.take_add]
theorem Sy.es1_snoc {st : Int} {zs : List BSteps.El} {k : Nat} {x : BSteps.El} (h : zs[k]? = some x) : Sy.es1 st (zs.take (k + 1)) = Sy.es1 st (zs.take k) ++ [(st, x.1, x.2)] := by
  rw [take_succ_of h]
  simp [Sy.es1]
theorem Sy.es1_len (st : Int) (zs : List BSteps.El) : (Sy.es1 st zs).length = zs.length := by simp [Sy.es1]
theorem Sy.take_all {n k s : Int} {es : List Sy.Ed} (h : Sy.right n k s es = true) : (Sy.nf es).take (Sy.cnt (Sy.nf es) n) = Sy.nf es := by
  rw [Sy.cnt_all fun e he => ((right_parts h).2.2.2.2.2 e ((Sy.nf_mem es e).1 he)).2.1, List.take_length]
theorem Sy.take_none {n k s : Int} {es : List Sy.Ed} (h : Sy.right n k s es = true) : (Sy.nf es).take (Sy.cnt (Sy.nf es) 0) = [] := by
  rw [Sy.cnt_none fun e he => by have := ((right_parts h).2.2.2.2.2 e ((Sy.nf_mem es e).1 he)).1; omega]
  rfl
set_option maxRecDepth 100000 in
set_option maxHeartbeats 8000000 in
theorem edges_any {B g bs bb cs cb n : Nat} {k s : Int} {es : List Sy.Ed} (w : World) (h : Gr w B g bs bb cs cb n k s es) : Calls Tryz.prog 26 #[.pointer (some ⟨g, 0, none⟩)] w fun r w' => ∃ u, r = .returned u ∧ BEdges.Own w' w.heap.size u (Sy.nf es) ∧ Below w.heap.size w w' := by
  obtain ⟨i0, hi0, hz0, hz1, hz2⟩ := info_parts BEdges.Tryz.infoE
  have hSt := states_any w h
  have hs := h.sizes
  have HG : Hid _ := And.intro h (And.intro hSt hs)
  have hn : n ≤ 1000 := hs.1
  obtain ⟨l, hl⟩ : ∃ l, l = Sy.nf es := ⟨_, rfl⟩
  have HL : Hid (l = Sy.nf es ∧ Sy.Rows l ∧ l.take (Sy.cnt l 0) = [] ∧ l.take (Sy.cnt l n) = l) := (by rw [hl]; exact ⟨rfl, nf_rows es, Sy.take_none h.right, Sy.take_all h.right⟩ : l = Sy.nf es ∧ Sy.Rows l ∧ l.take (Sy.cnt l 0) = [] ∧ l.take (Sy.cnt l n) = l)
  rw [← hl]
  clear h hSt hs hl
  go_enter Tryz.func26, Tryz.ntmps26
  go_wp2_with (go_at_call 22; refine Calls.mono HG.out.2.1 ?_; rintro r w1 ⟨rfl, hw⟩; obtain rfl := hw.symm)
  go_loopg [3, 9] n (fun q uv iv wr => ∃ st : Nat, q = n - st ∧ st ≤ n ∧ iv = .int .i64 st ∧ BEdges.Own wr w.heap.size uv (l.take (Sy.cnt l (st : Int))) ∧ Below w.heap.size w wr)
  case atStart => exact ⟨0, rfl, Nat.zero_le _, rfl, by show BEdges.Own w w.heap.size _ (l.take (Sy.cnt l 0)); rw [HL.out.2.2.1]; exact World.ownsRow_nil _ _ _ _, Below.refl _ _⟩
  case round =>
    obtain ⟨st, rfl, hst, rfl, hO, hb⟩ := hrel
    obtain ⟨wq, rfl⟩ : ∃ wq, wq = wr := ⟨_, rfl⟩
    by_cases hlt : st < n
    · have hG := HG.out.1.below hb
      obtain ⟨_, _, _, ⟨c0, c1⟩, _, _⟩ := hG.cells
      have hR := hG.row (st : Int)
      have hT := hG.out
      obtain ⟨L, hL⟩ : ∃ L, L = (Sy.nf es).length := ⟨_, rfl⟩
      have hl1 := Sy.steps_len (Sy.nf es) (st : Int)
      have hsz := HG.out.2.2.2
      rw [rowOf_in _ hlt] at hR
      have HR : Hid _ := And.intro hR (And.intro hb (And.intro hO (And.intro hL hT)))
      rw [← hL] at HR c0 hsz hl1
      have r1 : (st : Int) < (n : Int) := by omega
      clear hG hR hb hL hT hO
      go_wp2_with fail
      refine Calls.mono HR.out.1 ?_
      rintro r w1 ⟨v, rfl, hv, hb1⟩
      obtain ⟨av, cv, rfl, _⟩ := hv wq HR.out.2.2.2.2
      obtain ⟨M, hM⟩ : ∃ M, M = (Sy.steps (Sy.nf es) (st : Int)).length := ⟨_, rfl⟩
      rw [← hM]
      rw [← hM] at hv hl1
      have H1 : Hid _ := And.intro hv (And.intro hb1 hM)
      clear hv hb1 hM c0 c1
      go_wp2_with fail
      go_loopg [3, 19] M (fun q uv kv wr => ∃ k2 : Nat, q = M - k2 ∧ k2 ≤ M ∧ kv = .int .i64 k2 ∧ BEdges.Own wr w.heap.size uv (l.take (Sy.cnt l (st : Int)) ++ Sy.es1 st ((Sy.steps l st).take k2)) ∧ Below w.heap.size w wr)
      case atStart =>
        refine ⟨0, rfl, Nat.zero_le _, rfl, ?_, HR.out.2.1.trans (H1.out.2.1.mono HR.out.2.1.size)⟩
        have h1 : l.take (Sy.cnt l (st : Int)) ++ Sy.es1 st ((Sy.steps l st).take 0) = l.take (Sy.cnt l (st : Int)) := by simp [Sy.es1]
        rw [h1]
        exact trow_at HR.out.2.2.1 fun b hb => H1.out.2.1.block b (HR.out.2.2.1.lt b hb).2
      case round =>
        obtain ⟨k2, rfl, hk, rfl, hO, hb⟩ := hrel
        obtain ⟨ys, hys⟩ : ∃ ys, ys = l.take (Sy.cnt l (st : Int)) ++ Sy.es1 st ((Sy.steps l st).take k2) := ⟨_, rfl⟩
        rw [← hys] at hO
        obtain ⟨au, cu, hu⟩ := row_shape hO
        obtain ⟨N, hN⟩ : ∃ N, N = ys.length := ⟨_, rfl⟩
        rw [← hN] at hu
        subst hu
        have hys1 : N ≤ 100000 := by
          have h2 := List.length_take_le (Sy.cnt l (st : Int)) l
          have h3 := Sy.cnt_le l (st : Int)
          have h4 := List.length_take_le k2 (Sy.steps l st)
          have h5 := HG.out.2.2.2
          rw [← HL.out.1] at h5
          rw [hN, hys, List.length_append, Sy.es1_len]
          omega
        by_cases hkm : k2 < M
        · obtain ⟨x, hx⟩ : ∃ x, (Sy.steps l st)[k2]? = some x := ⟨(Sy.steps l st)[k2]'(by have := H1.out.2.2; rw [← HL.out.1] at this; omega), List.getElem?_eq_getElem _⟩
          have hx' := hx
          rw [HL.out.1] at hx'
          obtain ⟨a, rfl, d0, d1⟩ := step_at (H1.out.1 wr (HG.out.1.out.below hb)) hx'
          have hs1 := Sy.es1_snoc (st := (st : Int)) hx
          obtain ⟨x1, x2⟩ := x
          simp only at d0 d1 hs1
          obtain ⟨wb, hwb⟩ : ∃ wb, wb = wr.alloc (.cells #[.int .i64 x1, .int .i64 x2] 92) := ⟨_, rfl⟩
          have hbb : Below wr.heap.size wr wb := by rw [hwb]; exact (Below.refl _ _).alloc (Nat.le_refl _) _
          have hgb : wb.heap[wr.heap.size]? = some (.cells #[.int .i64 x1, .int .i64 x2] 92 (0, 0)) := by rw [hwb]; exact heap_alloc_new wr _
          have f0 : wb.cell? ⟨wr.heap.size, 0, none⟩ = some (.int .i64 x1) := cell0_of hgb rfl
          have f1 : wb.cell? ⟨wr.heap.size, 1, none⟩ = some (.int .i64 x2) := cell0_of hgb rfl
          have hOb : BEdges.Own wb w.heap.size (.slice au N cu) ys := trow_at hO fun b hb => hbb.block b (hO.lt b hb).2
          have hOz : wb.ownsRow w.heap.size 38 3 (.slice au N cu) N (BEdges.C ys) := by have h1 := hOb; unfold BEdges.Own at h1; rw [← hN] at h1; exact h1
          have hbw : Below w.heap.size w wb := hb.trans (hbb.mono hb.size)
          have hle : w.heap.size ≤ (wb.alloc (.cells #[.int .i64 st, .int .i64 x1, .int .i64 x2] 38)).heap.size := by have := hbw.size; simp; omega
          have hml : N + 1 ≤ maxLen := by unfold maxLen; omega
          have hby : (N + 1) * 24 ≤ 140737488355328 := by omega
          have k0 : (0 : Int) ≤ (k2 : Int) := by omega
          have k1 : (k2 : Int) < (M : Int) := by omega
          have HZ : Hid _ := And.intro hOz (And.intro hbw (And.intro hwb (And.intro hys (And.intro hs1 hN))))
          clear hO hOb hOz hbw hwb hbb hgb hys hs1 hN hx hx' hb
          go_upto_region 8 with fail
          rw [← HZ.out.2.2.1]
          go_wp2_with (at_builtin; refine wpList_append_own_at _ rfl _ _ 22 rfl w.heap.size 38 i0 (.agg #[.int .i64 0, .int .i64 0, .int .i64 0]) 3 24 Tryz.underlying22 hi0 hz0 hz1 hz2 rfl (by decide) (.slice au N cu) N (BEdges.C ys) rfl (HZ.out.1.alloc _) ⟨wb.heap.size, 0, none⟩ 1 1 [.int .i64 st, .int .i64 x1, .int .i64 x2] rfl rfl (World.news_of_block (cs := #[.int .i64 st, .int .i64 x1, .int .i64 x2]) (t := 38) (fr := (0, 0)) (heap_alloc_new wb _)) (by simp [Value.oneCell']) hml hby hle ?_; intro v5 w5 hO5 hg5 hnil5 hat5; have H2 : Hid _ := And.intro hO5 hg5; clear hO5 hg5 hnil5 hat5)
          go_roundg (M - (k2 + 1))
          case measure => omega
          case rel =>
            refine ⟨k2 + 1, rfl, by omega, by go_num, ?_, ?_⟩
            · rw [HZ.out.2.2.2.2.1, ← List.append_assoc, ← HZ.out.2.2.2.1]
              unfold BEdges.Own
              rw [BEdges.C_snoc, List.length_append, ← HZ.out.2.2.2.2.2]
              exact H2.out.1
            · exact HZ.out.2.1.trans ((grown_alloc H2.out.2).below HZ.out.2.1.size fun b hb => (HZ.out.1.lt b hb).1)
        · obtain rfl : k2 = M := by omega
          have k1 : ¬ (k2 : Int) < (k2 : Int) := by omega
          have hfull : ys = l.take (Sy.cnt l ((st : Int) + 1)) := by
            have ht : (Sy.steps l st).take k2 = Sy.steps l st := List.take_of_length_le (by have := H1.out.2.2; rw [← HL.out.1] at this; omega)
            rw [hys, ht]
            exact Sy.take_row HL.out.2.1 st
          have HJ : Hid _ := And.intro hO (And.intro hfull (And.intro hb hN))
          clear hO hfull hb hN hys
          go_wp2_with fail
          go_roundg (n - (st + 1))
          case measure => omega
          case rel =>
            refine ⟨st + 1, rfl, by omega, by go_num, ?_, HJ.out.2.2.1⟩
            rw [show (((st + 1 : Nat) : Int)) = (st : Int) + 1 by omega, ← HJ.out.2.1]
            exact HJ.out.1
    · obtain rfl : st = n := by omega
      have r1 : ¬ (st : Int) < (st : Int) := by omega
      rw [HL.out.2.2.2] at hO
      have HJ : Hid _ := And.intro hO hb
      obtain ⟨au, cu, hu⟩ := row_shape hO
      obtain ⟨N, hN⟩ : ∃ N, N = l.length := ⟨_, rfl⟩
      rw [← hN] at hu
      subst hu
      clear hO hb hN
      go_wp2_with fail
      go_ret
      exact ⟨_, rfl, HJ.out.1, HJ.out.2⟩
end Go.Proofs.YtgnfommndoodmaaGreatDoor
/- GraphPlays: a graph that stays while other memory is written; Start; plain facts. -/
namespace Go.Proofs.YtgnfommndoodmaaGreatDoor
open Go.RowKit Go.Maps
attribute [local go_sem ↓] Go.wp_at_zero Go.wp_at_succ
theorem Gr.kept {w w' : World} {B g bs bb cs cb n : Nat} {k s : Int} {es : List Sy.Ed} {F : Nat → Prop} (h : Gr w B g bs bb cs cb n k s es) (hk : Kept F w w') (hF : ∀ b, F b → b < B) : Gr w' B g bs bb cs cb n k s es := by
  have no : ∀ {b}, B ≤ b → ¬ F b := fun hb f => by have := hF _ f; omega
  exact ⟨(hk.block _ (t_lt h.box) (no h.up)).trans h.box, h.up, h.out.kept hk (no h.out.steps.2) (no h.out.nums.2), h.inn.kept hk (no h.inn.steps.2) (no h.inn.nums.2), h.right⟩
set_option maxRecDepth 100000 in
theorem start_any {B g bs bb cs cb n : Nat} {k s : Int} {es : List Sy.Ed} (w : World) (h : Gr w B g bs bb cs cb n k s es) : Calls Tryz.prog 24 #[.pointer (some ⟨g, 0, none⟩)] w fun r w' => r = .returned (.int .i64 s) ∧ w' = w := by
  obtain ⟨_, _, c2, _, _, _⟩ := h.cells
  have hq := Tryz.eqG g
  clear h
  go_enter Tryz.func24, Tryz.ntmps24
  go_wp2
  go_ret
  exact ⟨rfl, rfl⟩
/-- The edges turned round: sorted ahead or not. -/
theorem Sy.nf_turn (es : List Sy.Ed) : Sy.nf (es.map Sy.turn) = Sy.nf ((Sy.nf es).map Sy.turn) := by
  refine Sy.Str.unique (Sy.nf_str _) (Sy.nf_str _) fun x => ?_
  rw [Sy.nf_mem, Sy.nf_mem, List.mem_map, List.mem_map]
  constructor
  · rintro ⟨e, he, h⟩; exact ⟨e, (Sy.nf_mem es e).2 he, h⟩
  · rintro ⟨e, he, h⟩; exact ⟨e, (Sy.nf_mem es e).1 he, h⟩
theorem Sy.rowOf_at {n i : Nat} (l : List Sy.Ed) (h : i < n) : Sy.rowOf n l (i : Int) = Sy.steps l i := by
  unfold Sy.rowOf
  rw [if_pos ⟨by omega, by omega⟩]
theorem Sy.rowOf_no {n : Nat} {i : Int} (l : List Sy.Ed) (h : ¬ (0 ≤ i ∧ i < (n : Int))) : Sy.rowOf n l i = [] := by
  unfold Sy.rowOf
  rw [if_neg h]
/-- What is written over what was lent: the rest stays. -/
structure PlW (w1 w8 wr : World) (gl L : Nat) : Prop where
  arr : ∃ vs, Arr 38 w1 wr gl vs ∧ L * 3 ≤ vs.length
  kept : Kept (fun i => i = gl) w8 wr
theorem PlW.begin {w1 w8 : World} {gl L cl : Nat} {es : List Sy.Ed} (hL : L = es.length) (h : LentE w8 w1.heap.size (.slice (some ⟨gl, 0, none⟩) L cl) es) (hb : Below w1.heap.size w1 w8) : PlW w1 w8 w8 gl L := by
  obtain ⟨g, cap, hu, hc, hO⟩ := h
  injection hu with e1 e2 e3
  injection e1 with e1
  injection e1 with e1
  subst e1
  refine ⟨?_, Kept.refl _ _⟩
  rcases hO.2 with ⟨he, _⟩ | ⟨g', cap', cur, he, hg, hh, h1, h2, h3, h4⟩
  · exact absurd he (by simp)
  · injection he with f1 f2 f3
    injection f1 with f1
    injection f1 with f1
    subst f1
    refine ⟨cur.toList, ⟨hb, ⟨cur, hh, rfl⟩, hg⟩, ?_⟩
    rw [Array.length_toList, h3]
    omega
theorem PlW.set {w1 w8 wr : World} {gl L : Nat} (h : PlW w1 w8 wr gl L) (o : Nat) (x : Value) : PlW w1 w8 (wr.setCell ⟨gl, o, none⟩ x) gl L := by
  obtain ⟨⟨vs, hA, hl⟩, hk⟩ := h
  exact ⟨⟨_, hA.set o x, by rw [List.length_set]; exact hl⟩, hk.trans (Kept.setCell wr gl o x)⟩
end Go.Proofs.YtgnfommndoodmaaGreatDoor
/- Contract of the document's Reach: which states are reachable. -/
namespace Go.Proofs.YtgnfommndoodmaaGreatDoor
open Go.RowKit Go.Maps
attribute [local go_sem ↓] Go.wp_at_zero Go.wp_at_succ
set_option maxRecDepth 100000 in
set_option maxHeartbeats 4000000 in
theorem refReach_any (n : Nat) (k s : Int) (v : Value) (es : List Sy.Ed) (w : World) (hn : n ≤ 1000000) (hv : HasE w v es) (hm : es.length ≤ 100000) (hr : ∀ e ∈ es, (0 ≤ e.1 ∧ e.1 < (n : Int)) ∧ 0 ≤ e.2.2 ∧ e.2.2 < (n : Int)) (hs : 0 < n → 0 ≤ s ∧ s < (n : Int)) :
    Calls Tryz.prog 18 #[sysV n k s v] w fun e w' => ∃ g bs, e = .returned (.slice (some ⟨g, 0, none⟩) n n) ∧ Arr 4 w w' g (bC bs) ∧ bs.length = n ∧ ∀ p : Nat, p < n → (bs[p]? = some true ↔ Sy.Rea es s p) := by
  obtain ⟨i0, hi0, hz0, hz1, hz2⟩ := info_parts Tryz.infoI4
  obtain ⟨w0, hw0⟩ : ∃ w0, w0 = w.alloc (.cells #[.int .i64 n, .int .i64 k, .int .i64 s, v] 24) := ⟨_, rfl⟩
  have hb0 : Below w.heap.size w w0 := by rw [hw0]; exact (Below.refl _ _).alloc (Nat.le_refl _) _
  have hs0 : w0.heap.size = w.heap.size + 1 := by rw [hw0]; simp
  have hg0 : w0.heap[w.heap.size]? = some (.cells #[.int .i64 n, .int .i64 k, .int .i64 s, v] 24 (0, 0)) := by rw [hw0]; exact heap_alloc_new w _
  have hA0 := arr_new 4 (.bool false) rfl n w0
  have hmk := makeB n hn w0
  obtain ⟨w1, hw1⟩ : ∃ w1, w1 = w0.alloc (.cells (madeV (.bool false) n) 4) := ⟨_, rfl⟩
  rw [← hw1] at hA0 hmk
  rw [bC_rep] at hA0
  have hO := refOut_any n k s v es w1 hn ((hv.below hb0).below hA0.bl) hm fun e he => (hr e he).1
  have hg1 := (hA0.bl.block _ (t_lt hg0)).trans hg0
  obtain ⟨x0, x1, x2, x3⟩ := four_cells hg0
  obtain ⟨y0, y1, y2, y3⟩ := four_cells hg1
  have hA1 : Arr 4 w w1 w0.heap.size (bC (List.replicate n false)) := hA0.back hb0
  obtain ⟨gi, hgi⟩ : ∃ gi, gi = w0.heap.size := ⟨_, rfl⟩
  have hlt0 : w.heap.size < gi := by omega
  rw [← hgi] at hA1 hmk
  have H0 : Hid _ := And.intro hO (And.intro hA1 (And.intro hw0 (And.intro hw1 hg1)))
  have HR : Hid _ := hr
  have HS : Hid _ := hs
  have hv0 := hv
  obtain ⟨ao, cap, rfl, _⟩ := hv0
  obtain ⟨m, hmm⟩ : ∃ m, m = es.length := ⟨_, rfl⟩
  rw [← hmm] at H0 x3 y3 ⊢
  unfold sysV at H0 ⊢
  clear hO hA1 hw0 hw1 hg1 hA0 hb0 hg0 hr hs hv hgi hs0 hmm
  go_enter Tryz.func18, Tryz.ntmps18
  go_upto_region 1 with fail
  rw [← H0.out.2.2.1]
  by_cases h0 : n = 0
  · have z1 : ((n : Int) == 0) = true := by simp [h0]
    have HZ : Hid (n = 0) := h0
    clear h0
    go_wp2_with fail
    go_ret
    exact ⟨_, _, rfl, H0.out.2.1, by simp, fun p hp => by have := HZ.out; omega⟩
  · have z1 : ((n : Int) == 0) = false := by simp; omega
    have z2 : ¬ (n : Int) = 0 := by omega
    go_upto_region 4 with fail
    go_wp2_with fail
    refine Calls.mono H0.out.1 ?_
    rintro e w2 ⟨go, us, rfl, hAo, hOs⟩
    obtain ⟨hs1, hs2⟩ := HS.out (by omega)
    obtain ⟨t, ht⟩ : ∃ t : Nat, s = (t : Int) := ⟨s.toNat, by omega⟩
    have htn : t < n := by omega
    subst ht
    have hA2 : Arr 4 w w2 gi (bC (List.replicate n false)) := H0.out.2.1.below hAo.bl
    have hg2 := (hAo.bl.block _ (t_lt H0.out.2.2.2.2)).trans H0.out.2.2.2.2
    obtain ⟨b0, b1, b2, b3⟩ := four_cells hg2
    have hbx := t_lt hg2
    have hgl := hA2.lt
    have hq0 : ¬ gi = w2.heap.size := by omega
    have hq1 : ¬ w.heap.size = w2.heap.size := by omega
    have cg := hA2.cell (i := t) (x := .bool false) (bC_at (by rw [List.getElem?_replicate, if_pos htn]))
    have cf := hA2.free t
    have p0 : (0 : Int) ≤ (t : Int) := by omega
    have p1 : (t : Int) < (n : Int) := by omega
    have hR0 : RcAt w ((w2.setCell ⟨gi, t, none⟩ (.bool true)).alloc (.cells #[.int .i64 t] 3)) go gi us n (fun i => Sy.steps (Sy.nf es) i) (.slice (some ⟨w2.heap.size, 0, none⟩) 1 1) [(t : Int)] ((List.replicate n false).set t true) := by
      have h1 : RcAt w w2 go gi us n (fun i => Sy.steps (Sy.nf es) i) (.slice none 0 0) [] (List.replicate n false) := ⟨hAo.back H0.out.2.1.bl, hOs.base H0.out.2.1.bl.size, hA2, World.ownsRow_nil _ _ _ _⟩
      have h3 := (h1.mark t).below (w' := (w2.setCell ⟨gi, t, none⟩ (.bool true)).alloc (.cells #[.int .i64 t] 3)) ((Below.refl _ _).alloc (Nat.le_refl _) _)
      have h4 := heap_alloc_new (w2.setCell ⟨gi, t, none⟩ (.bool true)) (.cells #[.int .i64 t] 3)
      have h5 : (w2.setCell ⟨gi, t, none⟩ (.bool true)).heap.size = w2.heap.size := by simp
      rw [h5] at h4
      exact ⟨h3.out, h3.rows, h3.inn, rfl, .inr ⟨w2.heap.size, 1, #[.int .i64 t], rfl, by omega, h4, Nat.le_refl _, by unfold maxLen; omega, rfl, rfl⟩⟩
    have HH : Hid _ := And.intro hR0 (Sy.RInv.begin es (t : Int) n rfl htn)
    clear hR0 hAo hOs hA2 hg2 x0 x1 x2 x3 y0 y1 y2 y3 hmk hs1 hs2
    go_wp2_with fail
    go_loopg [5, 6] n (fun q u iv wr => ∃ (i : Nat) (zs : List Int) (bs : List Bool), q = n - i ∧ i ≤ zs.length ∧ iv = .int .i64 i ∧ RcAt w wr go gi us n (fun i => Sy.steps (Sy.nf es) i) u zs bs ∧ Sy.RInv es t n zs bs i)
    case atStart => exact ⟨0, _, _, rfl, Nat.zero_le _, rfl, HH.out.1, HH.out.2⟩
    case round =>
      obtain ⟨i, zs, bs, rfl, hi, rfl, hC, hI⟩ := hrel
      obtain ⟨wq, rfl⟩ : ∃ wq, wq = wr := ⟨_, rfl⟩
      have hzn := hI.short
      obtain ⟨N, hN⟩ : ∃ N, N = zs.length := ⟨_, rfl⟩
      obtain ⟨au, cu, hu⟩ := row_shape hC.lst
      rw [← hN] at hu hi hzn
      obtain rfl := hu
      clear b0 b1 b2 b3 cg cf hbx hgl hq0 hq1 HH
      by_cases hlt : i < N
      · obtain ⟨z, hz⟩ : ∃ z, zs[i]? = some z := ⟨zs[i]'(by omega), List.getElem?_eq_getElem _⟩
        obtain ⟨ga, rfl, cz⟩ := own_num hC.lst hz
        have hzr := hI.rng z (List.mem_of_getElem? hz)
        obtain ⟨p, rfl⟩ : ∃ p : Nat, z = (p : Int) := ⟨z.toNat, by omega⟩
        have hpn : p < n := by omega
        obtain ⟨up, hup, hOp⟩ := hC.rows.row p hpn
        obtain ⟨ar, cr, rfl⟩ := row_shape hOp
        obtain ⟨M, hM⟩ : ∃ M, M = (Sy.steps (Sy.nf es) p).length := ⟨_, rfl⟩
        have hMl : M ≤ 100000 := by have := Sy.steps_len (Sy.nf es) p; have := Sy.nf_len es; omega
        have co := hC.out.cell hup
        rw [← hM] at co
        have q0 : (0 : Int) ≤ (i : Int) := by omega
        have q1 : (i : Int) < (N : Int) := by omega
        have q2 : (0 : Int) ≤ (p : Int) := by omega
        have q3 : (p : Int) < (n : Int) := by omega
        have HI : Hid _ := And.intro hC (And.intro hI (And.intro hz (And.intro hup (And.intro hN hM))))
        clear hC hI hz hup hOp hN hM hzr
        go_wp2_with fail
        go_loopg [5, 8] M (fun q u kv wr => ∃ (k : Nat) (zs : List Int) (bs : List Bool), q = M - k ∧ k ≤ M ∧ kv = .int .i64 k ∧ RcAt w wr go gi us n (fun i => Sy.steps (Sy.nf es) i) u zs bs ∧ Sy.RInv es t n zs bs i ∧ i < zs.length ∧ zs[i]? = some (p : Int) ∧ ∀ x ∈ (Sy.steps (Sy.nf es) p).take k, x.2 ∈ zs)
        case atStart => exact ⟨0, zs, bs, rfl, Nat.zero_le _, rfl, HI.out.1, HI.out.2.1, by have := HI.out.2.2.2.2.1; omega, HI.out.2.2.1, fun x hx => by simp at hx⟩
        case round =>
          obtain ⟨k2, ys, ds, rfl, hk, rfl, hC, hJ, hil, hyp, hall⟩ := hrel
          obtain ⟨wp, rfl⟩ : ∃ wp, wp = wr := ⟨_, rfl⟩
          obtain ⟨N2, hN2⟩ : ∃ N2, N2 = ys.length := ⟨_, rfl⟩
          have hyn := hJ.short
          obtain ⟨av, cv, hv2⟩ := row_shape hC.lst
          rw [← hN2] at hv2 hil hyn
          obtain rfl := hv2
          by_cases hkm : k2 < M
          · obtain ⟨x, hx⟩ : ∃ x, (Sy.steps (Sy.nf es) p)[k2]? = some x := ⟨(Sy.steps (Sy.nf es) p)[k2]'(by have := HI.out.2.2.2.2.2; omega), List.getElem?_eq_getElem _⟩
            have hrow := hC.row_ne HI.out.2.2.2.1
            obtain ⟨gr, rfl, d0, d1⟩ := own_step hrow hx
            have hxe : ((p : Int), x.1, x.2) ∈ es := (Sy.nf_mem es _).1 (Sy.steps_mem.1 (List.mem_of_getElem? hx))
            have hxr : 0 ≤ x.2 ∧ x.2 < (n : Int) := (HR.out _ hxe).2
            obtain ⟨q, hq⟩ : ∃ q : Nat, x.2 = (q : Int) := ⟨x.2.toNat, by omega⟩
            have hqn : q < n := by omega
            rw [hq] at d1
            obtain ⟨b, hb⟩ : ∃ b, ds[q]? = some b := ⟨ds[q]'(by rw [hJ.len]; exact hqn), List.getElem?_eq_getElem _⟩
            have cb := hC.inn.cell (bC_at hb)
            have cf := hC.inn.free q
            have k0 : (0 : Int) ≤ (k2 : Int) := by omega
            have k1 : (k2 : Int) < (M : Int) := by omega
            have k3 : (0 : Int) ≤ (q : Int) := by omega
            have k4 : (q : Int) < (n : Int) := by omega
            cases b with
            | true =>
              have HJ : Hid _ := And.intro hC (And.intro hJ (And.intro hyp (And.intro hall (And.intro hx (And.intro hq (And.intro hb hN2))))))
              clear hC hJ hyp hall hx hq hb hN2 hrow hxe hxr
              go_wp2_with fail
              go_roundg (M - (k2 + 1))
              case measure => omega
              case rel =>
                exact ⟨k2 + 1, ys, ds, rfl, by omega, by go_num, HJ.out.1, HJ.out.2.1, by have := HJ.out.2.2.2.2.2.2.2; omega, HJ.out.2.2.1, fun y hy => by
                  rw [take_succ_of HJ.out.2.2.2.2.1] at hy
                  rcases List.mem_append.1 hy with hy | hy
                  · exact HJ.out.2.2.2.1 y hy
                  · rw [List.mem_singleton.1 hy, HJ.out.2.2.2.2.2.1]; exact (HJ.out.2.1.iff q).1 HJ.out.2.2.2.2.2.2.1⟩
            | false =>
              have hne : ¬ gr = gi := fun e9 => by
                obtain ⟨cs9, hc9, _⟩ := hC.inn.ids
                exact own_bk (bk := gi) hrow hc9 (by decide) (by rw [← e9]; rfl)
              have hne' : ¬ gi = gr := fun e => hne e.symm
              obtain ⟨wz, hwz⟩ : ∃ wz, wz = wp.setCell ⟨gi, q, none⟩ (.bool true) := ⟨_, rfl⟩
              have hCz : RcAt w wz go gi us n (fun i => Sy.steps (Sy.nf es) i) (.slice av N2 cv) ys (ds.set q true) := by rw [hwz]; exact hC.mark q
              have dz : wz.cell? ⟨gr, k2 * 2 + 1, none⟩ = some (.int .i64 q) := by rw [hwz]; exact kcell (Kept.setCell wp gi q _) hne d1
              have hOz : wz.ownsRow w.heap.size 3 1 (.slice av N2 cv) N2 (iC ys) := by have h1 := hCz.lst; unfold OwnI at h1; rw [← hN2] at h1; exact h1
              have hle : w.heap.size ≤ (wz.alloc (.cells #[.int .i64 q] 3)).heap.size := by have := hCz.inn.bl.size; simp; omega
              have hml : N2 + 1 ≤ maxLen := by unfold maxLen; omega
              have hby : (N2 + 1) * 8 ≤ 140737488355328 := by omega
              have hpush := hJ.push hqn hb (by rw [← hq]; exact Sy.Rea.step _ hxe (hJ.rea _ (List.mem_of_getElem? hyp))) (by omega)
              have HZ : Hid _ := And.intro hCz (And.intro hOz hwz)
              have HJ : Hid _ := And.intro hpush (And.intro hyp (And.intro hall (And.intro hx (And.intro hq hN2))))
              clear hC hJ hyp hall hx hq hb hN2 hrow hxe hxr hCz hOz hwz hpush
              go_upto_region 16 with fail
              rw [← HZ.out.2.2]
              go_wp2_with (at_builtin; refine wpList_append_own_at _ rfl _ _ 44 rfl w.heap.size 3 i0 (.int .i64 0) 1 8 Tryz.underlying44 hi0 hz0 hz1 hz2 rfl (by decide) (.slice av N2 cv) N2 (iC ys) rfl (HZ.out.2.1.alloc _) ⟨wz.heap.size, 0, none⟩ 1 1 [.int .i64 q] rfl rfl (World.news_of_block (cs := #[.int .i64 q]) (t := 3) (fr := (0, 0)) (heap_alloc_new wz _)) (by simp [Value.oneCell']) hml hby hle ?_; intro v2 w4 hown2 hgrow2 hnil2 hat2; have H2 : Hid _ := And.intro hown2 hgrow2; clear hown2 hgrow2 hnil2 hat2)
              go_roundg (M - (k2 + 1))
              case measure => omega
              case rel =>
                have hlen := HJ.out.2.2.2.2.2
                refine ⟨k2 + 1, ys ++ [(q : Int)], ds.set q true, rfl, by omega, by go_num, HZ.out.1.push hlen H2.out.1 (grown_alloc H2.out.2), HJ.out.1, by rw [List.length_append]; omega, by rw [List.getElem?_append_left (by omega)]; exact HJ.out.2.1, fun y hy => ?_⟩
                rw [take_succ_of HJ.out.2.2.2.1] at hy
                rcases List.mem_append.1 hy with hy | hy
                · exact List.mem_append_left _ (HJ.out.2.2.1 y hy)
                · rw [List.mem_singleton.1 hy, HJ.out.2.2.2.2.1]; exact List.mem_append_right _ (List.mem_singleton.2 rfl)
          · obtain rfl : k2 = M := by omega
            have k1 : ¬ (k2 : Int) < (k2 : Int) := by omega
            have hI2 := hJ.next hyp fun e he h1 => by
              have h2 : (e.2.1, e.2.2) ∈ Sy.steps (Sy.nf es) p := Sy.steps_mem.2 ((Sy.nf_mem es _).2 (by rw [← h1]; exact he))
              exact hall _ (by rw [List.take_of_length_le (by have := HI.out.2.2.2.2.2; omega)]; exact h2)
            have HJ : Hid _ := And.intro hC (And.intro hI2 hN2)
            clear hC hJ hI2 hyp hall hN2
            go_wp2_with fail
            go_roundg (n - (i + 1))
            case measure => omega
            case rel => exact ⟨i + 1, ys, ds, rfl, by have := HJ.out.2.2; omega, by go_num, HJ.out.1, HJ.out.2.1⟩
      · obtain rfl : i = N := by omega
        have q1 : ¬ (i : Int) < (i : Int) := by omega
        have HI : Hid _ := And.intro hC (And.intro hI hN)
        clear hC hI hN
        go_wp2_with fail
        go_ret
        refine ⟨_, rfl, bs, HI.out.1.inn, HI.out.2.1.len, fun p _ => ?_⟩
        have h1 := HI.out.2.1
        rw [HI.out.2.2] at h1
        exact h1.all p
end Go.Proofs.YtgnfommndoodmaaGreatDoor
/- The cut of a system: the numbers of the states that stay, plain facts, and what stands in memory while the document's Cut works. -/
namespace Go.Proofs.YtgnfommndoodmaaGreatDoor
open Go.RowKit Go.Maps
namespace Sy
/-- Of each mark its number among those that are set, or -1. -/
def ranksG : Nat → List Bool → List Int
  | _, [] => []
  | c, true :: r => (c : Int) :: ranksG (c + 1) r
  | c, false :: r => -1 :: ranksG c r
def ranks (bs : List Bool) : List Int := ranksG 0 bs
theorem ranksG_len (bs : List Bool) : ∀ c, (ranksG c bs).length = bs.length := by
  induction bs with
  | nil => intro c; rfl
  | cons b r ih => intro c; cases b <;> simp [ranksG, ih]
theorem ranks_len (bs : List Bool) : (ranks bs).length = bs.length := ranksG_len bs 0
theorem ranksG_snoc (bs : List Bool) (b : Bool) : ∀ c, ranksG c (bs ++ [b]) = ranksG c bs ++ [if b = true then ((c + bs.count true : Nat) : Int) else -1] := by
  induction bs with
  | nil => intro c; cases b <;> simp [ranksG]
  | cons x r ih =>
    intro c
    cases x with
    | true => simp only [List.cons_append, ranksG, ih, List.count_cons_self]; rw [show c + 1 + r.count true = c + (r.count true + 1) by omega]
    | false => simp only [List.cons_append, ranksG, ih]; rw [List.count_cons_of_ne (by decide)]
theorem ranks_take {bs : List Bool} {i : Nat} {b : Bool} (h : bs[i]? = some b) : ranks (bs.take (i + 1)) = ranks (bs.take i) ++ [if b = true then (((bs.take i).count true : Nat) : Int) else -1] := by
  rw [take_succ_of h]
  unfold ranks
  rw [ranksG_snoc, Nat.zero_add]
theorem count_take {bs : List Bool} {i : Nat} {b : Bool} (h : bs[i]? = some b) : (bs.take (i + 1)).count true = (bs.take i).count true + if b = true then 1 else 0 := by
  rw [take_succ_of h, List.count_append]
  cases b <;> simp
/-- The number of a state. -/
def rk (bs : List Bool) (i : Int) : Int := ((ranks bs)[i.toNat]?).getD 0
theorem rk_at {bs : List Bool} {i : Nat} (h : i < bs.length) : (ranks bs)[i]? = some (rk bs (i : Int)) := by
  unfold rk
  rw [Int.toNat_natCast, List.getElem?_eq_getElem (by rw [ranks_len]; exact h)]
  rfl
/-- The edges that stay. -/
def cutE (bs : List Bool) (es : List Ed) : List Ed := (es.filter fun e => (bs[e.1.toNat]?).getD false).map fun e => (rk bs e.1, e.2.1, rk bs e.2.2)
theorem cutE_take {bs : List Bool} {es : List Ed} {j : Nat} {e : Ed} (h : es[j]? = some e) : cutE bs (es.take (j + 1)) = if (bs[e.1.toNat]?).getD false = true then cutE bs (es.take j) ++ [(rk bs e.1, e.2.1, rk bs e.2.2)] else cutE bs (es.take j) := by
  rw [take_succ_of h]
  unfold cutE
  rw [List.filter_append, List.map_append]
  by_cases g : (bs[e.1.toNat]?).getD false = true <;> simp [g]
theorem cutE_len (bs : List Bool) (es : List Ed) : (cutE bs es).length ≤ es.length := by
  unfold cutE
  rw [List.length_map]
  exact List.length_filter_le _ _
end Sy
theorem iC_rank_step {C : List Int} {n i : Nat} (k : Int) (hC : C.length = i) (hi : i < n) : (iC C ++ List.replicate (n - i) (Value.int .i64 0)).set i (.int .i64 k) = iC (C ++ [k]) ++ List.replicate (n - (i + 1)) (Value.int .i64 0) := by
  have e : n - i = (n - (i + 1)) + 1 := by omega
  have hl : (iC C).length = i := by rw [iC_length, hC, Nat.mul_one]
  rw [List.set_append_right _ _ (by rw [hl]; omega), hl, Nat.sub_self, e, List.replicate_succ, List.set_cons_zero, iC_snoc]
  simp
end Go.Proofs.YtgnfommndoodmaaGreatDoor
/- The program's Cut: plain facts. -/
namespace Go.Proofs.YtgnfommndoodmaaGreatDoor
open Go.RowKit Go.Maps
namespace Sy
theorem marked_snoc {bs : List Bool} {q : Nat} {b : Bool} (h : bs[q]? = some b) : marked (bs.take (q + 1)) = marked (bs.take q) ++ if b = true then [(q : Int)] else [] := by
  have hq := (List.getElem?_eq_some_iff.1 h).1
  unfold marked
  rw [List.length_take, List.length_take, Nat.min_eq_left (by omega), Nat.min_eq_left (by omega), List.range_succ, List.filter_append, List.map_append]
  congr 1
  · congr 1
    refine List.filter_congr fun p hp => ?_
    have := List.mem_range.1 hp
    rw [List.getElem?_take_of_lt (by omega), List.getElem?_take_of_lt (by omega)]
  · cases b
    · simp [List.getElem?_take_of_lt, h]
    · simp [List.getElem?_take_of_lt, h]
theorem marked_len (bs : List Bool) : (marked bs).length = bs.count true := by
  unfold marked
  rw [List.length_map, count_filter]
theorem marked_get (bs : List Bool) : ∀ q, q ≤ bs.length → ∀ (i : Nat) (z : Int), (marked (bs.take q))[i]? = some z → ∃ p : Nat, z = p ∧ p < q ∧ bs[p]? = some true ∧ (bs.take p).count true = i := by
  intro q
  induction q with
  | zero => intro _ i z h; simp [marked] at h
  | succ q ih =>
    intro hq i z h
    obtain ⟨b, hb⟩ : ∃ b, bs[q]? = some b := ⟨bs[q], List.getElem?_eq_getElem _⟩
    rw [marked_snoc hb] at h
    have hl := marked_len (bs.take q)
    by_cases hi : i < (marked (bs.take q)).length
    · rw [List.getElem?_append_left hi] at h
      obtain ⟨p, h1, h2, h3, h4⟩ := ih (by omega) i z h
      exact ⟨p, h1, by omega, h3, h4⟩
    · rw [List.getElem?_append_right (by omega)] at h
      cases b with
      | false => simp at h
      | true =>
        rw [if_pos rfl] at h
        have h1 : i - (marked (bs.take q)).length = 0 := by have := (List.getElem?_eq_some_iff.1 h).1; simpa using this
        rw [h1] at h
        exact ⟨q, (Option.some.inj h).symm, by omega, hb, by omega⟩
theorem marked_at {bs : List Bool} {i : Nat} {z : Int} (h : (marked bs)[i]? = some z) : ∃ p : Nat, z = p ∧ p < bs.length ∧ bs[p]? = some true ∧ (bs.take p).count true = i := by
  refine marked_get bs bs.length (Nat.le_refl _) i z ?_
  rw [List.take_length]
  exact h
theorem ranks_get (bs : List Bool) : ∀ q, q ≤ bs.length → ∀ p, p < q → (ranks (bs.take q))[p]? = some (if bs[p]? = some true then (((bs.take p).count true : Nat) : Int) else -1) := by
  intro q
  induction q with
  | zero => intro _ p hp; omega
  | succ q ih =>
    intro hq p hp
    obtain ⟨b, hb⟩ : ∃ b, bs[q]? = some b := ⟨bs[q], List.getElem?_eq_getElem _⟩
    rw [ranks_take hb]
    have hl : (ranks (bs.take q)).length = q := by rw [ranks_len, List.length_take]; omega
    by_cases h : p < q
    · rw [List.getElem?_append_left (by omega)]
      exact ih (by omega) p h
    · obtain rfl : p = q := by omega
      rw [List.getElem?_append_right (by omega), hl, Nat.sub_self, hb]
      cases b <;> simp
theorem rk_val {bs : List Bool} {p : Nat} (h : p < bs.length) : rk bs (p : Int) = if bs[p]? = some true then (((bs.take p).count true : Nat) : Int) else -1 := by
  have h1 := rk_at h
  have h2 := ranks_get bs bs.length (Nat.le_refl _) p h
  rw [List.take_length] at h2
  rw [h1] at h2
  exact Option.some.inj h2
theorem count_mono (bs : List Bool) {a b : Nat} (h : a ≤ b) : (bs.take a).count true ≤ (bs.take b).count true := by
  obtain ⟨d, rfl⟩ : ∃ d, b = a + d := ⟨b - a, by omega⟩
  rw [List.take_add, List.count_append]
  omega
theorem count_step {bs : List Bool} {p : Nat} (h : bs[p]? = some true) : (bs.take (p + 1)).count true = (bs.take p).count true + 1 := by rw [count_take h]; simp
/-- The numbers after i of the states that stay. -/
def numL (n : Nat) (bs : List Bool) (i : Nat) : List Int := (List.range n).map fun p => if bs[p]? = some true ∧ (bs.take p).count true < i then (((bs.take p).count true : Nat) : Int) else -1
theorem numL_at {n : Nat} {bs : List Bool} {i p : Nat} (h : p < n) : (numL n bs i)[p]? = some (if bs[p]? = some true ∧ (bs.take p).count true < i then (((bs.take p).count true : Nat) : Int) else -1) := by
  unfold numL
  rw [List.getElem?_map, List.getElem?_range h]
  rfl
theorem numL_len (n : Nat) (bs : List Bool) (i : Nat) : (numL n bs i).length = n := by simp [numL]
theorem numL_zero (n : Nat) (bs : List Bool) : numL n bs 0 = List.replicate n (-1) := by
  apply List.ext_getElem?
  intro p
  by_cases h : p < n
  · rw [numL_at h, List.getElem?_replicate, if_pos h, if_neg (by omega)]
  · rw [List.getElem?_eq_none (by rw [numL_len]; omega), List.getElem?_eq_none (by simp; omega)]
theorem one_count {bs : List Bool} {p q : Nat} (hp : bs[p]? = some true) (hq : bs[q]? = some true) (h : (bs.take p).count true = (bs.take q).count true) : p = q := by
  rcases Nat.lt_trichotomy p q with h1 | h1 | h1
  · have := count_step hp; have := count_mono bs (show p + 1 ≤ q by omega); omega
  · exact h1
  · have := count_step hq; have := count_mono bs (show q + 1 ≤ p by omega); omega
theorem numL_set {n : Nat} {bs : List Bool} {i p : Nat} (hp : bs[p]? = some true) (hc : (bs.take p).count true = i) (hn : bs.length = n) : (numL n bs i).set p (i : Int) = numL n bs (i + 1) := by
  have hpn : p < n := by rw [← hn]; exact (List.getElem?_eq_some_iff.1 hp).1
  apply List.ext_getElem?
  intro q
  rw [List.getElem?_set]
  by_cases hq : q < n
  · rw [numL_at hq, numL_at hq]
    by_cases e : p = q
    · subst e
      rw [if_pos rfl, if_pos (by rw [numL_len]; exact hpn), if_pos ⟨hp, by omega⟩, hc]
    · rw [if_neg e]
      congr 1
      by_cases h1 : bs[q]? = some true ∧ (bs.take q).count true < i
      · rw [if_pos h1, if_pos ⟨h1.1, by omega⟩]
      · rw [if_neg h1, if_neg]
        rintro ⟨h2, h3⟩
        have h4 : ¬ (bs.take q).count true < i := fun h => h1 ⟨h2, h⟩
        exact e (one_count hp h2 (by omega))
  · rw [List.getElem?_eq_none (by rw [numL_len]; omega), List.getElem?_eq_none (by rw [numL_len]; omega)]
    split
    · rename_i e; subst e; omega
    · rfl
theorem numL_full {n : Nat} {bs : List Bool} (hn : bs.length = n) : numL n bs (bs.count true) = ranks bs := by
  apply List.ext_getElem?
  intro p
  by_cases h : p < n
  · have h2 := ranks_get bs bs.length (Nat.le_refl _) p (by omega)
    rw [List.take_length] at h2
    rw [numL_at h, h2]
    congr 1
    by_cases h1 : bs[p]? = some true
    · have h3 := count_step h1
      have h4 := count_mono bs (show p + 1 ≤ bs.length by omega)
      rw [List.take_length] at h4
      rw [if_pos ⟨h1, by omega⟩, if_pos h1]
    · rw [if_neg h1, if_neg (fun h => h1 h.1)]
  · rw [List.getElem?_eq_none (by rw [numL_len]; omega), List.getElem?_eq_none (by rw [ranks_len]; omega)]
theorem cutE_app (bs : List Bool) (a b : List Ed) : cutE bs (a ++ b) = cutE bs a ++ cutE bs b := by
  unfold cutE
  rw [List.filter_append, List.map_append]
/-- The edges of a state that stays. -/
def row1 (bs : List Bool) (p : Nat) (zs : List BSteps.El) : List Ed := zs.map fun x => (rk bs (p : Int), x.1, rk bs x.2)
theorem cutE_es1 (bs : List Bool) (p : Nat) (zs : List BSteps.El) : cutE bs (es1 (p : Int) zs) = if bs[p]? = some true then row1 bs p zs else [] := by
  unfold cutE es1 row1
  by_cases h : bs[p]? = some true
  · rw [if_pos h, List.filter_eq_self.2 (fun e he => ?_), List.map_map]
    · rfl
    · obtain ⟨x, _, rfl⟩ := List.mem_map.1 he
      simp [h]
  · rw [if_neg h, List.filter_eq_nil_iff.2 (fun e he => ?_)]
    · rfl
    · obtain ⟨x, _, rfl⟩ := List.mem_map.1 he
      cases hb : bs[p]? with
      | none => simp [hb]
      | some b => cases b
                  · simp [hb]
                  · exact absurd hb h
/-- The edges of the states ahead of p that stay. -/
def upE (bs : List Bool) (l : List Ed) (p : Nat) : List Ed := cutE bs (l.take (cnt l (p : Int)))
theorem upE_step {bs : List Bool} {l : List Ed} (h : Rows l) (p : Nat) : upE bs l (p + 1) = upE bs l p ++ if bs[p]? = some true then row1 bs p (steps l p) else [] := by
  unfold upE
  rw [show (((p + 1 : Nat) : Int)) = (p : Int) + 1 by omega, ← take_row h (p : Int), cutE_app, cutE_es1]
theorem upE_skip {bs : List Bool} {l : List Ed} (h : Rows l) {a : Nat} : ∀ b, a ≤ b → b ≤ bs.length → (bs.take a).count true = (bs.take b).count true → upE bs l a = upE bs l b := by
  intro b
  induction b with
  | zero => intro h1 _ _; rw [show a = 0 by omega]
  | succ b ih =>
    intro h1 h2 h3
    by_cases e : a = b + 1
    · rw [e]
    · have h4 := count_mono bs (show a ≤ b by omega)
      have h5 := count_mono bs (show b ≤ b + 1 by omega)
      rw [upE_step h b, if_neg (fun hb => by have := count_step hb; omega), List.append_nil]
      exact ih (by omega) (by omega) (by omega)
theorem row1_snoc {bs : List Bool} {p : Nat} {zs : List BSteps.El} {k : Nat} {x : BSteps.El} (h : zs[k]? = some x) : row1 bs p (zs.take (k + 1)) = row1 bs p (zs.take k) ++ [(rk bs (p : Int), x.1, rk bs x.2)] := by
  rw [take_succ_of h]
  simp [row1]
theorem row1_len (bs : List Bool) (p : Nat) (zs : List BSteps.El) : (row1 bs p zs).length = zs.length := by simp [row1]
theorem upE_len (bs : List Bool) (l : List Ed) (p : Nat) : (upE bs l p).length ≤ l.length := by
  unfold upE
  have h1 := cutE_len bs (l.take (cnt l (p : Int)))
  have h2 := List.length_take_le (cnt l (p : Int)) l
  have h3 := cnt_le l (p : Int)
  omega
end Sy
end Go.Proofs.YtgnfommndoodmaaGreatDoor
/- What stands in memory while the document's Cut works. -/
namespace Go.Proofs.YtgnfommndoodmaaGreatDoor
open Go.RowKit Go.Maps
/-- The argument's box, the result's, the marks, the numbers. -/
structure CutA (w wr : World) (n k s : Int) (v : Value) (gi ga : Nat) (bs : List Bool) (xs : List Value) : Prop where
  box : wr.heap[w.heap.size]? = some (.cells #[.int .i64 n, .int .i64 k, .int .i64 s, v] 24 (0, 0))
  res : wr.heap[w.heap.size + 1]? = some (.cells #[.int .i64 0, .int .i64 0, .int .i64 0, .slice none 0 0] 24 (0, 0))
  inn : Arr 4 w wr gi (bC bs)
  nums : Arr 3 w wr ga xs
theorem CutA.below {w wr w' : World} {n k s : Int} {v : Value} {gi ga : Nat} {bs : List Bool} {xs : List Value} (h : CutA w wr n k s v gi ga bs xs) (hb : Below wr.heap.size wr w') : CutA w w' n k s v gi ga bs xs :=
  ⟨(hb.block _ (t_lt h.box)).trans h.box, (hb.block _ (t_lt h.res)).trans h.res, h.inn.below hb, h.nums.below hb⟩
theorem CutA.ne {w wr : World} {n k s : Int} {v : Value} {gi ga : Nat} {bs : List Bool} {xs : List Value} (h : CutA w wr n k s v gi ga bs xs) : w.heap.size ≠ ga ∧ w.heap.size + 1 ≠ ga ∧ gi ≠ ga := by
  obtain ⟨c1, h1, _⟩ := h.inn.ids
  obtain ⟨c2, h2, _⟩ := h.nums.ids
  have hB := h.box
  have hR := h.res
  refine ⟨fun e => ?_, fun e => ?_, fun e => ?_⟩
  · rw [e, h2] at hB; exact absurd hB (by simp)
  · rw [e, h2] at hR; exact absurd hR (by simp)
  · rw [e, h2] at h1; exact absurd h1 (by simp)
theorem CutA.set {w wr : World} {n k s : Int} {v : Value} {gi ga : Nat} {bs : List Bool} {xs : List Value} (h : CutA w wr n k s v gi ga bs xs) (i : Nat) (x : Value) : CutA w (wr.setCell ⟨ga, i, none⟩ x) n k s v gi ga bs (xs.set i x) := by
  obtain ⟨e1, e2, e3⟩ := h.ne
  exact ⟨(set_other _ _ _ _ _ e1).trans h.box, (set_other _ _ _ _ _ e2).trans h.res, h.inn.kept (Kept.setCell wr ga i x) fun b hb => ⟨by rw [hb]; exact h.nums.gu, by rw [hb]; exact fun e => e3 e.symm⟩, h.nums.set i x⟩
/-- Beside it: the answer's box, its edges so far, the sorted edges. -/
structure CutT (w w6 wr : World) (n k s : Int) (v : Value) (gi ga bt : Nat) (bs : List Bool) (c : Nat) (st : Int) (uv ul : Value) (M l : List Sy.Ed) : Prop where
  a : CutA w wr n k s v gi ga bs (iC (Sy.ranks bs))
  tb : wr.heap[bt]? = some (.cells #[.int .i64 c, .int .i64 k, .int .i64 st, uv] 24 (0, 0))
  own : BEdges.Own wr w6.heap.size uv M
  lst : BEdges.Own wr w.heap.size ul l
  lo : ∀ b, ul.ownBlock = some b → b < w6.heap.size
  sz : w.heap.size ≤ w6.heap.size ∧ w6.heap.size ≤ wr.heap.size
  hi : w.heap.size + 1 < bt
theorem CutT.grow {w w6 wr w4 : World} {n k s : Int} {v : Value} {gi ga bt : Nat} {bs : List Bool} {c : Nat} {st : Int} {au : Option Addr} {N cu : Nat} {ul : Value} {M l : List Sy.Ed} {g4 k4 : Nat} (h : CutT w w6 wr n k s v gi ga bt bs c st (.slice au N cu) ul M l) (hN : N = M.length) (z : Sy.Ed)
    (hown : w4.ownsRow w6.heap.size 38 3 (.slice (some ⟨g4, 0, none⟩) (N + 1) k4) (N + 1) (BEdges.C M ++ [.int .i64 z.1, .int .i64 z.2.1, .int .i64 z.2.2])) (hk : Kept (fun b => (Value.slice au N cu).ownBlock = some b) wr w4) :
    CutT w w6 (w4.setCell ⟨bt, 3, none⟩ (.slice (some ⟨g4, 0, none⟩) (N + 1) k4)) n k s v gi ga bt bs c st (.slice (some ⟨g4, 0, none⟩) (N + 1) k4) ul (M ++ [z]) l := by
  obtain ⟨c1, h1, _⟩ := h.a.inn.ids
  obtain ⟨c2, h2, _⟩ := h.a.nums.ids
  have nu : ∀ b, (Value.slice au N cu).ownBlock = some b → w.heap.size ≤ b := fun b hb => Nat.le_trans h.sz.1 (h.own.lt b hb).1
  have tb4 := (hk.block _ (t_lt h.tb) (own_bk h.own h.tb (by decide))).trans h.tb
  have a4 : CutA w w4 n k s v gi ga bs (iC (Sy.ranks bs)) :=
    ⟨(hk.block _ (t_lt h.a.box) (own_bk h.own h.a.box (by decide))).trans h.a.box, (hk.block _ (t_lt h.a.res) (own_bk h.own h.a.res (by decide))).trans h.a.res,
      h.a.inn.kept hk fun b hb => ⟨nu b hb, fun e => own_bk h.own h1 (by decide) (by rw [← e]; exact hb)⟩, h.a.nums.kept hk fun b hb => ⟨nu b hb, fun e => own_bk h.own h2 (by decide) (by rw [← e]; exact hb)⟩⟩
  have l4 : BEdges.Own w4 w.heap.size ul l := own_up h.lst hk fun b hb e => by
    have := h.lo b hb
    have := (h.own.lt b e).1
    omega
  have o4 : BEdges.Own w4 w6.heap.size (.slice (some ⟨g4, 0, none⟩) (N + 1) k4) (M ++ [z]) := by
    unfold BEdges.Own
    have e1 : (M ++ [z]).length = N + 1 := by rw [List.length_append, hN]; rfl
    rw [e1, BEdges.C_app]
    exact hown
  have hs := Kept.setCell w4 bt 3 (.slice (some ⟨g4, 0, none⟩) (N + 1) k4)
  obtain ⟨d1, g1, _⟩ := a4.inn.ids
  obtain ⟨d2, g2, _⟩ := a4.nums.ids
  have hbi : bt ≠ gi := fun e => by rw [e, g1] at tb4; exact absurd tb4 (by simp)
  have hba : bt ≠ ga := fun e => by rw [e, g2] at tb4; exact absurd tb4 (by simp)
  have hh := h.hi
  have sz4 := Nat.le_trans h.sz.2 hk.size
  refine ⟨⟨(set_other _ _ _ _ _ (by omega)).trans a4.box, (set_other _ _ _ _ _ (by omega)).trans a4.res, a4.inn.kept hs fun b hb => ⟨by omega, by rw [hb]; exact hbi⟩, a4.nums.kept hs fun b hb => ⟨by omega, by rw [hb]; exact hba⟩⟩, ?_, own_up o4 hs fun b hb e => own_bk o4 tb4 (by decide) (by rw [← e]; exact hb), own_up l4 hs fun b hb e => own_bk l4 tb4 (by decide) (by rw [← e]; exact hb), h.lo, ⟨h.sz.1, Nat.le_trans sz4 hs.size⟩, h.hi⟩
  rw [heap_setCell_same w4 bt 3 _ _ _ tb4]
  rfl
/-- The start's number. -/
def Sy.startOf (n : Nat) (bs : List Bool) (s : Int) : Int := if 0 < n then Sy.rk bs s else 0
theorem cut_fin {w w6 wr : World} {n k s : Int} {v : Value} {gi ga bt i : Nat} {bs : List Bool} {c : Nat} {st : Int} {uv ul : Value} {M l : List Sy.Ed} (h : CutT w w6 wr n k s v gi ga bt bs c st uv ul M l) (hi : bs.length = i) (hsm : i ≤ 1000000) {wf : World} (hwf : wf = ((((wr.setCell ⟨w.heap.size + 1, 0, none⟩ (.int .i64 c)).setCell ⟨w.heap.size + 1, 1, none⟩ (.int .i64 k)).setCell ⟨w.heap.size + 1, 2, none⟩ (.int .i64 st)).setCell ⟨w.heap.size + 1, 3, none⟩ uv)) :
    Below w.heap.size w wf ∧ wf.heap[w.heap.size + 1]? = some (.cells #[.int .i64 c, .int .i64 k, .int .i64 st, uv] 24 (0, 0)) ∧ BEdges.Own wf w.heap.size uv M ∧ OwnI wf w.heap.size (.slice (some ⟨ga, 0, none⟩) i i) (Sy.ranks bs) := by
  subst hwf
  have hrow : wr.ownsRow w.heap.size 3 1 (.slice (some ⟨ga, 0, none⟩) i i) i (iC (Sy.ranks bs)) := by
    have h1 := h.a.nums.own (by rw [iC_length, Sy.ranks_len, hi]; unfold maxLen; omega)
    rw [iC_length, Sy.ranks_len, hi, Nat.mul_one] at h1
    exact h1
  have up : ∀ {e : TypeId} {z : Nat} {x : Value} {N : Nat} {ys : List Value}, e ≠ 24 → wr.ownsRow w.heap.size e z x N ys → ((((wr.setCell ⟨w.heap.size + 1, 0, none⟩ (.int .i64 c)).setCell ⟨w.heap.size + 1, 1, none⟩ (.int .i64 k)).setCell ⟨w.heap.size + 1, 2, none⟩ (.int .i64 st)).setCell ⟨w.heap.size + 1, 3, none⟩ uv).ownsRow w.heap.size e z x N ys := fun he hx => trow_at hx fun b hb => by
    have h2 := own_bk hx h.a.res he
    have e1 : b ≠ w.heap.size + 1 := fun e => h2 (by rw [← e]; exact hb)
    rw [set_other _ _ _ _ _ e1, set_other _ _ _ _ _ e1, set_other _ _ _ _ _ e1, set_other _ _ _ _ _ e1]
  refine ⟨four_below h.a.inn.bl (by omega) _ _ _ _, four_set h.a.res, up (by decide) (row_base h.own h.sz.1), ?_⟩
  unfold OwnI
  rw [Sy.ranks_len, hi]
  exact up (by decide) hrow
end Go.Proofs.YtgnfommndoodmaaGreatDoor
/- Contract of slices.Repeat of one number. -/
namespace Go.Proofs.YtgnfommndoodmaaGreatDoor
open Go.RowKit Go.Maps
attribute [local go_sem ↓] Go.wp_at_zero Go.wp_at_succ
/-- So many copies, and noughts behind them. -/
def repV (n c : Nat) : List Value := List.replicate c (.int .i64 (-1)) ++ List.replicate (n - c) (.int .i64 0)
theorem repV_len {n c : Nat} (h : c ≤ n) : (repV n c).length = n := by simp [repV]; omega
theorem repV_at {n c j : Nat} (h : j < c) : (repV n c)[j]? = some (.int .i64 (-1)) := by
  unfold repV
  rw [List.getElem?_append_left (by simpa using h), List.getElem?_replicate, if_pos h]
theorem arr_setCells {ty : TypeId} {w : World} {g : Nat} : ∀ (zs vs : List Value) (o : Nat) (wr : World), Arr ty w wr g vs → Arr ty w (wr.setCells g o zs) g ((List.range zs.length).foldl (fun l j => l.set (o + j) ((zs[j]?).getD (.int .i64 0))) vs) := by
  intro zs
  induction zs with
  | nil => intro vs o wr h; exact h
  | cons z r ih =>
    intro vs o wr h
    have h1 := ih (vs.set o z) (o + 1) (wr.setCell ⟨g, o, none⟩ z) (h.set o z)
    show Arr ty w ((wr.setCell ⟨g, o, none⟩ z).setCells g (o + 1) r) g _
    rw [List.length_cons, List.range_succ_eq_map, List.foldl_cons, List.foldl_map]
    have e : (fun (l : List Value) (j : Nat) => l.set (o + (j + 1)) (((z :: r)[j + 1]?).getD (.int .i64 0))) = fun l j => l.set (o + 1 + j) ((r[j]?).getD (.int .i64 0)) := by
      funext l j
      rw [show o + (j + 1) = o + 1 + j by omega]
      rfl
    rw [show (fun (l : List Value) (j : Nat) => l.set (o + j.succ) (((z :: r)[j.succ]?).getD (.int .i64 0))) = _ from e]
    simpa using h1
theorem repV_fill (n c : Nat) : ∀ d, c + d ≤ n → (List.range d).foldl (fun l j => l.set (c + j) (((List.replicate d (Value.int .i64 (-1)))[j]?).getD (.int .i64 0))) (repV n c) = repV n (c + d) := by
  intro d hd
  suffices h : ∀ q, q ≤ d → (List.range q).foldl (fun l j => l.set (c + j) (((List.replicate d (Value.int .i64 (-1)))[j]?).getD (.int .i64 0))) (repV n c) = repV n (c + q) from h d (Nat.le_refl _)
  intro q
  induction q with
  | zero => intro _; rfl
  | succ q ih =>
    intro hq
    rw [List.range_succ, List.foldl_append, ih (by omega), List.foldl_cons, List.foldl_nil, List.getElem?_replicate, if_pos (by omega)]
    apply List.ext_getElem?
    intro j
    rw [List.getElem?_set]
    unfold repV
    simp only [Option.getD_some]
    by_cases hj : c + q = j
    · subst hj
      rw [if_pos rfl, if_pos (by simp; omega), List.getElem?_append_left (by simp), List.getElem?_replicate, if_pos (by omega)]
    · rw [if_neg hj]
      by_cases h1 : j < c + q
      · rw [List.getElem?_append_left (by simpa using h1), List.getElem?_append_left (by simp; omega), List.getElem?_replicate, List.getElem?_replicate, if_pos h1, if_pos (by omega)]
      · rw [List.getElem?_append_right (by simp; omega), List.getElem?_append_right (by simp; omega), List.getElem?_replicate, List.getElem?_replicate]
        simp only [List.length_replicate]
        by_cases h2 : j < n
        · rw [if_pos (by omega), if_pos (by omega)]
        · rw [if_neg (by omega), if_neg (by omega)]
theorem Arr.rep {w wr : World} {g n c : Nat} (h : Arr 3 w wr g (repV n c)) (d : Nat) (hd : c + d ≤ n) : Arr 3 w (wr.setCells g c (List.replicate d (.int .i64 (-1)))) g (repV n (c + d)) := by
  have h1 := arr_setCells (List.replicate d (.int .i64 (-1))) _ c wr h
  rw [List.length_replicate, repV_fill n c d hd] at h1
  exact h1
theorem Tryz.inI : (Tryz.prog.info? 3).map (·.size) = some 1 := by kernel_rfl
set_option maxRecDepth 100000 in
set_option maxHeartbeats 4000000 in
theorem repeat_any (g0 n : Nat) (w : World) (hn : n ≤ 1000000) (h0 : w.cell? ⟨g0, 0, none⟩ = some (.int .i64 (-1))) :
    Calls Tryz.prog 48 #[.slice (some ⟨g0, 0, none⟩) 1 1, .int .i64 n] w fun r w' => ∃ g, r = .returned (.slice (some ⟨g, 0, none⟩) n n) ∧ Arr 3 w w' g (List.replicate n (.int .i64 (-1))) := by
  have hMul : ∀ W, Calls Tryz.prog 108 #[.int .u64 1, .int .u64 n] W fun e w' => e = .returned (.tuple #[.int .u64 0, .int .u64 n]) ∧ w' = W := fun W => by
    have h := Tryz.bits_Mul 1 n (by omega) (by omega) W
    have e1 : 1 * n / 18446744073709551616 = 0 := by omega
    have e2 : 1 * n % 18446744073709551616 = n := by omega
    rw [e1, e2] at h
    exact h
  have hmk := makeI n hn w
  obtain ⟨w1, hw1⟩ : ∃ w1, w1 = w.alloc (.cells (madeV (.int .i64 0) n) 3) := ⟨_, rfl⟩
  have hA1 := arr_new 3 (.int .i64 0) rfl n w
  rw [← hw1] at hmk hA1
  have hA1 : Arr 3 w w1 w.heap.size (repV n 0) := by unfold repV; simpa using hA1
  have h1 := cell_up h0 hA1.bl
  obtain ⟨w2, hc2, hA2⟩ : ∃ w2, (∀ ty, (Builtin.copy_ #[44, 44] ty #[.slice (some ⟨w.heap.size, 0, none⟩) n n, .slice (some ⟨g0, 0, none⟩) 1 1]).run Tryz.prog w1 = .ok (.int .i64 ((min n 1 : Nat) : Int)) w2) ∧ Arr 3 w w2 w.heap.size (repV n (min n 1)) := by
    by_cases hz : n = 0
    · subst hz
      exact ⟨w1, fun ty => run_copy_none (P := Tryz.prog) w1 _ _ ty 3 _ _ 0 0 1 1 Tryz.underlying44 Tryz.inI (by decide), hA1⟩
    · have e1 : min n 1 = 1 := by omega
      rw [e1]
      refine ⟨w1.setCells w.heap.size 0 (List.replicate 1 (.int .i64 (-1))), fun ty => ?_, by have := hA1.rep 1 (by omega); simpa using this⟩
      have h := run_copy_cells (P := Tryz.prog) w1 44 44 ty 3 w.heap.size 0 n n ⟨g0, 0, none⟩ 1 1 (List.replicate 1 (.int .i64 (-1))) Tryz.underlying44 Tryz.inI (by show 1 = Nat.min 1 n; exact (Nat.min_eq_left (by omega)).symm) (fun j x hx => by
        have hj : j = 0 := by have := (List.getElem?_eq_some_iff.1 hx).1; simpa using this
        subst hj
        have hx2 : x = .int .i64 (-1) := by simpa using hx.symm
        rw [hx2]; exact h1) (fun j hj => by
        have hj0 : j = 0 := by simpa using hj
        subst hj0
        obtain ⟨x, hx⟩ : ∃ x, (repV n 0)[0]? = some x := ⟨_, List.getElem?_eq_getElem (by rw [repV_len (Nat.zero_le _)]; omega)⟩
        rw [hA1.cell hx]; rfl) (fun j _ => hA1.free _) (fun v hv => by rw [List.eq_of_mem_replicate hv]; rfl)
      exact h
  have u1 : IntKind.u64.wrap (n : Int) = (n : Int) := by rw [IntKind.wrap_u64]; omega
  have u2 : IntKind.i64.wrap (n : Int) = (n : Int) := by rw [IntKind.wrap_i64]; omega
  have q1 : ¬ (n : Int) < 0 := by omega
  have q2 : ¬ (9223372036854775807 : Int) < (n : Int) := by omega
  have HM : Hid _ := And.intro hMul (And.intro hA2 hw1)
  clear hMul hA1 hA2 hw1 h0 h1
  go_enter Tryz.func48, Tryz.ntmps48
  go_wp2_with (go_at_call 108; refine Calls.mono (HM.out.1 _) ?_; rintro r w9 ⟨rfl, hw9⟩; obtain rfl := hw9.symm; clear hw9)
  go_loopg [8] (n - min n 1) (fun q cv wr => ∃ c : Nat, q = n - c ∧ c ≤ n ∧ (n = 0 ∨ 0 < c) ∧ cv = .int .i64 c ∧ Arr 3 w wr w.heap.size (repV n c))
  case atStart => exact ⟨min n 1, rfl, Nat.min_le_left _ _, by omega, rfl, HM.out.2.1⟩
  case round =>
    obtain ⟨c, rfl, hcn, hpos, rfl, hA⟩ := hrel
    clear hmk hc2
    by_cases hlt : c < n
    · obtain ⟨d, hd⟩ : ∃ d, d = min c (n - c) := ⟨_, rfl⟩
      have hd1 : d ≤ n - c := by omega
      have hd2 : 0 < d := by omega
      have hd3 : d ≤ c := by omega
      have hAd : Arr 3 w wr.drew w.heap.size (repV n c) := hA.below (Below.refl _ _).drew
      have hcp : ∀ ty, (Builtin.copy_ #[44, 44] ty #[.slice (some ⟨w.heap.size, c, none⟩) (n - c) (n - c), .slice (some ⟨w.heap.size, 0, none⟩) c n]).run Tryz.prog wr.drew = .ok (.int .i64 ((d : Nat) : Int)) (wr.drew.setCells w.heap.size c (List.replicate d (.int .i64 (-1)))) := fun ty => by
        have h := run_copy_cells (P := Tryz.prog) wr.drew 44 44 ty 3 w.heap.size c (n - c) (n - c) ⟨w.heap.size, 0, none⟩ c n (List.replicate d (.int .i64 (-1))) Tryz.underlying44 Tryz.inI (by rw [List.length_replicate, hd]) (fun j x hx => by
          have hj : j < d := by have := (List.getElem?_eq_some_iff.1 hx).1; simpa using this
          have hx2 : x = .int .i64 (-1) := by rw [List.getElem?_replicate, if_pos hj] at hx; exact (Option.some.inj hx).symm
          rw [hx2, addz]
          exact hAd.cell (repV_at (by omega))) (fun j hj => by
          rw [List.length_replicate] at hj
          obtain ⟨x, hx⟩ : ∃ x, (repV n c)[c + j]? = some x := ⟨_, List.getElem?_eq_getElem (by rw [repV_len hcn]; omega)⟩
          rw [hAd.cell hx]; rfl) (fun j _ => hAd.free _) (fun v hv => by rw [List.eq_of_mem_replicate hv]; rfl)
        rw [List.length_replicate] at h
        exact h
      have hA3 := hAd.rep d (by omega)
      have p0 : (0 : Int) ≤ (c : Int) := by omega
      have p1 : (c : Int) < (n : Int) := by omega
      have p2 : (c : Int) ≤ (n : Int) := by omega
      have p3 : ¬ n = c := by omega
      have H3 : Hid _ := hA3
      clear hA hAd hA3 hd
      go_wp2_with fail
      go_region
      all_goals go_wp2_with fail
      all_goals
        go_roundg (n - (c + d))
        case measure => omega
        case rel => exact ⟨c + d, rfl, by omega, by omega, by go_num, by first | exact H3.out | exact H3.out.below (Below.refl _ _).drew⟩
    · obtain rfl : c = n := by omega
      have p1 : ¬ (c : Int) < (c : Int) := by omega
      have H3 : Hid _ := hA
      clear hA
      go_wp2_with fail
      go_ret
      refine ⟨_, rfl, ?_⟩
      have h9 := H3.out
      unfold repV at h9
      simpa using h9
end Go.Proofs.YtgnfommndoodmaaGreatDoor
