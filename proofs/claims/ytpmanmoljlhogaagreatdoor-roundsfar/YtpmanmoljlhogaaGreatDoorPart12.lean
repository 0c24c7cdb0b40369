/- Texts of this claim, joined: RoAll, RoBad, RoRound, RoRank, RoRank2, RoFar0. -/
import Derived.Test.YtpmanmoljlhogaaGreatDoorPart11
import Derived.Maps.AppendAt
import Derived.Sort.QuietThIn
import Derived.Sort.BigQuietIn
import Derived.Test.YtpmanmoljlhogaaGreatDoorErCode
/- Contract of the program's All: the classes of all rounds. -/
namespace Go.Proofs.YtpmanmoljlhogaaGreatDoor
open Go.RowKit Go.Maps Go.Shelf
attribute [local go_sem] Oper.semAt_some
/-- The rounds' classes in memory, one behind the other. -/
structure RwAt (W : World) (B m : Nat) (out : Nat → List Ro.St) (pre : List Rd) : Prop where
  row : ∀ (j : Nat) (x : Rd), pre[j]? = some x → x.1 = j ∧ B ≤ x.2 ∧ ∃ cs : Array Value, W.heap[x.2]? = some (.cells cs 3 (0, 0)) ∧ cs.toList = natC (Ro.rnd m out j)
  up : pre.Pairwise fun y x => y.2 < x.2
theorem RwAt.nil (W : World) (B m : Nat) (out : Nat → List Ro.St) : RwAt W B m out [] := ⟨fun j x h => by simp at h, .nil⟩
theorem RwAt.keep {W W' : World} {B m : Nat} {out : Nat → List Ro.St} {pre : List Rd} (h : RwAt W B m out pre) (hk : ∀ (b : Nat) (cs : Array Value), B ≤ b → W.heap[b]? = some (.cells cs 3 (0, 0)) → W'.heap[b]? = some (.cells cs 3 (0, 0))) : RwAt W' B m out pre :=
  ⟨fun j x hx => by obtain ⟨h1, h2, cs, h3, h4⟩ := h.row j x hx; exact ⟨h1, h2, cs, hk _ _ h2 h3, h4⟩, h.up⟩
theorem RwAt.snoc {W : World} {B m : Nat} {out : Nat → List Ro.St} {pre : List Rd} {x : Rd} (h : RwAt W B m out pre) (hG : GoodR B m out pre x W) : RwAt W B m out (pre ++ [x]) := by
  refine ⟨fun j y hy => ?_, ?_⟩
  · rcases Nat.lt_or_ge j pre.length with hj | hj
    · rw [List.getElem?_append_left hj] at hy
      exact h.row j y hy
    · rw [List.getElem?_append_right hj] at hy
      have hj0 : j - pre.length = 0 := by have := (List.getElem?_eq_some_iff.1 hy).1; simp at this; omega
      rw [hj0] at hy
      simp at hy
      subst hy
      have e : j = pre.length := by omega
      obtain ⟨cs, h3, h4⟩ := hG.blk
      exact ⟨by rw [hG.num, e], hG.gu, cs, h3, by rw [e, ← hG.num]; exact h4⟩
  · exact List.pairwise_append.2 ⟨h.up, List.pairwise_singleton _ _, fun y hy z hz => by rw [List.mem_singleton.1 hz]; exact hG.up y hy⟩
theorem rw_own (B m : Nat) (out : Nat → List Ro.St) : Own (fun pre W => RwAt W B m out pre) := fun s W W' row hs hg hr => hs.keep fun b cs _ hc => by
  have h1 : some b ≠ row := fun e => by
    obtain ⟨o, ho, hoc⟩ := hr b e.symm
    rw [hc] at ho
    cases ho
    cases hoc
  exact (hg.block b (t_lt hc) h1).trans hc
theorem good_put {n1 m : Nat} {out : Nat → List Ro.St} (pre : List Rd) (x : Rd) (W : World) (l : Nat) (o o' : Obj) (hl : W.heap[l]? = some o) (ho : o.isCells = false) (h : GoodR n1 m out pre x W) : GoodR n1 m out pre x (W.putObj l o') := by
  obtain ⟨cs, h3, h4⟩ := h.blk
  have hne : x.2 ≠ l := fun e => by rw [← e, h3] at hl; cases hl; cases ho
  exact ⟨h.num, h.small, h.up, h.gu, cs, (World.putObj_heap_other hne).trans h3, h4⟩
theorem kpr_put {n0 n1 : Nat} {w : World} (hn0 : n0 ≤ w.heap.size) (W : World) (l : Nat) (o o' : Obj) (hw : w.heap.size ≤ l) (hl : W.heap[l]? = some o) (ho : o.isCells = false) (hk : o.isWalk = false) : KpR n0 n1 W (W.putObj l o') :=
  ⟨belowK_b hn0 W l o o' hw hl ho hk, fun b cs _ hc => by
    have hne : b ≠ l := fun e => by rw [← e, hc] at hl; cases hl; cases ho
    exact (World.putObj_heap_other hne).trans hc⟩
theorem RwAt.base {W : World} {B B' m : Nat} {out : Nat → List Ro.St} {pre : List Rd} (h : RwAt W B m out pre) (hb : B' ≤ B) : RwAt W B' m out pre := ⟨fun j x hx => by obtain ⟨h1, h2, h3⟩ := h.row j x hx; exact ⟨h1, by omega, h3⟩, h.up⟩
theorem app_ints {W w1 : World} {n B : Nat} {t e : TypeId} {v v' : Value} {k : Nat} {xs : List Value} {tmp : Obj} (hv : Boxed W B t v) (ht : t ≠ 3) (hrow : W.ownsRow n e 1 v k xs) (he : e ≠ 3) (hgrow : (W.alloc tmp).grownBy w1 v.ownBlock) (b : Nat) (cs : Array Value) (hc : W.heap[b]? = some (.cells cs 3 (0, 0))) : (w1.setCell ⟨B, 0, none⟩ v').heap[b]? = some (.cells cs 3 (0, 0)) := by
  have hne : b ≠ B := fun e9 => by
    have h1 : W.heap[B]? = some (.cells #[v] t (0, 0)) := hv
    rw [← e9, hc] at h1
    injection h1 with h1
    injection h1 with _ h2
    exact ht h2.symm
  rw [setCell_other _ hne]
  exact ((grown_alloc hgrow).block b (t_lt hc) fun hb => own_bk hrow hc he hb).trans hc
/-- A list of lists that was answered. -/
def hdr (m : Nat) (x : Rd) : Value := .slice (some ⟨x.2, 0, none⟩) m m
def OwnRs (W : World) (B m : Nat) (v : Value) (xs : List Rd) : Prop := W.ownsRow B 57 1 v xs.length (xs.map (hdr m))
theorem Tryz.infoRI : (Tryz.prog.info? 57).map (fun i => (i.zero, i.size, i.bytes)) = some (some (.slice none 0 0), 1, 24) := by kernel_rfl
theorem steps_fit {m : Nat} {k s : Int} {es : List Sy.Ed} (hq : Sy.right m k s es = true) : Fit m (outOf m es) := fun i hi => by
  have hp := right_parts hq
  have h1 := rowOf_len m (Sy.nf es) i
  have h2 := Sy.nf_len es
  refine ⟨by unfold outOf; omega, fun z hz => ?_⟩
  unfold outOf Sy.rowOf at hz
  rw [if_pos ⟨by omega, by omega⟩] at hz
  unfold Sy.steps at hz
  obtain ⟨e, he, rfl⟩ := List.mem_map.1 hz
  have h3 := hp.2.2.2.2.2 e ((Sy.nf_mem es e).1 (List.mem_filter.1 he).1)
  show (0 ≤ e.2.1 ∧ e.2.1 ≤ 300) ∧ 0 ≤ e.2.2 ∧ e.2.2 < (m : Int)
  omega
set_option maxRecDepth 100000 in
set_option maxHeartbeats 4000000 in
theorem all_ok (hS : SortOk 1000000) (m : Nat) (k s : Int) (v : Value) (es : List Sy.Ed) (a : Addr) (w : World) (hA : Sent w 14 a) (hP : Pow w) (hv : BEdges.Has w v es) (hm : es.length ≤ 100000) (hq : Sy.right m k s es = true) :
    Calls Tryz.prog 12 #[sysV m k s v] w fun r w' => ∃ u xs R, r = .returned (.tuple #[u, .nilIface]) ∧ Ro.Last m (outOf m es) R ∧ xs.length = R + 1 ∧ OwnRs w' w.heap.size m u xs ∧ RwAt w' w.heap.size m (outOf m es) xs ∧ Below w.heap.size w w' := by
  obtain ⟨i0, hi0, hz0, hz1, hz2⟩ := info_parts Tryz.infoRI
  have hv0 := hv
  obtain ⟨ao, cap, rfl, _⟩ := hv0
  obtain ⟨L, hL⟩ : ∃ L, L = es.length := ⟨_, rfl⟩
  obtain ⟨w1, hw1⟩ : ∃ w1, w1 = w.alloc (.cells #[.int .i64 m, .int .i64 k, .int .i64 s, .slice ao L cap] 24) := ⟨_, rfl⟩
  have hb1 : Below w.heap.size w w1 := by rw [hw1]; exact (Below.refl _ _).alloc (Nat.le_refl _) _
  have hg1 : w1.heap[w.heap.size]? = some (.cells #[.int .i64 m, .int .i64 k, .int .i64 s, .slice ao L cap] 24 (0, 0)) := by rw [hw1]; exact heap_alloc_new w _
  have hN := roundsOf_ok hS m k s _ es a w1 (hA.below hb1) (hv.below hb1) hm hq
  rw [← hL] at hN ⊢
  unfold sysV at hN ⊢
  have hm1 : m ≤ 1000 := by have := (right_parts hq).1; omega
  have hF := steps_fit hq
  obtain ⟨out, hout⟩ : ∃ out, out = outOf m es := ⟨_, rfl⟩
  have H1 : Hid _ := And.intro hw1 (And.intro hb1 (And.intro hN (And.intro hP (And.intro hF hout))))
  obtain ⟨x0, x1, x2, x3⟩ := four_cells hg1
  clear hA hv hm hq hw1 hb1 hg1 hN hL hP hF hout
  refine (callsIn_wide (n := 3)).1 ?_
  refine callsIn_of_wp_marks Tryz.func12 rfl trivial ?_ rfl
  simp only [Tryz.ntmps12, List.size_toArray, List.length_cons, List.length_nil, Nat.reduceAdd, Nat.reduceSub, Array.replicate_succ, Array.replicate_zero, List.push_toArray, List.append_toArray, List.nil_append, List.cons_append]
  gi_upto_region 1 with fail
  rw [← H1.out.1]
  gi_wp2
  refine ⟨trivial, (callsIn_wide.2 H1.out.2.2.1).mono ?_⟩
  rintro r w2 ⟨b1, b2, gs, rfl, hO2⟩
  unfold roundsV
  have hP2 := H1.out.2.2.2.1.below (bel6 hO2.bl H1.out.2.1)
  have hRd := Reads.of hO2 hP2
  have hb02 := bel6 hO2.bl H1.out.2.1
  have H2 : Hid _ := And.intro hRd hb02
  clear hO2 hP2 hRd hb02 x0 x1 x2 x3
  gi_wp2
  obtain ⟨w3, hw3⟩ : ∃ w3, w3 = w2.alloc (.cells #[.slice none 0 0] 28) := ⟨_, rfl⟩
  have hz3 : w3.heap.size = w2.heap.size + 1 := by rw [hw3]; simp
  have hb3 : Below w2.heap.size w2 w3 := by rw [hw3]; exact (Below.refl _ _).alloc (Nat.le_refl _) _
  have hbx : Boxed w3 w2.heap.size 28 (.slice none 0 0) := by rw [hw3]; exact Boxed.new w2 28 (.slice none 0 0)
  rw [← hw3]
  have hF := H1.out.2.2.2.2.1
  have hR := H2.out.1
  rw [← H1.out.2.2.2.2.2] at hF hR
  refine loop_tells rfl (by omega) (gf := 97) (lb := #[.pointer (some ⟨b1, 0, none⟩), .pointer (some ⟨b2, 0, none⟩)]) rfl trivial (enters_of Tryz.func97 (by kernel_rfl) rfl)
    (rounds_tell 2 w2.heap.size b1 b2 gs m out w3 (by omega) hm1 hF (hR.on hb3)) (fun h k => h.trans k) (kpr_put (by omega)) (fun pre x W l o o' _ hl ho h => good_put pre x W l o o' hl ho h) (Below.refl _ _) (fun _ => rfl)
    (fun pre W => (∃ v, Boxed W w2.heap.size 28 v ∧ W.ownsRow w2.heap.size 57 1 v pre.length (pre.map (hdr m)) ∧ True) ∧ RwAt W w3.heap.size m out pre ∧ Below w2.heap.size w2 W)
    (fun _ _ _ => False)
    (OwnFrom.and (Own.from (holdsRow_own w2.heap.size w2.heap.size 28 57 1 (fun pre : List Rd => pre.length) (fun pre => pre.map (hdr m)) (fun _ _ => True)) _) (OwnFrom.and (Own.from (rw_own _ _ _) _) (ownFrom_below (Nat.le_refl _) (by omega))))
    (fun _ _ _ _ _ hs _ _ => hs)
    ⟨⟨_, hbx, World.ownsRow_nil _ _ _ _, trivial⟩, RwAt.nil _ _ _ _, hb3⟩
    (fun x => { tmps := #[(.agg #[.int .i64 m, .int .i64 k, .int .i64 s, .slice ao L cap]), .pointer (some ⟨w.heap.size, 0, none⟩), .slice none 0 0, .nilIface, (.func (.func 97) #[] #[.pointer (some ⟨b1, 0, none⟩), .pointer (some ⟨b2, 0, none⟩)]), .nilIface, .pointer (some ⟨w2.heap.size, 0, none⟩), undef, (.slice (some ⟨x.2, 0, none⟩) m m), .tuple #[(.func (.func 97) #[] #[.pointer (some ⟨b1, 0, none⟩), .pointer (some ⟨b2, 0, none⟩)]), .nilIface], (.agg #[.int .i64 m, .int .i64 k, .int .i64 s, .slice ao L cap]), .tuple #[(.func (.func 97) #[] #[.pointer (some ⟨b1, 0, none⟩), .pointer (some ⟨b2, 0, none⟩)]), .nilIface], (.func (.func 97) #[] #[.pointer (some ⟨b1, 0, none⟩), .pointer (some ⟨b2, 0, none⟩)]), .nilIface, .nilIface, .bool false, undef, undef, (.func (.func 97) #[] #[.pointer (some ⟨b1, 0, none⟩), .pointer (some ⟨b2, 0, none⟩)]), .int .i64 x.1, (.slice (some ⟨x.2, 0, none⟩) m m), undef, undef, undef, undef, undef], defers := [] }) ?assign ?body ?done ?stop
  case assign =>
    intro l x W K hK
    unfold rdV
    gi_wp2
    exact hK
  case body =>
    rintro l pre x W ⟨⟨v, hv, hrow, _⟩, hRw, hB⟩ hG
    have hc := hv.cell
    have hpl : pre.length ≤ 1000 := by have := hG.num; have := hG.small; omega
    have hml : pre.length + 1 ≤ maxLen := by unfold maxLen; omega
    have hby : (pre.length + 1) * 24 ≤ 140737488355328 := by omega
    have hle : w2.heap.size ≤ (W.alloc (.cells #[.slice (some ⟨x.2, 0, none⟩) m m] 57)).heap.size := by have := hB.size; simp; omega
    have HG : Hid _ := And.intro hRw hG
    clear hRw hG
    gi_wp2_with (gi_at_builtin; refine wpListIn_append_own _ rfl _ _ 28 rfl w2.heap.size 57 i0 (.slice none 0 0) 1 24 Tryz.underlying28 hi0 hz0 hz1 hz2 rfl (by decide) _ _ _ rfl (hrow.alloc _) ⟨W.heap.size, 0, none⟩ 1 1 [.slice (some ⟨x.2, 0, none⟩) m m] rfl rfl (cell_one_new _ _ _) (by simp [Value.oneCell']) hml hby hle ?_; intro v' w4 hown' hgrow _; obtain ⟨g', cap', rfl⟩ := ownsRow_succ hown'; obtain ⟨hv1, hv2, hr2, hk2, hb2⟩ := hv.appended (by decide) hrow hB.size (Nat.le_refl _) hown' hgrow; have hc1 := hv1.cell; have hf1 := hv1.frozen; have hii := app_ints (v' := .slice (some ⟨g', 0, none⟩) (pre.length + 1) cap') hv (by decide) hrow (by decide) hgrow)
    exact ⟨hk2.from _, ⟨hb2, fun b cs _ hc => hii b cs hc⟩, ⟨_, hv2, by simpa [hdr] using hr2, trivial⟩, (HG.out.1.snoc HG.out.2).keep fun b cs _ hc => hii b cs hc, hB.trans hb2⟩
  case done =>
    rintro D xs W hD ⟨R, hRl, hxl⟩ ⟨⟨v, hv, hrow, _⟩, hRw, hB⟩ hK
    have hc := hv.cell
    gi_wp2
    refine ⟨by simp, .inl ⟨_, _, rfl, run_takeDeferred hK, ?_⟩⟩
    refine ⟨_, results_tmp2 rfl _ _ _, v, xs, R, rfl, by rw [← H1.out.2.2.2.2.2]; exact hRl, hxl, ?_, ?_, ?_⟩
    · exact row_base (ownsRow_putObj hrow _ hK rfl) H2.out.2.size
    · rw [← H1.out.2.2.2.2.2]
      refine ((hRw.keep fun b cs _ hc => ?_).base (Nat.le_trans H2.out.2.size (by omega)))
      have hne : b ≠ D := fun e => by rw [← e, hc] at hK; cases hK
      exact (World.putObj_heap_other hne).trans hc
    · exact bel6 (hB.trans (belowK_b (w := w2) (Nat.le_refl _) W D _ _ (by omega) hK rfl rfl)) H2.out.2
  case stop =>
    rintro D c pre W _ _ h _
    exact h.elim
end Go.Proofs.YtpmanmoljlhogaaGreatDoor
/- Contracts of the program's All, Ranks and parting of what is no system. -/
namespace Go.Proofs.YtpmanmoljlhogaaGreatDoor
open Go.RowKit Go.Maps
attribute [local go_sem ↓] Go.wp_at_zero Go.wp_at_succ
set_option maxRecDepth 100000 in
set_option maxHeartbeats 4000000 in
theorem all_bad (hS : SortOk 1000000) (n k s : Int) (v : Value) (es : List Sy.Ed) (a : Addr) (w : World) (hA : Sent w 14 a) (hv : BEdges.Has w v es) (hm : es.length ≤ 100000) (hq : Sy.right n k s es = false) :
    Calls Tryz.prog 12 #[sysV n k s v] w fun r w' => ∃ b, r = .returned (.tuple #[.slice none 0 0, .iface 76 (.pointer (some ⟨b, 0, none⟩))]) ∧ Chain w' 0 0 a [rndB, sysB] (.iface 76 (.pointer (some ⟨b, 0, none⟩))) ∧ Below w.heap.size w w' := by
  have hv0 := hv
  obtain ⟨ao, cap, rfl, _⟩ := hv0
  obtain ⟨L, hL⟩ : ∃ L, L = es.length := ⟨_, rfl⟩
  obtain ⟨w1, hw1⟩ : ∃ w1, w1 = w.alloc (.cells #[.int .i64 n, .int .i64 k, .int .i64 s, .slice ao L cap] 24) := ⟨_, rfl⟩
  have hb1 : Below w.heap.size w w1 := by rw [hw1]; exact (Below.refl _ _).alloc (Nat.le_refl _) _
  have hg1 : w1.heap[w.heap.size]? = some (.cells #[.int .i64 n, .int .i64 k, .int .i64 s, .slice ao L cap] 24 (0, 0)) := by rw [hw1]; exact heap_alloc_new w _
  have hN := roundsOf_bad hS n k s _ es a w1 (hA.below hb1) (hv.below hb1) hm hq
  rw [← hL] at hN ⊢
  unfold sysV at hN ⊢
  have H1 : Hid _ := And.intro hw1 (And.intro hb1 hN)
  obtain ⟨x0, x1, x2, x3⟩ := four_cells hg1
  clear hA hv hm hq hw1 hb1 hg1 hN hL
  go_enter Tryz.func12, Tryz.ntmps12
  go_upto_region 1 with fail
  rw [← H1.out.1]
  go_wp2_with fail
  refine Calls.mono H1.out.2.2 ?_
  rintro r w2 ⟨T, u, rfl, hC, hb2⟩
  have hFt := rfault_any T u w2 a _ hC
  have H2 : Hid _ := And.intro hFt (bel6 hb2 H1.out.2.1)
  clear hC hb2 hFt
  go_wp2_with fail
  refine Calls.mono H2.out.1 ?_
  rintro r w3 ⟨b, rfl, hC3, hb3⟩
  have H3 : Hid _ := And.intro hC3 (bel6 hb3 H2.out.2)
  clear hC3 hb3
  go_wp2_with fail
  go_ret2
  exact ⟨_, rfl, H3.out.1, H3.out.2⟩
set_option maxRecDepth 100000 in
set_option maxHeartbeats 4000000 in
theorem ranks_bad (hS : SortOk 1000000) (n k s : Int) (v : Value) (es : List Sy.Ed) (a : Addr) (w : World) (hA : Sent w 14 a) (hv : BEdges.Has w v es) (hm : es.length ≤ 100000) (hq : Sy.right n k s es = false) :
    Calls Tryz.prog 21 #[sysV n k s v] w fun r w' => ∃ b, r = .returned (.tuple #[.slice none 0 0, .iface 76 (.pointer (some ⟨b, 0, none⟩))]) ∧ Chain w' 0 0 a [rndB, sysB] (.iface 76 (.pointer (some ⟨b, 0, none⟩))) ∧ Below w.heap.size w w' := by
  have hv0 := hv
  obtain ⟨ao, cap, rfl, _⟩ := hv0
  obtain ⟨L, hL⟩ : ∃ L, L = es.length := ⟨_, rfl⟩
  obtain ⟨w1, hw1⟩ : ∃ w1, w1 = w.alloc (.cells #[.int .i64 n, .int .i64 k, .int .i64 s, .slice ao L cap] 24) := ⟨_, rfl⟩
  have hb1 : Below w.heap.size w w1 := by rw [hw1]; exact (Below.refl _ _).alloc (Nat.le_refl _) _
  have hg1 : w1.heap[w.heap.size]? = some (.cells #[.int .i64 n, .int .i64 k, .int .i64 s, .slice ao L cap] 24 (0, 0)) := by rw [hw1]; exact heap_alloc_new w _
  have hN := roundsOf_bad hS n k s _ es a w1 (hA.below hb1) (hv.below hb1) hm hq
  rw [← hL] at hN ⊢
  unfold sysV at hN ⊢
  have H1 : Hid _ := And.intro hw1 (And.intro hb1 hN)
  obtain ⟨x0, x1, x2, x3⟩ := four_cells hg1
  clear hA hv hm hq hw1 hb1 hg1 hN hL
  go_enter Tryz.func21, Tryz.ntmps21
  go_upto_region 1 with fail
  rw [← H1.out.1]
  go_wp2_with fail
  refine Calls.mono H1.out.2.2 ?_
  rintro r w2 ⟨T, u, rfl, hC, hb2⟩
  have hFt := rfault_any T u w2 a _ hC
  have H2 : Hid _ := And.intro hFt (bel6 hb2 H1.out.2.1)
  clear hC hb2 hFt
  go_wp2_with fail
  refine Calls.mono H2.out.1 ?_
  rintro r w3 ⟨b, rfl, hC3, hb3⟩
  have H3 : Hid _ := And.intro hC3 (bel6 hb3 H2.out.2)
  clear hC3 hb3
  go_wp2_with fail
  go_ret2
  exact ⟨_, rfl, H3.out.1, H3.out.2⟩
end Go.Proofs.YtpmanmoljlhogaaGreatDoor
/- A region that draws its order and only reads, in the body of a loop over a function. Nothing of the program is in it. -/
namespace Go.Proofs.YtpmanmoljlhogaaGreatDoor
open Go.RowKit
variable {F : Fence} {n : Nat} {P : Program} {ops : Array Oper}
/-- Outside a round and in one an operation that is no defer statement runs alike. -/
theorem op_inRound {o : Oper} {l : Nat} {a : Act} {w : World} {K : Act → World → Prop} {Q : Exit → Act → World → Prop} (hro : F.round = none) (ho : ∀ c, o.op ≠ .defer c) (h : o.wpIn F n P a w K Q) : o.wpIn (F.inRound l) n P a w K Q := by
  unfold Oper.wpIn at h ⊢
  refine ⟨h.1, ?_⟩
  have h2 := h.2
  rw [hro, Oper.semAt_none] at h2
  rw [Fence.inRound_round, Oper.semAt_some l _ _ ho]
  generalize (execOp a.eval o).run P w = r at h2
  cases r with
  | ok x w' => cases x <;> exact h2
  | halt x w' => cases x <;> exact h2
theorem opIn_inRound {i l : Nat} {a : Act} {w : World} {K : Act → World → Prop} {Q : Exit → Act → World → Prop} (hro : F.round = none) (ho : ∀ o ∈ ops.toList, ∀ c, o.op ≠ .defer c) (h : wpOpIn F n P ops Q i K a w) : wpOpIn (F.inRound l) n P ops Q i K a w := by
  unfold wpOpIn at h ⊢
  cases hi : ops[i]? with
  | none => simpa [hi] using h
  | some o =>
    have hm : o ∈ ops.toList := by
      rw [← Array.getElem?_toList] at hi
      exact List.mem_of_getElem? hi
    simp only [hi] at h ⊢
    split
    · rename_i hw
      simp only [hw, if_true] at h
      exact op_inRound hro (ho o hm) h
    · rename_i hw
      simp only [hw] at h
      exact h
theorem any_inRound {md : Region.Mode} {l : Nat} {Q : Exit → Act → World → Prop} (hro : F.round = none) (ho : ∀ o ∈ ops.toList, ∀ c, o.op ≠ .defer c) : ∀ (fuel : Nat) (listed : Array Bool) (a : Act) (w : World), wpAnyIn F n P md ops Q fuel listed a w → wpAnyIn (F.inRound l) n P md ops Q fuel listed a w
  | 0, _, _, _, h => h
  | fuel + 1, _, _, _, h => ⟨h.1, fun i hi => opIn_inRound hro ho (wpOpIn_mono (fun a w => any_inRound hro ho fuel _ a w) (h.2 i hi))⟩
def noDefer (l : List Oper) : Bool := l.all fun o => match o.op with | .defer _ => false | _ => true
theorem noDefer_spec {l : List Oper} (h : noDefer l = true) : ∀ o ∈ l, ∀ c, o.op ≠ .defer c := fun o ho c e => by
  have h1 := List.all_eq_true.1 h o ho
  rw [e] at h1
  cases h1
theorem region_round {id l : Nat} {Q : Exit → Act → World → Prop} {a : Act} {w : World} {os : List Oper} (hro : F.round = none) (hm : P.follows .mixedOrders = true) (hB : Region.lexB .any os.toArray = true) (hd : noDefer os = true)
    (h : wpQuietIn F n P os.toArray (fun w' => ∃ n, w' = w.drewN n) (fun a' => ∀ w', (∃ n, w' = w.drewN n) → Q .normal a' w') os a) : (Code.region id os.toArray true).wpIn (F.inRound l) n P Q a w := by
  simp only [Region.lexB, Bool.and_eq_true] at hB
  refine wpIn_region_any hm (any_inRound hro (noDefer_spec (by simpa using hd)) _ _ _ _ (wpAnyIn_of_quiet (C := fun w' => ∃ n, w' = w.drewN n) (Q := fun a' => ∀ w', (∃ n, w' = w.drewN n) → Q .normal a' w') hro (fun _ w' hw' h => h w' hw') _ _ _ _ ⟨1, rfl⟩ ?_))
  have := wpAnyQIn_lex (F := F) (n := n) (C := fun w' => ∃ n, w' = w.drewN n) (md := .any) hB.1 os.toArray.toList 0 (Array.replicate os.toArray.size false) a (by simp) (by simpa using hB.2) (by simpa using h)
  simpa using this
end Go.Proofs.YtpmanmoljlhogaaGreatDoor
/- Contracts of the program's parting and Rank. -/
namespace Go.Proofs.YtpmanmoljlhogaaGreatDoor
open Go.RowKit Go.Maps Go.Shelf
attribute [local go_sem] Oper.semAt_some
/-- The boxes of parting: the system, both states, both results. -/
structure PgAt (w w1 : World) (n k s p q : Int) (ao : Option Addr) (L cap : Nat) : Prop where
  bl : Below w.heap.size w w1
  bs : w1.heap[w.heap.size]? = some (.cells #[.int .i64 n, .int .i64 k, .int .i64 s, .slice ao L cap] 24 (0, 0))
  bp : Boxed w1 (w.heap.size + 1) 3 (.int .i64 p)
  bq : Boxed w1 (w.heap.size + 2) 3 (.int .i64 q)
  br : Boxed w1 (w.heap.size + 3) 3 (.int .i64 0)
  be : Boxed w1 (w.heap.size + 4) 46 .nilIface
theorem PgAt.below {w w1 w2 : World} {n k s p q : Int} {ao : Option Addr} {L cap : Nat} (h : PgAt w w1 n k s p q ao L cap) (hb : Below w1.heap.size w1 w2) : PgAt w w2 n k s p q ao L cap :=
  ⟨bel6 hb h.bl, res_up6 hb h.bs, res_up6 hb h.bp, res_up6 hb h.bq, res_up6 hb h.br, res_up6 hb h.be⟩
def pgW (w : World) (n k s p q : Int) (ao : Option Addr) (L cap : Nat) : World := ((((w.alloc (.cells #[.int .i64 n, .int .i64 k, .int .i64 s, .slice ao L cap] 24)).alloc (.cells #[.int .i64 p] 3)).alloc (.cells #[.int .i64 q] 3)).alloc (.cells #[.int .i64 0] 3)).alloc (.cells #[.nilIface] 46)
theorem heap_new' (w : World) (o : Obj) (g : Nat) (h : g = w.heap.size) : (w.alloc o).heap[g]? = some o := by subst h; exact World.alloc_heap_new w o
theorem pg_new (w : World) (n k s p q : Int) (ao : Option Addr) (L cap : Nat) : PgAt w (pgW w n k s p q ao L cap) n k s p q ao L cap := by
  have up : ∀ {W : World} {b : Nat} {o : Obj} (x : Obj), W.heap[b]? = some o → (W.alloc x).heap[b]? = some o := fun {W b o} x h => (Below.heap_alloc W x b (t_lt h)).trans h
  unfold pgW
  refine ⟨?_, ?_, ?_, ?_, ?_, ?_⟩
  · refine Below.alloc (Below.alloc (Below.alloc (Below.alloc (Below.alloc (Below.refl _ _) (by simp) _) (by simp) _) (by simp; omega) _) (by simp; omega) _) (by simp; omega) _
  · exact up _ (up _ (up _ (up _ (heap_new' _ _ _ rfl))))
  · exact up _ (up _ (up _ (heap_new' _ _ _ (by simp))))
  · exact up _ (up _ (heap_new' _ _ _ (by simp)))
  · exact up _ (heap_new' _ _ _ (by simp))
  · exact heap_new' _ _ _ (by simp)
theorem Chain.set {w : World} {l c : Int} {a : Addr} {g o : Nat} {x : Value} {t : TypeId} {cs : Array Value} (hg : w.heap[g]? = some (.cells cs t (0, 0))) (ht : t ≠ 79) : ∀ {ls : List ByteArray} {v : Value}, Chain w l c a ls v → Chain (w.setCell ⟨g, o, none⟩ x) l c a ls v
  | [], _, h => h
  | s :: r, v, h => by
    obtain ⟨b, u, h1, h2, h3⟩ := h
    have hne : b ≠ g := fun e => by
      rw [← e, h2] at hg
      injection hg with hg
      injection hg with _ h4
      exact ht h4.symm
    exact ⟨b, u, h1, (setCell_other _ hne).trans h2, Chain.set hg ht h3⟩
theorem pg_ret {w w2 : World} {n k s p q : Int} {ao : Option Addr} {L cap : Nat} (hg : PgAt w w2 n k s p q ao L cap) (x y : Value) :
    ((w2.setCell ⟨w.heap.size + 1 + 1 + 1, 0, none⟩ x).setCell ⟨w.heap.size + 1 + 1 + 1 + 1, 0, none⟩ y).cell? ⟨w.heap.size + 1 + 1 + 1, 0, none⟩ = some x ∧ ((w2.setCell ⟨w.heap.size + 1 + 1 + 1, 0, none⟩ x).setCell ⟨w.heap.size + 1 + 1 + 1 + 1, 0, none⟩ y).cell? ⟨w.heap.size + 1 + 1 + 1 + 1, 0, none⟩ = some y ∧ Below w.heap.size w ((w2.setCell ⟨w.heap.size + 1 + 1 + 1, 0, none⟩ x).setCell ⟨w.heap.size + 1 + 1 + 1 + 1, 0, none⟩ y) := by
  have d3 : w2.cell? ⟨w.heap.size + 1 + 1 + 1, 0, none⟩ = some (.int .i64 0) := hg.br.cell
  have d4 : w2.cell? ⟨w.heap.size + 1 + 1 + 1 + 1, 0, none⟩ = some .nilIface := hg.be.cell
  have hne34 : (w.heap.size + 1 + 1 + 1) ≠ (w.heap.size + 1 + 1 + 1 + 1) := by omega
  refine ⟨?_, ?_, (hg.bl.setCell (p := ⟨w.heap.size + 1 + 1 + 1, 0, none⟩) (by simp; omega) _).setCell (p := ⟨w.heap.size + 1 + 1 + 1 + 1, 0, none⟩) (by simp; omega) _⟩
  · rw [cell_block (setCell_other _ hne34)]
    exact World.cell?_setCell_same' _ _ _ (by rw [d3]; rfl)
  · exact World.cell?_setCell_same' _ _ _ (by rw [cell_block (setCell_other _ (fun e => hne34 e.symm)), d4]; rfl)
set_option maxRecDepth 100000 in
set_option maxHeartbeats 4000000 in
theorem parting_ok (hS : SortOk 1000000) (m p q : Nat) (k s : Int) (v : Value) (es : List Sy.Ed) (a aN : Addr) (w : World) (hA : Sent w 14 a) (hN : Sent w 0 aN) (hP : Pow w) (hv : BEdges.Has w v es) (hm : es.length ≤ 100000) (hq : Sy.right m k s es = true) (hp : p < m) (hq2 : q < m) :
    Calls Tryz.prog 82 #[sysV m k s v, .int .i64 p, .int .i64 q] w fun r w' => ∃ R, Ro.Last m (outOf m es) R ∧ Below w.heap.size w w' ∧
      ((∃ j : Nat, j ≤ R ∧ r = .returned (.tuple #[.int .i64 j, .nilIface]) ∧ (Ro.rnd m (outOf m es) j)[p]? ≠ (Ro.rnd m (outOf m es) j)[q]? ∧ ∀ i, i < j → (Ro.rnd m (outOf m es) i)[p]? = (Ro.rnd m (outOf m es) i)[q]?) ∨
       (r = .returned (.tuple #[.int .i64 0, .iface 305 (.pointer (some aN))]) ∧ ∀ i, i ≤ R → (Ro.rnd m (outOf m es) i)[p]? = (Ro.rnd m (outOf m es) i)[q]?)) := by
  have hv0 := hv
  obtain ⟨ao, cap, rfl, _⟩ := hv0
  obtain ⟨L, hL⟩ : ∃ L, L = es.length := ⟨_, rfl⟩
  obtain ⟨w1, hw1⟩ : ∃ w1, w1 = pgW w m k s p q ao L cap := ⟨_, rfl⟩
  have hg1 : PgAt w w1 m k s p q ao L cap := by rw [hw1]; exact pg_new _ _ _ _ _ _ _ _ _
  have hO := roundsOf_ok hS m k s _ es a w1 (hA.below hg1.bl) (hv.below hg1.bl) hm hq
  rw [← hL] at hO ⊢
  unfold sysV at hO ⊢
  have hm1 : m ≤ 1000 := by have := (right_parts hq).1; omega
  have hF := steps_fit hq
  obtain ⟨out, hout⟩ : ∃ out, out = outOf m es := ⟨_, rfl⟩
  have H1 : Hid _ := And.intro hw1 (And.intro hg1 (And.intro hO (And.intro hP (And.intro hF (And.intro hout hN)))))
  obtain ⟨x0, x1, x2, x3⟩ := four_cells hg1.bs
  unfold pgW at H1
  clear hA hv hm hq hw1 hg1 hO hL hP hF hout hN
  refine (callsIn_wide (n := 3)).1 ?_
  refine callsIn_of_wp_marks Tryz.func82 rfl trivial ?_ rfl
  simp only [Tryz.ntmps82, List.size_toArray, List.length_cons, List.length_nil, Nat.reduceAdd, Nat.reduceSub, Array.replicate_succ, Array.replicate_zero, List.push_toArray, List.append_toArray, List.nil_append, List.cons_append]
  gi_upto_region 1 with fail
  rw [← H1.out.1]
  gi_wp2
  refine ⟨trivial, (callsIn_wide.2 H1.out.2.2.1).mono ?_⟩
  rintro r w2 ⟨b1, b2, gs, rfl, hO2⟩
  unfold roundsV
  have hg2 := H1.out.2.1.below hO2.bl
  have hRd := Reads.of hO2 (H1.out.2.2.2.1.below hg2.bl)
  have c1 := hg2.bp.cell
  have c2 := hg2.bq.cell
  obtain ⟨y0, y1, y2, y3⟩ := four_cells hg2.bs
  have g1 : (0 : Int) ≤ (p : Int) := by omega
  have g2 : (0 : Int) ≤ (q : Int) := by omega
  have g3 : (p : Int) < (m : Int) := by omega
  have g4 : (q : Int) < (m : Int) := by omega
  have g5 : ¬ min (p : Int) (q : Int) < 0 := by omega
  have g6 : ¬ (m : Int) ≤ max (p : Int) (q : Int) := by omega
  have H2 : Hid _ := And.intro hg2 hRd
  clear hg2 hRd hO2 x0 x1 x2 x3
  gi_wp2
  have hF := H1.out.2.2.2.2.1
  have hR := H2.out.2
  rw [← H1.out.2.2.2.2.2.1] at hF hR
  refine loop_tells rfl (by omega) (gf := 97) (lb := #[.pointer (some ⟨b1, 0, none⟩), .pointer (some ⟨b2, 0, none⟩)]) rfl trivial (enters_of Tryz.func97 (by kernel_rfl) rfl)
    (rounds_tell 2 w2.heap.size b1 b2 gs m out w2 (Nat.le_refl _) hm1 hF hR) (fun h k => h.trans k) (kpr_put (Nat.le_refl _)) (fun pre x W l o o' _ hl ho h => good_put pre x W l o o' hl ho h) (Below.refl _ _) (fun _ => rfl)
    (fun pre W => (∀ i, i < pre.length → (Ro.rnd m out i)[p]? = (Ro.rnd m out i)[q]?) ∧ Below w2.heap.size w2 W)
    (fun c pre W => (c = .ret ∧ ∃ j : Nat, pre.length = j + 1 ∧ (Ro.rnd m out j)[p]? ≠ (Ro.rnd m out j)[q]? ∧ (∀ i, i < j → (Ro.rnd m out i)[p]? = (Ro.rnd m out i)[q]?) ∧ W.cell? ⟨w.heap.size + 1 + 1 + 1, 0, none⟩ = some (.int .i64 j) ∧ W.cell? ⟨w.heap.size + 1 + 1 + 1 + 1, 0, none⟩ = some .nilIface) ∧ Below w.heap.size w W)
    (fun s A B row hs hg hr => ⟨hs.1, ownFrom_below (β := Unit) (Nat.le_refl _) (Nat.le_refl _) () A B row hs.2 hg hr⟩)
    (fun c s A B row hs hg hr => by
      obtain ⟨⟨h1, j, h2, h3, h4, h5, h6⟩, h7⟩ := hs
      exact ⟨⟨h1, j, h2, h3, h4, cell_kept h5 hg (fun r e => (hr r e).2), cell_kept h6 hg (fun r e => (hr r e).2)⟩, ownFrom_below (β := Unit) (Nat.le_refl _) H2.out.1.bl.size () A B row h7 hg hr⟩)
    ⟨fun i hi => by simp at hi, Below.refl _ _⟩
    (fun x => { tmps := #[(.agg #[.int .i64 m, .int .i64 k, .int .i64 s, .slice ao L cap]), .int .i64 (p : Int), .int .i64 (q : Int), .pointer (some ⟨w.heap.size, 0, none⟩), .pointer (some ⟨w.heap.size + 1, 0, none⟩), .pointer (some ⟨w.heap.size + 1 + 1, 0, none⟩), .pointer (some ⟨w.heap.size + 1 + 1 + 1, 0, none⟩), .pointer (some ⟨w.heap.size + 1 + 1 + 1 + 1, 0, none⟩), (.func (.func 97) #[] #[.pointer (some ⟨b1, 0, none⟩), .pointer (some ⟨b2, 0, none⟩)]), .nilIface, .int .i64 x.1, (.slice (some ⟨x.2, 0, none⟩) m m), .tuple #[(.func (.func 97) #[] #[.pointer (some ⟨b1, 0, none⟩), .pointer (some ⟨b2, 0, none⟩)]), .nilIface], (.agg #[.int .i64 m, .int .i64 k, .int .i64 s, .slice ao L cap]), .tuple #[(.func (.func 97) #[] #[.pointer (some ⟨b1, 0, none⟩), .pointer (some ⟨b2, 0, none⟩)]), .nilIface], (.func (.func 97) #[] #[.pointer (some ⟨b1, 0, none⟩), .pointer (some ⟨b2, 0, none⟩)]), .nilIface, .bool false, .nilIface, .bool false, undef, .bool (decide (min (p : Int) (q : Int) < 0) || decide ((m : Int) ≤ max (p : Int) (q : Int))), .int .i64 (p : Int), .int .i64 (q : Int), .int .i64 (min (p : Int) (q : Int)), .bool (decide (min (p : Int) (q : Int) < 0)), .bool (decide (min (p : Int) (q : Int) < 0)), .int .i64 (p : Int), .int .i64 (q : Int), .int .i64 (max (p : Int) (q : Int)), .pointer (some ⟨w.heap.size, 0, none⟩), .int .i64 m, .bool (decide ((m : Int) ≤ max (p : Int) (q : Int))), .bool (decide (min (p : Int) (q : Int) < 0) || decide ((m : Int) ≤ max (p : Int) (q : Int))), undef, (.func (.func 97) #[] #[.pointer (some ⟨b1, 0, none⟩), .pointer (some ⟨b2, 0, none⟩)]), .int .i64 x.1, (.slice (some ⟨x.2, 0, none⟩) m m), undef, undef, undef, undef, undef, undef, undef, undef, undef, undef, undef], defers := [] }) ?assign ?body ?done ?stop
  case assign =>
    intro l x W K hK
    unfold rdV
    gi_wp2
    exact hK
  case body =>
    rintro l pre x W ⟨hpre, hB⟩ hG
    have hg := H2.out.1.below hB
    have d1 := hg.bp.cell
    have d2 : W.cell? ⟨w.heap.size + 1 + 1, 0, none⟩ = some (.int .i64 q) := hg.bq.cell
    have d3 : W.cell? ⟨w.heap.size + 1 + 1 + 1, 0, none⟩ = some (.int .i64 0) := hg.br.cell
    have d4 : W.cell? ⟨w.heap.size + 1 + 1 + 1 + 1, 0, none⟩ = some .nilIface := hg.be.cell
    have f3 : W.frozen? ⟨w.heap.size + 1 + 1 + 1, 0, none⟩ = false := hg.br.frozen
    have f4 : W.frozen? ⟨w.heap.size + 1 + 1 + 1 + 1, 0, none⟩ = false := hg.be.frozen
    obtain ⟨cs, hcs, hcl⟩ := hG.blk
    have hl := Ro.rnd_len m out x.1
    obtain ⟨cp, hcp⟩ : ∃ cp, (Ro.rnd m out x.1)[p]? = some cp := ⟨_, List.getElem?_eq_getElem (by omega)⟩
    obtain ⟨cq, hcq⟩ : ∃ cq, (Ro.rnd m out x.1)[q]? = some cq := ⟨_, List.getElem?_eq_getElem (by omega)⟩
    have e1 : W.cell? ⟨x.2, p, none⟩ = some (.int .i64 cp) := cell0_of hcs (by rw [← Array.getElem?_toList, hcl]; simp [natC, hcp])
    have e2 : W.cell? ⟨x.2, q, none⟩ = some (.int .i64 cq) := cell0_of hcs (by rw [← Array.getElem?_toList, hcl]; simp [natC, hcq])
    have HG : Hid _ := And.intro hG (And.intro hpre (And.intro hB (And.intro hcp (And.intro hcq hg))))
    clear hG hpre hB hcp hcq hcs hcl hl hg
    by_cases hne : cp = cq
    · have n1 : ((cp : Int) != (cq : Int)) = false := by simp [hne]
      have HN : Hid _ := hne
      clear hne
      gi_wp2
      refine region_round (F := Fence.wide) rfl (by kernel_rfl) (by kernel_rfl) (by kernel_rfl) ?_
      repeat (gi_big_quiet_step (fail))
      refine wpQuietIn_nil ?_
      intro _ hw'
      obtain ⟨nq, hw''⟩ := hw'
      subst hw''
      gi_wp2
      refine ⟨⟨Nat.le_refl _, fun _ _ _ h _ => h⟩, ⟨below_drewN (Below.refl _ _) _, fun _ _ _ h => h⟩, fun i hi => ?_, below_drewN HG.out.2.2.1 _⟩
      rcases Nat.lt_or_ge i pre.length with h1 | h1
      · exact HG.out.2.1 i h1
      · have e : i = x.1 := by have := HG.out.1.num; simp at hi; omega
        rw [e, HG.out.2.2.2.1, HG.out.2.2.2.2.1, HN.out]
    · have n1 : ((cp : Int) != (cq : Int)) = true := by simp; omega
      have HN : Hid _ := hne
      clear hne
      gi_wp2
      refine region_round (F := Fence.wide) rfl (by kernel_rfl) (by kernel_rfl) (by kernel_rfl) ?_
      repeat (gi_big_quiet_step (fail))
      refine wpQuietIn_nil ?_
      intro _ hw'
      obtain ⟨nq, hw''⟩ := hw'
      subst hw''
      gi_wp2
      have hne34 : (w.heap.size + 1 + 1 + 1) ≠ (w.heap.size + 1 + 1 + 1 + 1) := by omega
      refine ⟨⟨?_, fun b o hb ho hc => ?_⟩, ⟨rfl, x.1, ?_, ?_, fun i hi => ?_, ?_, ?_⟩, ?_⟩
      · simp
      · exact ((KeepsOthers.setCell _ _ _).trans (KeepsOthers.setCell _ _ _)).same b o ho hc
      · simp [HG.out.1.num]
      · rw [HG.out.2.2.2.1, HG.out.2.2.2.2.1]
        intro e
        exact HN.out (Option.some.inj e)
      · exact HG.out.2.1 i (by have := HG.out.1.num; omega)
      · rw [cell_block (setCell_other _ hne34)]
        exact World.cell?_setCell_same' _ _ _ (by show (W.cell? _).isSome = true; rw [d3]; rfl)
      · exact World.cell?_setCell_same' _ _ _ (by rw [cell_block (setCell_other _ (fun e => hne34 e.symm))]; show (W.cell? _).isSome = true; rw [d4]; rfl)
      · exact ((bel6 (below_drewN HG.out.2.2.1 _) H2.out.1.bl).setCell (p := ⟨w.heap.size + 1 + 1 + 1, 0, none⟩) (by simp; omega) _).setCell (p := ⟨w.heap.size + 1 + 1 + 1 + 1, 0, none⟩) (by simp; omega) _
  case done =>
    rintro D xs W hD ⟨R, hRl, hxl⟩ ⟨hall, hB⟩ hK
    have hg := H2.out.1.below hB
    have d3 : W.cell? ⟨w.heap.size + 1 + 1 + 1, 0, none⟩ = some (.int .i64 0) := hg.br.cell
    have d4 : W.cell? ⟨w.heap.size + 1 + 1 + 1 + 1, 0, none⟩ = some .nilIface := hg.be.cell
    have f3 : W.frozen? ⟨w.heap.size + 1 + 1 + 1, 0, none⟩ = false := hg.br.frozen
    have f4 : W.frozen? ⟨w.heap.size + 1 + 1 + 1 + 1, 0, none⟩ = false := hg.be.frozen
    have hsN := (H1.out.2.2.2.2.2.2.below hg.bl).1
    have mixed : Tryz.prog.follows .mixedOrders = true := by kernel_rfl
    have HW : Hid _ := And.intro hg (And.intro hall (And.intro hRl hxl))
    clear hg hall hRl hxl hB
    gi_wp2
    gi_region
    gi_wp2
    obtain ⟨W9, hW9⟩ : ∃ W9, W9 = ((W.setCell ⟨w.heap.size + 1 + 1 + 1, 0, none⟩ (.int .i64 0)).setCell ⟨w.heap.size + 1 + 1 + 1 + 1, 0, none⟩ (.iface 305 (.pointer (some aN)))).drew := ⟨_, rfl⟩
    have hne34 : (w.heap.size + 1 + 1 + 1) ≠ (w.heap.size + 1 + 1 + 1 + 1) := by omega
    have hK9 : W9.heap[D]? = some (.deferred (some [])) := by
      rw [hW9]
      exact ((KeepsOthers.setCell _ _ _).trans (KeepsOthers.setCell _ _ _)).same D _ hK rfl
    have k5 : W9.cell? ⟨w.heap.size + 1 + 1 + 1, 0, none⟩ = some (.int .i64 0) := by
      rw [hW9]
      show ((W.setCell _ _).setCell _ _).cell? _ = _
      rw [cell_block (setCell_other _ hne34)]
      exact World.cell?_setCell_same' _ _ _ (by rw [d3]; rfl)
    have k6 : W9.cell? ⟨w.heap.size + 1 + 1 + 1 + 1, 0, none⟩ = some (.iface 305 (.pointer (some aN))) := by
      rw [hW9]
      show ((W.setCell _ _).setCell _ _).cell? _ = _
      exact World.cell?_setCell_same' _ _ _ (by rw [cell_block (setCell_other _ (fun e => hne34 e.symm)), d4]; rfl)
    have hB9 : Below w.heap.size w W9 := by
      rw [hW9]
      exact ((HW.out.1.bl.setCell (p := ⟨w.heap.size + 1 + 1 + 1, 0, none⟩) (by simp; omega) _).setCell (p := ⟨w.heap.size + 1 + 1 + 1 + 1, 0, none⟩) (by simp; omega) _).drew
    rw [← hW9]
    refine ⟨by simp, .inl ⟨_, _, rfl, run_takeDeferred hK9, ?_⟩⟩
    have k5' := cell_kept k5 (grownBy_putObj' _ D (.deferred none)) (fun r e => by cases e; exact ⟨_, hK9, rfl⟩)
    have k6' := cell_kept k6 (grownBy_putObj' _ D (.deferred none)) (fun r e => by cases e; exact ⟨_, hK9, rfl⟩)
    refine ⟨.tuple #[.int .i64 0, .iface 305 (.pointer (some aN))], ?_, R, by rw [← H1.out.2.2.2.2.2.1]; exact HW.out.2.2.1, ?_, .inr ⟨rfl, by rw [← H1.out.2.2.2.2.2.1]; exact fun i hi => HW.out.2.1 i (by have := HW.out.2.2.2; omega)⟩⟩
    · simp [results, Tryz.f82, go_sem, k5', k6']
    · exact hB9.trans (belowK_b (w := w) (Nat.le_refl _) W9 D _ _ (by have := H2.out.1.bl.size; omega) hK9 rfl rfl)
  case stop =>
    rintro D c pre W hD ⟨R, hRl, hxl⟩ ⟨⟨rfl, j, h2, h3, h4, h5, h6⟩, h7⟩ hK
    gi_wp2
    refine ⟨by simp, .inl ⟨_, _, rfl, run_takeDeferred hK, ?_⟩⟩
    have k5 := cell_kept h5 (grownBy_putObj' _ D (.deferred none)) (fun r e => by cases e; exact ⟨_, hK, rfl⟩)
    have k6 := cell_kept h6 (grownBy_putObj' _ D (.deferred none)) (fun r e => by cases e; exact ⟨_, hK, rfl⟩)
    refine ⟨.tuple #[.int .i64 j, .nilIface], ?_, R, by rw [← H1.out.2.2.2.2.2.1]; exact hRl, ?_, .inl ⟨j, by omega, rfl, by rw [← H1.out.2.2.2.2.2.1]; exact h3, by rw [← H1.out.2.2.2.2.2.1]; exact h4⟩⟩
    · simp [results, Tryz.f82, go_sem, k5, k6]
    · exact h7.trans (belowK_b (w := w) (Nat.le_refl _) W D _ _ (by have := H2.out.1.bl.size; omega) hK rfl rfl)
set_option maxRecDepth 100000 in
set_option maxHeartbeats 4000000 in
theorem parting_bad (hS : SortOk 1000000) (n k s p q : Int) (v : Value) (es : List Sy.Ed) (a : Addr) (w : World) (hA : Sent w 14 a) (hv : BEdges.Has w v es) (hm : es.length ≤ 100000) (hq : Sy.right n k s es = false) :
    Calls Tryz.prog 82 #[sysV n k s v, .int .i64 p, .int .i64 q] w fun r w' => ∃ T u, r = .returned (.tuple #[.int .i64 0, .iface T u]) ∧ Chain w' 0 0 a [sysB] (.iface T u) ∧ Below w.heap.size w w' := by
  have hv0 := hv
  obtain ⟨ao, cap, rfl, _⟩ := hv0
  obtain ⟨L, hL⟩ : ∃ L, L = es.length := ⟨_, rfl⟩
  obtain ⟨w1, hw1⟩ : ∃ w1, w1 = pgW w n k s p q ao L cap := ⟨_, rfl⟩
  have hg1 : PgAt w w1 n k s p q ao L cap := by rw [hw1]; exact pg_new _ _ _ _ _ _ _ _ _
  have hO := roundsOf_bad hS n k s _ es a w1 (hA.below hg1.bl) (hv.below hg1.bl) hm hq
  rw [← hL] at hO ⊢
  unfold sysV at hO ⊢
  have H1 : Hid _ := And.intro hw1 (And.intro hg1 hO)
  obtain ⟨x0, x1, x2, x3⟩ := four_cells hg1.bs
  unfold pgW at H1
  clear hA hv hm hq hw1 hg1 hO hL
  go_enter Tryz.func82, Tryz.ntmps82
  go_upto_region 1 with fail
  rw [← H1.out.1]
  go_wp2_with fail
  refine Calls.mono H1.out.2.2 ?_
  rintro r w2 ⟨T, u, rfl, hC2, hb2⟩
  have hg := H1.out.2.1.below hb2
  have d3 : w2.cell? ⟨w.heap.size + 1 + 1 + 1, 0, none⟩ = some (.int .i64 0) := hg.br.cell
  have d4 : w2.cell? ⟨w.heap.size + 1 + 1 + 1 + 1, 0, none⟩ = some .nilIface := hg.be.cell
  have f3 : w2.frozen? ⟨w.heap.size + 1 + 1 + 1, 0, none⟩ = false := hg.br.frozen
  have f4 : w2.frozen? ⟨w.heap.size + 1 + 1 + 1 + 1, 0, none⟩ = false := hg.be.frozen
  have H2 : Hid _ := And.intro hg (And.intro hC2 hb2)
  clear hg hC2 hb2 x0 x1 x2 x3
  go_wp2_with fail
  obtain ⟨W9, hW9⟩ : ∃ W9, W9 = (w2.setCell ⟨w.heap.size + 1 + 1 + 1, 0, none⟩ (.int .i64 0)).setCell ⟨w.heap.size + 1 + 1 + 1 + 1, 0, none⟩ (.iface T u) := ⟨_, rfl⟩
  obtain ⟨k5, k6, hB9⟩ := pg_ret H2.out.1 (.int .i64 0) (.iface T u)
  have hC9 : Chain W9 0 0 a [sysB] (.iface T u) := by
    rw [hW9]
    have hbe : (w2.setCell ⟨w.heap.size + 1 + 1 + 1, 0, none⟩ (.int .i64 0)).heap[w.heap.size + 1 + 1 + 1 + 1]? = _ := (setCell_other _ (by omega)).trans H2.out.1.be
    exact (H2.out.2.1.set H2.out.1.br (by decide)).set hbe (by decide)
  rw [← hW9] at k5 k6 hB9 ⊢
  refine bodyPost_ret (v := .tuple #[.int .i64 0, .iface T u]) ?_ rfl ⟨_, _, rfl, hC9, hB9⟩
  simp [results, Tryz.results82, go_sem, k5, k6]
set_option maxRecDepth 100000 in
set_option maxHeartbeats 4000000 in
theorem parting_idx (hS : SortOk 1000000) (m : Nat) (k s p q : Int) (v : Value) (es : List Sy.Ed) (a aI : Addr) (w : World) (hA : Sent w 14 a) (hI : Sent w 3 aI) (hv : BEdges.Has w v es) (hm : es.length ≤ 100000) (hq : Sy.right m k s es = true) (hno : min p q < 0 ∨ (m : Int) ≤ max p q) :
    Calls Tryz.prog 82 #[sysV m k s v, .int .i64 p, .int .i64 q] w fun r w' => r = .returned (.tuple #[.int .i64 0, .iface 305 (.pointer (some aI))]) ∧ Below w.heap.size w w' := by
  have hv0 := hv
  obtain ⟨ao, cap, rfl, _⟩ := hv0
  obtain ⟨L, hL⟩ : ∃ L, L = es.length := ⟨_, rfl⟩
  obtain ⟨w1, hw1⟩ : ∃ w1, w1 = pgW w m k s p q ao L cap := ⟨_, rfl⟩
  have hg1 : PgAt w w1 m k s p q ao L cap := by rw [hw1]; exact pg_new _ _ _ _ _ _ _ _ _
  have hO := roundsOf_ok hS m k s _ es a w1 (hA.below hg1.bl) (hv.below hg1.bl) hm hq
  rw [← hL] at hO ⊢
  unfold sysV at hO ⊢
  have hlt : 3 < w.heap.size := World.block_lt_of_cell? w _ hI.1
  have nn1 : ¬ 3 = w.heap.size + 1 + 1 + 1 := by omega
  have nn2 : ¬ w.heap.size + 1 + 1 + 1 = 3 := by omega
  have nn3 : ¬ 3 = w.heap.size + 1 + 1 + 1 + 1 := by omega
  have nn4 : ¬ w.heap.size + 1 + 1 + 1 + 1 = 3 := by omega
  have H1 : Hid _ := And.intro hw1 (And.intro hg1 (And.intro hO hI))
  obtain ⟨x0, x1, x2, x3⟩ := four_cells hg1.bs
  unfold pgW at H1
  clear hA hv hm hq hw1 hg1 hO hL hI
  go_enter Tryz.func82, Tryz.ntmps82
  go_upto_region 1 with fail
  rw [← H1.out.1]
  go_wp2_with fail
  refine Calls.mono H1.out.2.2.1 ?_
  rintro r w2 ⟨b1, b2, gs, rfl, hO2⟩
  unfold roundsV
  have hg := H1.out.2.1.below hO2.bl
  have c1 := hg.bp.cell
  have c2 : w2.cell? ⟨w.heap.size + 1 + 1, 0, none⟩ = some (.int .i64 q) := hg.bq.cell
  obtain ⟨y0, y1, y2, y3⟩ := four_cells hg.bs
  have d3 : w2.cell? ⟨w.heap.size + 1 + 1 + 1, 0, none⟩ = some (.int .i64 0) := hg.br.cell
  have d4 : w2.cell? ⟨w.heap.size + 1 + 1 + 1 + 1, 0, none⟩ = some .nilIface := hg.be.cell
  have f3 : w2.frozen? ⟨w.heap.size + 1 + 1 + 1, 0, none⟩ = false := hg.br.frozen
  have f4 : w2.frozen? ⟨w.heap.size + 1 + 1 + 1 + 1, 0, none⟩ = false := hg.be.frozen
  have hsI := (H1.out.2.2.2.below hg.bl).1
  obtain ⟨k5, k6, hB9⟩ := pg_ret hg (.int .i64 0) (.iface 305 (.pointer (some aI)))
  have H2 : Hid _ := And.intro k5 (And.intro k6 hB9)
  clear hg hO2 x0 x1 x2 x3 k5 k6 hB9
  by_cases hlo : min p q < 0
  · have g5 : decide (min p q < 0) = true := by simpa using hlo
    go_wp2_with fail
    go_region
    all_goals go_wp2_with fail
    all_goals
      refine bodyPost_ret (v := .tuple #[.int .i64 0, .iface 305 (.pointer (some aI))]) ?_ rfl ⟨rfl, H2.out.2.2.drew⟩
      simp [results, Tryz.results82, go_sem, H2.out.1, H2.out.2.1]
  · have g5 : decide (min p q < 0) = false := by simpa using hlo
    have g6 : (m : Int) ≤ max p q := by omega
    clear hno
    go_wp2_with fail
    go_region
    all_goals go_wp2_with fail
    all_goals
      refine bodyPost_ret (v := .tuple #[.int .i64 0, .iface 305 (.pointer (some aI))]) ?_ rfl ⟨rfl, H2.out.2.2.drew⟩
      simp [results, Tryz.results82, go_sem, H2.out.1, H2.out.2.1]
end Go.Proofs.YtpmanmoljlhogaaGreatDoor
/- Contract of the program's Rank. -/
namespace Go.Proofs.YtpmanmoljlhogaaGreatDoor
open Go.RowKit Go.Maps
attribute [local go_sem ↓] Go.wp_at_zero Go.wp_at_succ
theorem Tryz.eqNilErr5 (v : Value) (w : World) : (binOp BinOp.eql 46 .nilIface (.iface 305 v)).run Tryz.prog w = .ok (.bool false) w := by kernel_rfl
theorem is_nil5 (v : Value) (w : World) : Calls Tryz.prog 83 #[.nilIface, .iface 305 v] w fun e w' => e = .returned (.bool false) ∧ w' = w := by
  have hq := Tryz.eqNilErr5 v
  go_enter Tryz.func83, Tryz.ntmps83
  go_wp2
  go_ret
  exact ⟨rfl, rfl⟩
/-- The two errors that Rank of right systems and states asks for. -/
structure ErR (w : World) (e : Nat → Addr) : Prop where
  s14 : 14 ≤ 19 → Sent w 14 (e 14)
  s18 : 18 ≤ 19 → Sent w 0 (e 18)
theorem ErR.below {w w' : World} {e : Nat → Addr} (h : ErR w e) (hb : Below w.heap.size w w') : ErR w' e := ⟨fun hm => (h.s14 hm).below hb, fun hm => (h.s18 hm).below hb⟩
theorem Er.toR {w : World} {e : Nat → Addr} (h : Er 19 w e) : ErR w e := ⟨h.s14, h.s18⟩
theorem rankG_first {m : Nat} {out : Nat → List Ro.St} {p q : Nat} {j : Nat} : ∀ (f k : Nat), k ≤ j → j < k + f → (Ro.rnd m out j)[p]? ≠ (Ro.rnd m out j)[q]? → (∀ i, i < j → (Ro.rnd m out i)[p]? = (Ro.rnd m out i)[q]?) → Ro.rankG m out p q k f = (j : Int)
  | 0, k, h1, h2, _, _ => by omega
  | f + 1, k, h1, h2, h3, h4 => by
    unfold Ro.rankG
    rcases Nat.lt_or_ge k j with h | h
    · rw [if_pos (h4 k h)]
      exact rankG_first f (k + 1) (by omega) (by omega) h3 h4
    · obtain rfl : k = j := by omega
      rw [if_neg h3]
theorem rankG_none {m : Nat} {out : Nat → List Ro.St} {p q : Nat} : ∀ (f k : Nat), (∀ i, k ≤ i → i < k + f → (Ro.rnd m out i)[p]? = (Ro.rnd m out i)[q]?) → Ro.rankG m out p q k f = -1
  | 0, k, _ => rfl
  | f + 1, k, h => by
    unfold Ro.rankG
    rw [if_pos (h k (by omega) (by omega))]
    exact rankG_none f (k + 1) fun i h1 h2 => h i (by omega) (by omega)
set_option maxRecDepth 100000 in
set_option maxHeartbeats 4000000 in
theorem rank_ok (hS : SortOk 1000000) (m p q : Nat) (k s : Int) (v : Value) (es : List Sy.Ed) (e : Nat → Addr) (w : World) (hE : ErR w e) (hP : Pow w) (hv : BEdges.Has w v es) (hm : es.length ≤ 100000) (hq : Sy.right m k s es = true) (hp : p < m) (hq2 : q < m) :
    Calls Tryz.prog 17 #[sysV m k s v, .int .i64 p, .int .i64 q] w fun r w' => ∃ R, Ro.Last m (outOf m es) R ∧ r = .returned (.tuple #[.int .i64 (Ro.rank m (outOf m es) R p q), .nilIface]) ∧ Below w.heap.size w w' := by
  have hv0 := hv
  obtain ⟨ao, cap, rfl, _⟩ := hv0
  obtain ⟨L, hL⟩ : ∃ L, L = es.length := ⟨_, rfl⟩
  obtain ⟨w1, hw1⟩ : ∃ w1, w1 = w.alloc (.cells #[.int .i64 m, .int .i64 k, .int .i64 s, .slice ao L cap] 24) := ⟨_, rfl⟩
  have hb1 : Below w.heap.size w w1 := by rw [hw1]; exact (Below.refl _ _).alloc (Nat.le_refl _) _
  have hg1 : w1.heap[w.heap.size]? = some (.cells #[.int .i64 m, .int .i64 k, .int .i64 s, .slice ao L cap] 24 (0, 0)) := by rw [hw1]; exact heap_alloc_new w _
  have hE1 := hE.below hb1
  have hN := parting_ok hS m p q k s _ es (e 14) (e 18) w1 (hE1.s14 (by decide)) (hE1.s18 (by decide)) (hP.below hb1) (hv.below hb1) hm hq hp hq2
  rw [← hL] at hN ⊢
  unfold sysV at hN ⊢
  have H1 : Hid _ := And.intro hw1 (And.intro hb1 (And.intro hN hE))
  obtain ⟨x0, x1, x2, x3⟩ := four_cells hg1
  clear hE hE1 hP hv hm hq hw1 hb1 hg1 hN hL
  go_enter Tryz.func17, Tryz.ntmps17
  go_upto_region 1 with fail
  rw [← H1.out.1]
  go_wp2_with fail
  refine Calls.mono H1.out.2.2.1 ?_
  rintro r w2 ⟨R, hR, hb2, (⟨j, hj, rfl, hne, hall⟩ | ⟨rfl, hall⟩)⟩
  · have hb02 := bel6 hb2 H1.out.2.1
    have hs := (H1.out.2.2.2.below hb02).s18 (by decide)
    have hg := hs.1
    have H2 : Hid _ := And.intro hb02 (And.intro hR (rankG_first (R + 1) 0 (Nat.zero_le _) (by omega) hne hall))
    clear hb2 hR hne hall hb02 hs x0 x1 x2 x3
    go_wp2_with fail
    refine Calls.mono (is_nil5 _ _) ?_
    rintro r w3 ⟨rfl, hw⟩; obtain rfl := hw.symm; clear hw
    go_wp2_with fail
    go_ret2
    refine ⟨R, H2.out.2.1, ?_, H2.out.1⟩
    unfold Ro.rank
    rw [H2.out.2.2]
    rfl
  · have hb02 := bel6 hb2 H1.out.2.1
    have hs := (H1.out.2.2.2.below hb02).s18 (by decide)
    obtain ⟨hg, ca, ta, hba⟩ := hs
    have hI := is_chain (.iface 305 (.pointer (some (e 18)))) [] 0 0 (e 18) (e 18) ca ca ta ta w2 rfl hba hba
    rw [decide_eq_true rfl] at hI
    have H2 : Hid _ := And.intro hb02 (And.intro hR (And.intro hI (rankG_none (m := m) (out := outOf m es) (p := p) (q := q) (R + 1) 0 fun i _ hi => hall i (by omega))))
    clear hb2 hR hall hb02 hba hI x0 x1 x2 x3
    go_wp2_with fail
    refine Calls.mono H2.out.2.2.1 ?_
    rintro r w3 ⟨rfl, hw⟩; obtain rfl := hw.symm; clear hw
    go_wp2_with fail
    go_ret2
    refine ⟨R, H2.out.2.1, ?_, H2.out.1⟩
    unfold Ro.rank
    rw [H2.out.2.2.2]
    rfl
theorem rank_err (k : Nat) (T : TypeId) (u : Value) (ls : List ByteArray) (e : Nat → Addr) (w : World) (hE : Er 19 w e) (hk : 1 ≤ k ∧ k < 18) (hC : Chain w 0 0 (e k) ls (.iface T u)) (hks : ∃ G, Sent w G (e k)) :
    Calls Tryz.prog 83 #[.iface T u, .iface 305 (.pointer (some (e 18)))] w fun r w' => r = .returned (.bool false) ∧ w' = w := by
  obtain ⟨G, _, ca, ta, hba⟩ := hks
  obtain ⟨_, cb, tb, hbb⟩ := hE.s18 (by decide)
  have hI := is_chain (.iface T u) ls 0 0 (e k) (e 18) ca cb ta tb w hC hba hbb
  rw [decide_eq_false (fun h => hE.ne k 18 hk.1 hk.2 (by decide) h.symm)] at hI
  exact hI
set_option maxRecDepth 100000 in
set_option maxHeartbeats 4000000 in
theorem rank_bad (hS : SortOk 1000000) (n k s p q : Int) (v : Value) (es : List Sy.Ed) (e : Nat → Addr) (w : World) (hE : Er 19 w e) (hv : BEdges.Has w v es) (hm : es.length ≤ 100000) (hq : Sy.right n k s es = false) :
    Calls Tryz.prog 17 #[sysV n k s v, .int .i64 p, .int .i64 q] w fun r w' => ∃ b, r = .returned (.tuple #[.int .i64 0, .iface 76 (.pointer (some ⟨b, 0, none⟩))]) ∧ Chain w' 0 0 (e 14) [rndB, sysB] (.iface 76 (.pointer (some ⟨b, 0, none⟩))) ∧ Below w.heap.size w w' := by
  have hv0 := hv
  obtain ⟨ao, cap, rfl, _⟩ := hv0
  obtain ⟨L, hL⟩ : ∃ L, L = es.length := ⟨_, rfl⟩
  obtain ⟨w1, hw1⟩ : ∃ w1, w1 = w.alloc (.cells #[.int .i64 n, .int .i64 k, .int .i64 s, .slice ao L cap] 24) := ⟨_, rfl⟩
  have hb1 : Below w.heap.size w w1 := by rw [hw1]; exact (Below.refl _ _).alloc (Nat.le_refl _) _
  have hg1 : w1.heap[w.heap.size]? = some (.cells #[.int .i64 n, .int .i64 k, .int .i64 s, .slice ao L cap] 24 (0, 0)) := by rw [hw1]; exact heap_alloc_new w _
  have hN := parting_bad hS n k s p q _ es (e 14) w1 ((hE.below hb1).s14 (by decide)) (hv.below hb1) hm hq
  rw [← hL] at hN ⊢
  unfold sysV at hN ⊢
  have H1 : Hid _ := And.intro hw1 (And.intro hb1 (And.intro hN hE))
  obtain ⟨x0, x1, x2, x3⟩ := four_cells hg1
  clear hE hv hm hq hw1 hb1 hg1 hN hL
  go_enter Tryz.func17, Tryz.ntmps17
  go_upto_region 1 with fail
  rw [← H1.out.1]
  go_wp2_with fail
  refine Calls.mono H1.out.2.2.1 ?_
  rintro r w2 ⟨T, u, rfl, hC, hb2⟩
  have hE2 := H1.out.2.2.2.below (bel6 hb2 H1.out.2.1)
  have hI := rank_err 14 T u _ e w2 hE2 (by decide) hC ⟨_, hE2.s14 (by decide)⟩
  have hFt := rfault_any T u w2 (e 14) _ hC
  have hg := (hE2.s18 (by decide)).1
  have H2 : Hid _ := And.intro hFt (And.intro (bel6 hb2 H1.out.2.1) hI)
  clear hC hb2 hFt hE2 hI x0 x1 x2 x3
  go_wp2_with fail
  refine Calls.mono H2.out.2.2 ?_
  rintro r w3 ⟨rfl, hw⟩; obtain rfl := hw.symm; clear hw
  go_wp2_with fail
  refine Calls.mono H2.out.1 ?_
  rintro r w4 ⟨b, rfl, hC4, hb4⟩
  have H4 : Hid _ := And.intro hC4 (bel6 hb4 H2.out.2.1)
  clear hC4 hb4
  go_wp2_with fail
  go_ret2
  exact ⟨_, rfl, H4.out.1, H4.out.2⟩
set_option maxRecDepth 100000 in
set_option maxHeartbeats 4000000 in
theorem rank_idx (hS : SortOk 1000000) (m : Nat) (k s p q : Int) (v : Value) (es : List Sy.Ed) (e : Nat → Addr) (w : World) (hE : Er 19 w e) (hv : BEdges.Has w v es) (hm : es.length ≤ 100000) (hq : Sy.right m k s es = true) (hno : min p q < 0 ∨ (m : Int) ≤ max p q) :
    Calls Tryz.prog 17 #[sysV m k s v, .int .i64 p, .int .i64 q] w fun r w' => ∃ b, r = .returned (.tuple #[.int .i64 0, .iface 76 (.pointer (some ⟨b, 0, none⟩))]) ∧ Chain w' 0 0 (e 3) [rndB] (.iface 76 (.pointer (some ⟨b, 0, none⟩))) ∧ Below w.heap.size w w' := by
  have hv0 := hv
  obtain ⟨ao, cap, rfl, _⟩ := hv0
  obtain ⟨L, hL⟩ : ∃ L, L = es.length := ⟨_, rfl⟩
  obtain ⟨w1, hw1⟩ : ∃ w1, w1 = w.alloc (.cells #[.int .i64 m, .int .i64 k, .int .i64 s, .slice ao L cap] 24) := ⟨_, rfl⟩
  have hb1 : Below w.heap.size w w1 := by rw [hw1]; exact (Below.refl _ _).alloc (Nat.le_refl _) _
  have hg1 : w1.heap[w.heap.size]? = some (.cells #[.int .i64 m, .int .i64 k, .int .i64 s, .slice ao L cap] 24 (0, 0)) := by rw [hw1]; exact heap_alloc_new w _
  have hN := parting_idx hS m k s p q _ es (e 14) (e 3) w1 ((hE.below hb1).s14 (by decide)) ((hE.below hb1).s3 (by decide)) (hv.below hb1) hm hq hno
  rw [← hL] at hN ⊢
  unfold sysV at hN ⊢
  have H1 : Hid _ := And.intro hw1 (And.intro hb1 (And.intro hN hE))
  obtain ⟨x0, x1, x2, x3⟩ := four_cells hg1
  clear hE hv hm hq hw1 hb1 hg1 hN hL hno
  go_enter Tryz.func17, Tryz.ntmps17
  go_upto_region 1 with fail
  rw [← H1.out.1]
  go_wp2_with fail
  refine Calls.mono H1.out.2.2.1 ?_
  rintro r w2 ⟨rfl, hb2⟩
  have hE2 := H1.out.2.2.2.below (bel6 hb2 H1.out.2.1)
  have hC : Chain w2 0 0 (e 3) [] (.iface 305 (.pointer (some (e 3)))) := rfl
  have hI := rank_err 3 _ _ _ e w2 hE2 (by decide) hC ⟨_, hE2.s3 (by decide)⟩
  have hFt := rfault_any _ _ w2 (e 3) _ hC
  have hg := (hE2.s18 (by decide)).1
  have H2 : Hid _ := And.intro hFt (And.intro (bel6 hb2 H1.out.2.1) hI)
  clear hC hb2 hFt hE2 hI x0 x1 x2 x3
  go_wp2_with fail
  refine Calls.mono H2.out.2.2 ?_
  rintro r w3 ⟨rfl, hw⟩; obtain rfl := hw.symm; clear hw
  go_wp2_with fail
  refine Calls.mono H2.out.1 ?_
  rintro r w4 ⟨b, rfl, hC4, hb4⟩
  have H4 : Hid _ := And.intro hC4 (bel6 hb4 H2.out.2.1)
  clear hC4 hb4
  go_wp2_with fail
  go_ret2
  exact ⟨_, rfl, H4.out.1, H4.out.2⟩
end Go.Proofs.YtpmanmoljlhogaaGreatDoor
/- Ranks as a table, and what the statement RoundsFar asks of them. -/
namespace Go.Proofs.YtpmanmoljlhogaaGreatDoor
open Go.RowKit Go.Maps
/-- The ranks in the first k rounds. -/
def rkT (m : Nat) (out : Nat → List Ro.St) (k : Nat) (p q : Nat) : Int := Ro.rankG m out p q 0 k
theorem rkT_cases (m : Nat) (out : Nat → List Ro.St) (p q : Nat) : ∀ k, (∃ j, j < k ∧ rkT m out k p q = (j : Int) ∧ (Ro.rnd m out j)[p]? ≠ (Ro.rnd m out j)[q]? ∧ ∀ i, i < j → (Ro.rnd m out i)[p]? = (Ro.rnd m out i)[q]?) ∨ (rkT m out k p q = -1 ∧ ∀ i, i < k → (Ro.rnd m out i)[p]? = (Ro.rnd m out i)[q]?) := by
  intro k
  by_cases h : ∃ j, j < k ∧ (Ro.rnd m out j)[p]? ≠ (Ro.rnd m out j)[q]?
  · obtain ⟨j, hj, hd, hmin⟩ : ∃ j, j < k ∧ (Ro.rnd m out j)[p]? ≠ (Ro.rnd m out j)[q]? ∧ ∀ i, i < j → (Ro.rnd m out i)[p]? = (Ro.rnd m out i)[q]? := by
      obtain ⟨j, hj, hd⟩ := h
      induction j using Nat.strongRecOn with
      | ind j ih =>
        by_cases h2 : ∃ i, i < j ∧ (Ro.rnd m out i)[p]? ≠ (Ro.rnd m out i)[q]?
        · obtain ⟨i, hi, hdi⟩ := h2
          exact ih i hi (by omega) hdi
        · exact ⟨j, hj, hd, fun i hi => Classical.byContradiction fun e => h2 ⟨i, hi, e⟩⟩
    exact .inl ⟨j, hj, rankG_first k 0 (Nat.zero_le _) (by omega) hd hmin, hd, hmin⟩
  · exact .inr ⟨rankG_none k 0 fun i _ hi => Classical.byContradiction fun e => h ⟨i, by omega, e⟩, fun i hi => Classical.byContradiction fun e => h ⟨i, hi, e⟩⟩
/-- A round more, as note has it. -/
theorem rkT_succ (m : Nat) (out : Nat → List Ro.St) (k p q : Nat) : nt (rkT m out k) (Ro.rnd m out k) k p q = rkT m out (k + 1) p q := by
  unfold nt
  rcases rkT_cases m out p q k with ⟨j, hj, e, hd, hmin⟩ | ⟨e, hall⟩
  · rw [if_neg (fun h => by rw [e] at h; omega), e]
    exact (rankG_first (k + 1) 0 (Nat.zero_le _) (by omega) hd hmin).symm
  · by_cases h : (Ro.rnd m out k)[p]? = (Ro.rnd m out k)[q]?
    · rw [if_neg (fun h2 => h2.2 h), e]
      refine (rankG_none (k + 1) 0 fun i _ hi => ?_).symm
      rcases Nat.lt_or_ge i k with h1 | h1
      · exact hall i h1
      · obtain rfl : i = k := by omega
        exact h
    · rw [if_pos ⟨e, h⟩]
      exact (rankG_first (k + 1) 0 (Nat.zero_le _) (by omega) h hall).symm
theorem rkT_zero (m : Nat) (out : Nat → List Ro.St) (p q : Nat) : rkT m out 0 p q = -1 := rfl
theorem rkT_self (m : Nat) (out : Nat → List Ro.St) (k p : Nat) : rkT m out k p p = -1 := by
  rcases rkT_cases m out p p k with ⟨j, _, _, hd, _⟩ | ⟨e, _⟩
  · exact absurd rfl hd
  · exact e
theorem rkT_comm (m : Nat) (out : Nat → List Ro.St) (k p q : Nat) : rkT m out k p q = rkT m out k q p := by
  rcases rkT_cases m out p q k with ⟨j, hj, e, hd, hmin⟩ | ⟨e, hall⟩
  · rw [e]
    exact (rankG_first k 0 (Nat.zero_le _) (by omega) (fun h => hd h.symm) (fun i hi => (hmin i hi).symm)).symm
  · rw [e]
    exact (rankG_none k 0 fun i _ hi => (hall i (by omega)).symm).symm
theorem rkT_ne0 (m : Nat) (out : Nat → List Ro.St) (k : Nat) {p q : Nat} (hp : p < m) (hq : q < m) : rkT m out k p q ≠ 0 := by
  rcases rkT_cases m out p q k with ⟨j, hj, e, hd, hmin⟩ | ⟨e, hall⟩
  · rw [e]
    intro h
    obtain rfl : j = 0 := by omega
    exact hd (by simp [Ro.rnd, hp, hq])
  · rw [e]; decide
theorem rkT_lt (m : Nat) (out : Nat → List Ro.St) (k p q : Nat) : -1 ≤ rkT m out k p q ∧ rkT m out k p q < max k 1 := by
  rcases rkT_cases m out p q k with ⟨j, hj, e, _⟩ | ⟨e, _⟩ <;> omega
/-- A rank, that of none as a great one. -/
def farI (x : Int) : Int := if x < 0 then 1048576 else x
theorem rkT_far (m : Nat) (out : Nat → List Ro.St) (k p q r : Nat) (hk : k ≤ 1001) : ¬ farI (rkT m out k p r) < min (farI (rkT m out k p q)) (farI (rkT m out k q r)) := by
  unfold farI
  rcases rkT_cases m out p r k with ⟨j, hj, e, hd, _⟩ | ⟨e, _⟩
  · rw [e, if_neg (by omega)]
    intro h
    have one : ∀ a b, (j : Int) < (if rkT m out k a b < 0 then 1048576 else rkT m out k a b) → (Ro.rnd m out j)[a]? = (Ro.rnd m out j)[b]? := fun a b h1 => by
      rcases rkT_cases m out a b k with ⟨i, hi, e2, _, hmin⟩ | ⟨_, hall⟩
      · rw [e2, if_neg (by omega)] at h1
        exact hmin j (by omega)
      · exact hall j hj
    exact hd ((one p q (by omega)).trans (one q r (by omega)))
  · rw [e, if_pos (by omega)]
    have h1 := rkT_lt m out k p q
    have h2 := rkT_lt m out k q r
    split <;> omega
/-- The table stands while other blocks turn. -/
theorem rk_own (T m : Nat) (rb : Nat → Nat) (f : List Rd → Nat → Nat → Int) : Own (fun (pre : List Rd) W => RkAt W T m rb (f pre) ∧ ∃ cs t fr, W.heap[T]? = some (.cells cs t fr)) := fun s W W' row hs hg hr => by
  obtain ⟨h, ct, tt, fr, hT⟩ := hs
  have up : ∀ (b : Nat) (cs : Array Value) (t : TypeId) (fr : Nat × Nat), W.heap[b]? = some (.cells cs t fr) → W'.heap[b]? = W.heap[b]? := fun b cs t fr hc => by
    have h1 : some b ≠ row := fun e => by
      obtain ⟨o, ho, hoc⟩ := hr b e.symm
      rw [hc] at ho
      cases ho
      cases hoc
    exact hg.block b (t_lt hc) h1
  refine ⟨⟨fun p hp => ?_, fun p hp => ?_, h.ne, h.tn⟩, ct, tt, fr, (up T _ _ _ hT).trans hT⟩
  · rw [cell_block (up T _ _ _ hT)]
    exact h.tab p hp
  · obtain ⟨cs, h1, h2⟩ := h.row p hp
    exact ⟨cs, (up _ _ _ _ h1).trans h1, h2⟩
end Go.Proofs.YtpmanmoljlhogaaGreatDoor
