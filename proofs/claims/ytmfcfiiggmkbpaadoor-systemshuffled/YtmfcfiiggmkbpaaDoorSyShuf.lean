/- SystemShuffled as a call. (Written by mkshuf.py.) -/
import Derived.Test.YtmfcfiiggmkbpaaDoorPart5
import Derived.Test.YtmfcfiiggmkbpaaDoorPart7
import Derived.Test.YtmfcfiiggmkbpaaDoorPart9
import Derived.Test.YtmfcfiiggmkbpaaDoorPart10
namespace Go.Proofs.YtmfcfiiggmkbpaaDoor
open Go.RowKit Go.Maps
attribute [local go_sem ↓] Go.wp_at_zero Go.wp_at_succ
theorem step_append_own_at {P : Program} {ops : Array Oper} {o : Oper} {a : Act} (w : World) {K : Act → World → Prop} {Q : Exit → Act → World → Prop} {E : Prop}
    (hg : o.guard = none) (s x : Operand) (t : TypeId) (ho : o.op = Op.call { callee := Callee.builtin Builtin.append, args := #[s, x], argTypes := #[t, t] })
    (base : Nat) (e : TypeId) (i : TypeInfo) (z : Value) (size bytes : Nat) (ht : P.underlying t = some (.slice e)) (hi : P.info? e = some i) (hz : i.zero = some z)
    (hsize : i.size = size) (hby : i.bytes = bytes) (hzs : z.cells.size = size) (hsz : 0 < size)
    (v : Value) (n : Nat) (xs : List Value) (hs : a.eval s = v) (hown : w.ownsRow base e size v n xs)
    (ad : Addr) (m c : Nat) (news : List Value) (hx : a.eval x = .slice (some ad) m c) (hl : news.length = m * size) (hnews : ∀ j u, news[j]? = some u → w.cell? (ad.add j) = some u) (h1 : ∀ u ∈ news, u.oneCell' = true)
    (h63 : n + m ≤ maxLen) (hbytes : (n + m) * bytes ≤ 140737488355328) (hbase : base ≤ w.heap.size)
    (h : ∀ v' w', w'.ownsRow base e size v' (n + m) (xs ++ news) → w.grownBy w' v.ownBlock → K (a.put o.dst v') w') :
    if Region.wanted o (yielded ops a.tmps) = true then Oper.wp P o a w K Q else E := by
  have hw : Region.wanted o (yielded ops a.tmps) = true := by simp [Region.wanted, hg]
  rw [if_pos hw]
  obtain ⟨v', w', hr, h2, h3, _⟩ := run_append_own_at (P := P) w base t o.type e i z size bytes ht hi hz hsize hby hzs hsz v n xs hown ad m c news hl hnews h1 h63 hbytes hbase
  unfold Oper.wp
  simp [execOp, ho, resolve, invoke, builtin, hs, hx, hr, Result.andThen]
  exact h _ _ h2 h3
theorem C_drop (es : List BEdges.El) (K : Nat) : BEdges.C (es.drop K) = (BEdges.C es).drop (K * 3) := by
  conv => rhs; rw [← List.take_append_drop K es, BEdges.C_app]
  by_cases h : K ≤ es.length
  · have h1 : (BEdges.C (es.take K)).length = K * 3 := by rw [BEdges.C_len, List.length_take]; omega
    rw [← h1, List.drop_left]
  · have h1 : es.drop K = [] := List.drop_eq_nil_of_le (by omega)
    rw [h1]
    simp only [BEdges.C, List.flatMap_nil, List.append_nil]
    rw [List.drop_eq_nil_of_le]
    have := BEdges.C_len (es.take K)
    unfold BEdges.C at this
    rw [this, List.length_take]
    omega
theorem C_take (es : List BEdges.El) (K : Nat) (h : K ≤ es.length) : BEdges.C (es.take K) = (BEdges.C es).take (K * 3) := by
  conv => rhs; rw [← List.take_append_drop K es, BEdges.C_app]
  have h1 : (BEdges.C (es.take K)).length = K * 3 := by rw [BEdges.C_len, List.length_take]; omega
  rw [← h1, List.take_left]
theorem bel8 {w W w8 : World} (hb : Below W.heap.size W w8) (h : Below w.heap.size w W) : Below w.heap.size w w8 := h.trans (hb.mono h.size)
theorem cellk7 {W : World} {a : Addr} {b : Nat} {x u : Value} (h : W.cell? a = some x) (hne : a.block ≠ b) : (W.setCell ⟨b, 3, none⟩ u).cell? a = some x := (World.cell?_of_block (a := a) (set_other _ _ _ _ _ hne)).trans h
theorem own_new {W : World} {B : Nat} {e : TypeId} {sz n b : Nat} {v : Value} {xs : List Value} {P : Prop} (h : Hid (W.ownsRow B e sz v n xs ∧ P)) (hb : v.ownBlock = some b) : B ≤ b := (h.out.1.lt b hb).1
/-- Behind the shuffling: both boxes. -/
structure ShAt (w w1 w2 wx : World) (n k s : Int) (a : Addr) (L cap : Nat) (es : List Sy.Ed) (K : Nat) (x : Sy.Ed) : Prop where
  u : ∃ u, wx.heap[w1.heap.size]? = some (.cells #[.int .i64 n, .int .i64 k, .int .i64 s, u] 24 (0, 0)) ∧ BEdges.Own wx w2.heap.size u (Sy.shuf es K x)
  b : wx.heap[w.heap.size]? = some (.cells #[.int .i64 n, .int .i64 k, .int .i64 s, .slice (some a) L cap] 24 (0, 0))
  bl : Below w.heap.size w wx
theorem shAt_of {w w1 w2 w6 : World} {n k s : Int} {a : Addr} {L cap : Nat} {es : List Sy.Ed} {K : Nat} {x : Sy.Ed} {a6 : Option Addr} {k6 : Nat} (hgT : w2.heap[w1.heap.size]? = some (.cells #[.int .i64 n, .int .i64 k, .int .i64 s, .slice (some a) L cap] 24 (0, 0))) (hgS : w2.heap[w.heap.size]? = some (.cells #[.int .i64 n, .int .i64 k, .int .i64 s, .slice (some a) L cap] 24 (0, 0))) (hb02 : Below w.heap.size w w2) (hL : L = es.length) (hw : w.heap.size < w1.heap.size) (hK : K < es.length)
    (hO : w6.ownsRow w2.heap.size 49 3 (.slice a6 (L - K + K + 1) k6) (L - K + K + 1) (BEdges.C (es.drop K) ++ BEdges.C (es.take K) ++ [.int .i64 x.1, .int .i64 x.2.1, .int .i64 x.2.2])) (hb : Below w2.heap.size w2 w6) : ShAt w w1 w2 (w6.setCell ⟨w1.heap.size, 3, none⟩ (.slice a6 (L - K + K + 1) k6)) n k s a L cap es K x := by
  have h1 := res_up7 hb hgT
  have h2 := res_up7 hb hgS
  have h3 := heap_setCell_same w6 w1.heap.size 3 _ _ (.slice a6 (L - K + K + 1) k6) h1
  have hlt := t_lt hgT
  refine ⟨⟨_, h3, ?_⟩, (set_other _ _ _ _ _ (by omega)).trans h2, (hb02.trans (hb.mono hb02.size)).setCell (Nat.le_of_lt hw) _⟩
  have h4 : w6.ownsRow w2.heap.size 49 3 (.slice a6 (L - K + K + 1) k6) (Sy.shuf es K x).length (BEdges.C (Sy.shuf es K x)) := by
    have e1 : BEdges.C (Sy.shuf es K x) = BEdges.C (es.drop K) ++ BEdges.C (es.take K) ++ [.int .i64 x.1, .int .i64 x.2.1, .int .i64 x.2.2] := by
      unfold Sy.shuf
      rw [BEdges.C_snoc, BEdges.C_app]
      rfl
    have e2 : (Sy.shuf es K x).length = L - K + K + 1 := by
      unfold Sy.shuf
      simp only [List.length_append, List.length_drop, List.length_take, List.length_singleton]
      omega
    rw [e1, e2]
    exact hO
  exact trow_at h4 fun i hi => set_other _ _ _ _ _ (by have := (h4.lt i hi).1; omega)
set_option maxRecDepth 100000 in
set_option maxHeartbeats 16000000 in
set_option linter.unusedSimpArgs false in
theorem lawShuf_ok (hS : SortOk 1000000) (n k s : Int) (v : Value) (es : List Sy.Ed) (by_ : Int) (e : Nat → Addr) (w : World) (hA : PAlive w) (hE : Er 19 w e) (hv : HasE w v es) (hlen : es.length ≤ 300) (h0 : 0 < es.length) :
    Calls Tryd.prog 5 #[sysV n k s v, .int .i64 by_] w fun r w' => r = .returned (.bool true) ∧ Below w.heap.size w w' := by
  obtain ⟨i0, hi0, hz0, hz1, hz2⟩ := info_parts BEdges.Tryd.infoE
  obtain ⟨ao, cap, rfl, hcap, hH⟩ := hv
  obtain ⟨L, hL⟩ : ∃ L, L = es.length := ⟨_, rfl⟩
  rw [← hL] at hcap hlen h0 ⊢
  obtain ⟨z0, hz00⟩ : ∃ z, es[0]? = some z := ⟨es[0]'(by omega), List.getElem?_eq_getElem _⟩
  obtain ⟨a, rfl, _, _, _⟩ := edge_at hH hz00
  have HV : Hid (BEdges.Has w (.slice (some a) L cap) es ∧ L = es.length ∧ PAlive w ∧ Er 19 w e) := (by rw [hL]; exact ⟨hH, rfl, hA, hE⟩ : BEdges.Has w (.slice (some a) L cap) es ∧ L = es.length ∧ PAlive w ∧ Er 19 w e)
  obtain ⟨w1, hw1⟩ : ∃ w1, w1 = w.alloc (.cells #[.int .i64 n, .int .i64 k, .int .i64 s, .slice (some a) L cap] 24) := ⟨_, rfl⟩
  have hb1 : Below w.heap.size w w1 := by rw [hw1]; exact (Below.refl _ _).alloc (Nat.le_refl _) _
  have hgS : w1.heap[w.heap.size]? = some (.cells #[.int .i64 n, .int .i64 k, .int .i64 s, .slice (some a) L cap] 24 (0, 0)) := by rw [hw1]; exact heap_alloc_new w _
  have HW1 : Hid _ := And.intro hw1 (And.intro hb1 hgS)
  have s0 := cell0_of (k := 0) hgS rfl
  have s1 := cell0_of (k := 1) hgS rfl
  have s2 := cell0_of (k := 2) hgS rfl
  have s3 := cell0_of (k := 3) hgS rfl
  unfold sysV
  have q1 : ¬ (300 : Int) < (L : Int) := by omega
  have q2 : ((L : Int) == 0) = false := by simp; omega
  have q3 : ¬ (L : Int) = 0 := by omega
  have q4 : ¬ L = 0 := by omega
  have m1 : -(L : Int) < by_.tmod (L : Int) := by have := Int.lt_tmod_of_pos by_ (show (0 : Int) < L by omega); omega
  have m2 : by_.tmod (L : Int) < (L : Int) := Int.tmod_lt_of_pos by_ (by omega)
  obtain ⟨md, hmd⟩ : ∃ md, md = by_.tmod (L : Int) := ⟨_, rfl⟩
  have m3 : IntKind.i64.wrap md = md := by rw [IntKind.wrap_i64]; omega
  rw [← hmd] at m1 m2
  have m4 : by_.tmod (L : Int) = md := hmd.symm
  have m5 : IntKind.i64.wrap (md + (L : Int)) = md + (L : Int) := by rw [IntKind.wrap_i64]; omega
  clear hA hE hH hL hz00 hw1 hb1 hgS hmd
  go_enter Tryd.func5, Tryd.ntmps5
  go_upto_if 28 with fail
  rw [← HW1.out.1]
  go_cut [5] (fun s5 wx => ∃ K : Nat, s5 = .int .i64 K ∧ K < L ∧ wx = w1)
  case first =>
    by_cases hneg : md < 0
    · go_wp2_with fail
      go_meet
      exact ⟨(md + L).toNat, by rw [Int.toNat_of_nonneg (by omega)], by omega, rfl⟩
    · go_wp2_with fail
      go_meet
      exact ⟨md.toNat, by rw [Int.toNat_of_nonneg (by omega)], by omega, rfl⟩
  case rest =>
    obtain ⟨K, rfl, hK, hwc⟩ := hcut
    obtain rfl := hwc.symm
    clear hwc
    obtain ⟨⟨x1, x2, x3⟩, hx⟩ : ∃ x, es[K]? = some x := ⟨es[K]'(by have := HV.out.2.1; omega), List.getElem?_eq_getElem _⟩
    obtain ⟨a', ha', e0, e1, e2⟩ := edge_at HV.out.1 hx
    obtain rfl : a = a' := Option.some.inj ha'
    simp only at e0 e1 e2
    have HEs : Hid _ := e0
    obtain ⟨w2, hw2⟩ : ∃ w2, w2 = w1.alloc (.cells #[.int .i64 n, .int .i64 k, .int .i64 s, .slice (some a) L cap] 24) := ⟨_, rfl⟩
    have hb2 : Below w1.heap.size w1 w2 := by rw [hw2]; exact (Below.refl _ _).alloc (Nat.le_refl _) _
    have hgT : w2.heap[w1.heap.size]? = some (.cells #[.int .i64 n, .int .i64 k, .int .i64 s, .slice (some a) L cap] 24 (0, 0)) := by rw [hw2]; exact heap_alloc_new w1 _
    have hb02 : Below w.heap.size w w2 := bel8 hb2 HW1.out.2.1
    have HW2 : Hid _ := And.intro hw2 (And.intro hb02 (And.intro hgT (And.intro (res_up7 hb2 HW1.out.2.2) hx)))
    have t3 := cell_up s3 hb2
    have e0 := cellu7 e0 hb02
    have e1 := cellu7 e1 hb02
    have e2 := cellu7 e2 hb02
    have p0 : (0 : Int) ≤ (K : Int) := by omega
    have p1 : (K : Int) < (L : Int) := by omega
    have p2 : (K : Int) ≤ (L : Int) := by omega
    have p3 : (K : Int) ≤ (cap : Int) := by omega
    have p4 : ¬ cap = K := by omega
    have p5 : (L : Int) ≤ (cap : Int) := by omega
    clear ha' hw2 hb2 hgT hb02 hx
    go_upto_region 7 with fail
    rw [← HW2.out.1]
    have hL' := HV.out.2.1
    have hw01 : w.heap.size < w1.heap.size := t_lt HW1.out.2.2
    have hK' : K < es.length := by omega
    have hl1 : (BEdges.C (es.drop K)).length = (L - K) * 3 := by rw [BEdges.C_len, List.length_drop]; omega
    have hl2 : (BEdges.C (es.take K)).length = K * 3 := by rw [BEdges.C_len, List.length_take]; omega
    have hm1 : L - K ≤ maxLen := by unfold maxLen; omega
    have hy1 : (L - K) * 24 ≤ 140737488355328 := by omega
    have hm2 : L - K + K ≤ maxLen := by unfold maxLen; omega
    have hy2 : (L - K + K) * 24 ≤ 140737488355328 := by omega
    have hm3 : L - K + K + 1 ≤ maxLen := by unfold maxLen; omega
    have hy3 : (L - K + K + 1) * 24 ≤ 140737488355328 := by omega
    have HN1 : Hid (∀ W, Below w2.heap.size w2 W → ∀ ad, some (a.add (K * 3)) = some ad → ∀ (j : Nat) (u : Value), (BEdges.C (es.drop K))[j]? = some u → W.cell? (ad.add j) = some u) := (fun W hW ad had j u hj => by
      obtain rfl := Option.some.inj had
      obtain ⟨ao2, cap2, hsl, hcs⟩ := HV.out.1.below (bel8 hW HW2.out.2.1)
      rw [C_drop, List.getElem?_drop] at hj
      obtain ⟨a2, ha2, hc2⟩ := hcs _ _ hj
      injection hsl with i1 i2 i3
      obtain rfl := Option.some.inj (i1.trans ha2)
      rw [BEdges.add_q]
      exact hc2 : ∀ W, Below w2.heap.size w2 W → ∀ ad, some (a.add (K * 3)) = some ad → ∀ (j : Nat) (u : Value), (BEdges.C (es.drop K))[j]? = some u → W.cell? (ad.add j) = some u)
    have HN2 : Hid (∀ W, Below w2.heap.size w2 W → ∀ (j : Nat) (u : Value), (BEdges.C (es.take K))[j]? = some u → W.cell? (a.add j) = some u) := (fun W hW j u hj => by
      obtain ⟨ao2, cap2, hsl, hcs⟩ := HV.out.1.below (bel8 hW HW2.out.2.1)
      have hlt := (List.getElem?_eq_some_iff.1 hj).1
      rw [C_take es K (by omega), List.getElem?_take_of_lt (by omega)] at hj
      obtain ⟨a2, ha2, hc2⟩ := hcs _ _ hj
      injection hsl with i1 i2 i3
      obtain rfl := Option.some.inj (i1.trans ha2)
      exact hc2 : ∀ W, Below w2.heap.size w2 W → ∀ (j : Nat) (u : Value), (BEdges.C (es.take K))[j]? = some u → W.cell? (a.add j) = some u)
    have HS : Hid (∀ W, Below w2.heap.size w2 W → (fun w' => w'.cell? ⟨w.heap.size, 3, none⟩ = some (.slice (some a) L cap) ∧ w'.cell? (a.add (K * 3)) = some (.int .i64 x1) ∧ w'.cell? ⟨(a.add (K * 3)).block, (a.add (K * 3)).off + 1, none⟩ = some (.int .i64 x2) ∧ w'.cell? ⟨(a.add (K * 3)).block, (a.add (K * 3)).off + 2, none⟩ = some (.int .i64 x3)) W) := (fun W hW => ⟨cell_up t3 hW, cellu7 e0 hW, cellu7 e1 hW, cellu7 e2 hW⟩ : ∀ W, Below w2.heap.size w2 W → (fun w' => w'.cell? ⟨w.heap.size, 3, none⟩ = some (.slice (some a) L cap) ∧ w'.cell? (a.add (K * 3)) = some (.int .i64 x1) ∧ w'.cell? ⟨(a.add (K * 3)).block, (a.add (K * 3)).off + 1, none⟩ = some (.int .i64 x2) ∧ w'.cell? ⟨(a.add (K * 3)).block, (a.add (K * 3)).off + 2, none⟩ = some (.int .i64 x3)) W)
    have hne : ¬ w.heap.size = w1.heap.size := by have := HW1.out.2.1.size; have := t_lt HW1.out.2.2; omega
    have hnb : (a.add (K * 3)).block ≠ w1.heap.size := by
      have h1 := World.block_lt_of_cell? w _ HEs.out
      have h2 := HW1.out.2.1.size
      omega
    have HSt : Hid (∀ W (u : Value), Below w2.heap.size w2 W → (fun w' => w'.cell? ⟨w.heap.size, 3, none⟩ = some (.slice (some a) L cap) ∧ w'.cell? (a.add (K * 3)) = some (.int .i64 x1) ∧ w'.cell? ⟨(a.add (K * 3)).block, (a.add (K * 3)).off + 1, none⟩ = some (.int .i64 x2) ∧ w'.cell? ⟨(a.add (K * 3)).block, (a.add (K * 3)).off + 2, none⟩ = some (.int .i64 x3)) (W.setCell ⟨w1.heap.size, 3, none⟩ u)) := (fun W u hW => by
      obtain ⟨j0, j1, j2, j3⟩ := HS.out W hW
      exact ⟨cellk7 j0 (fun e => hne e), cellk7 j1 hnb, cellk7 j2 hnb, cellk7 j3 hnb⟩ : ∀ W (u : Value), Below w2.heap.size w2 W → (fun w' => w'.cell? ⟨w.heap.size, 3, none⟩ = some (.slice (some a) L cap) ∧ w'.cell? (a.add (K * 3)) = some (.int .i64 x1) ∧ w'.cell? ⟨(a.add (K * 3)).block, (a.add (K * 3)).off + 1, none⟩ = some (.int .i64 x2) ∧ w'.cell? ⟨(a.add (K * 3)).block, (a.add (K * 3)).off + 2, none⟩ = some (.int .i64 x3)) (W.setCell ⟨w1.heap.size, 3, none⟩ u))
    clear hL' t3 hnb hne
    go_cut [51] (fun s51 wx => ShAt w w1 w2 wx n k s a L cap es K (x1, x2, x3))
    case first =>
      refine wp_region_held_drew (S := (fun w' => w'.cell? ⟨w.heap.size, 3, none⟩ = some (.slice (some a) L cap) ∧ w'.cell? (a.add (K * 3)) = some (.int .i64 x1) ∧ w'.cell? ⟨(a.add (K * 3)).block, (a.add (K * 3)).off + 1, none⟩ = some (.int .i64 x2) ∧ w'.cell? ⟨(a.add (K * 3)).block, (a.add (K * 3)).off + 2, none⟩ = some (.int .i64 x3))) (by kernel_rfl) ?_ (fun hHeld => ?_)
      · exact HS.out _ ((Below.refl _ _).drew)
      refine wpAnyH_take (i := 0) (oi := _) (v := ?_) rfl (by kernel_rfl) (by kernel_rfl) (by kernel_rfl) (fun _ _ _ h => h) (Or.inl ⟨by rfl, ?_⟩) (by assumption) ?_
      rotate_left
      · (intro w hSw; obtain ⟨v0, v1, v2, v3⟩ := hSw; go_simp; (try with_reducible rfl))
      (try simp only [List.getElem_toArray, List.getElem_cons_succ, List.getElem_cons_zero, Act.put, List.setIfInBounds_toArray, List.set_cons_zero, List.set_cons_succ])
      refine wpAnyH_take (i := 1) (oi := _) (v := ?_) rfl (by kernel_rfl) (by kernel_rfl) (by kernel_rfl) (fun _ _ _ h => h) (Or.inl ⟨by rfl, ?_⟩) (by assumption) ?_
      rotate_left
      · (intro w hSw; obtain ⟨v0, v1, v2, v3⟩ := hSw; go_simp; (try with_reducible rfl))
      (try simp only [List.getElem_toArray, List.getElem_cons_succ, List.getElem_cons_zero, Act.put, List.setIfInBounds_toArray, List.set_cons_zero, List.set_cons_succ])
      refine wpAnyH_take (i := 2) (oi := _) (v := ?_) rfl (by kernel_rfl) (by kernel_rfl) (by kernel_rfl) (fun _ _ _ h => h) (Or.inl ⟨by rfl, ?_⟩) (by assumption) ?_
      rotate_left
      · (intro w hSw; obtain ⟨v0, v1, v2, v3⟩ := hSw; go_simp; (try with_reducible rfl))
      (try simp only [List.getElem_toArray, List.getElem_cons_succ, List.getElem_cons_zero, Act.put, List.setIfInBounds_toArray, List.set_cons_zero, List.set_cons_succ])
      refine wpAnyH_take (i := 3) (oi := _) (v := ?_) rfl (by kernel_rfl) (by kernel_rfl) (by kernel_rfl) (fun _ _ _ h => h) (Or.inl ⟨by rfl, ?_⟩) (by assumption) ?_
      rotate_left
      · (intro w hSw; obtain ⟨v0, v1, v2, v3⟩ := hSw; go_simp; (try with_reducible rfl))
      (try simp only [List.getElem_toArray, List.getElem_cons_succ, List.getElem_cons_zero, Act.put, List.setIfInBounds_toArray, List.set_cons_zero, List.set_cons_succ])
      refine wpAnyH_take (i := 5) (oi := _) (v := ?_) rfl (by kernel_rfl) (by kernel_rfl) (by kernel_rfl) (fun _ _ _ h => h) (Or.inl ⟨by rfl, ?_⟩) (by assumption) ?_
      rotate_left
      · (intro w hSw; obtain ⟨v0, v1, v2, v3⟩ := hSw; go_simp; (try with_reducible rfl))
      (try simp only [List.getElem_toArray, List.getElem_cons_succ, List.getElem_cons_zero, Act.put, List.setIfInBounds_toArray, List.set_cons_zero, List.set_cons_succ])
      refine wpAnyH_take (i := 6) (oi := _) (v := ?_) rfl (by kernel_rfl) (by kernel_rfl) (by kernel_rfl) (fun _ _ _ h => h) (Or.inl ⟨by rfl, ?_⟩) (by assumption) ?_
      rotate_left
      · (intro w hSw; obtain ⟨v0, v1, v2, v3⟩ := hSw; go_simp; (try with_reducible rfl))
      (try simp only [List.getElem_toArray, List.getElem_cons_succ, List.getElem_cons_zero, Act.put, List.setIfInBounds_toArray, List.set_cons_zero, List.set_cons_succ])
      refine wpAnyH_take (i := 7) (oi := _) (v := ?_) rfl (by kernel_rfl) (by kernel_rfl) (by kernel_rfl) (fun _ _ _ h => h) (Or.inl ⟨by rfl, ?_⟩) (by assumption) ?_
      rotate_left
      · (intro w hSw; obtain ⟨v0, v1, v2, v3⟩ := hSw; go_simp; (try with_reducible rfl))
      (try simp only [List.getElem_toArray, List.getElem_cons_succ, List.getElem_cons_zero, Act.put, List.setIfInBounds_toArray, List.set_cons_zero, List.set_cons_succ])
      refine wpAnyH_take (i := 8) (oi := _) (v := ?_) rfl (by kernel_rfl) (by kernel_rfl) (by kernel_rfl) (fun _ _ _ h => h) (Or.inl ⟨by rfl, ?_⟩) (by assumption) ?_
      rotate_left
      · (intro w hSw; obtain ⟨v0, v1, v2, v3⟩ := hSw; go_simp; (try with_reducible rfl))
      (try simp only [List.getElem_toArray, List.getElem_cons_succ, List.getElem_cons_zero, Act.put, List.setIfInBounds_toArray, List.set_cons_zero, List.set_cons_succ])
      refine wpAnyH_take (i := 10) (oi := _) (v := ?_) rfl (by kernel_rfl) (by kernel_rfl) (by kernel_rfl) (fun _ _ _ h => h) (Or.inl ⟨by rfl, ?_⟩) (by assumption) ?_
      rotate_left
      · (intro w hSw; obtain ⟨v0, v1, v2, v3⟩ := hSw; go_simp; (try with_reducible rfl))
      (try simp only [List.getElem_toArray, List.getElem_cons_succ, List.getElem_cons_zero, Act.put, List.setIfInBounds_toArray, List.set_cons_zero, List.set_cons_succ])
      refine wpAnyH_take (i := 11) (oi := _) (v := ?_) rfl (by kernel_rfl) (by kernel_rfl) (by kernel_rfl) (fun _ _ _ h => h) (Or.inl ⟨by rfl, ?_⟩) (by assumption) ?_
      rotate_left
      · (intro w hSw; obtain ⟨v0, v1, v2, v3⟩ := hSw; go_simp; (try with_reducible rfl))
      (try simp only [List.getElem_toArray, List.getElem_cons_succ, List.getElem_cons_zero, Act.put, List.setIfInBounds_toArray, List.set_cons_zero, List.set_cons_succ])
      refine wpAnyH_take (i := 12) (oi := _) (v := ?_) rfl (by kernel_rfl) (by kernel_rfl) (by kernel_rfl) (fun _ _ _ h => h) (Or.inl ⟨by rfl, ?_⟩) (by assumption) ?_
      rotate_left
      · (intro w hSw; obtain ⟨v0, v1, v2, v3⟩ := hSw; go_simp; (try with_reducible rfl))
      (try simp only [List.getElem_toArray, List.getElem_cons_succ, List.getElem_cons_zero, Act.put, List.setIfInBounds_toArray, List.set_cons_zero, List.set_cons_succ])
      refine wpAnyH_take (i := 13) (oi := _) (v := ?_) rfl (by kernel_rfl) (by kernel_rfl) (by kernel_rfl) (fun _ _ _ h => h) (Or.inl ⟨by rfl, ?_⟩) (by assumption) ?_
      rotate_left
      · (intro w hSw; obtain ⟨v0, v1, v2, v3⟩ := hSw; go_simp; (try with_reducible rfl))
      (try simp only [List.getElem_toArray, List.getElem_cons_succ, List.getElem_cons_zero, Act.put, List.setIfInBounds_toArray, List.set_cons_zero, List.set_cons_succ])
      refine wpAnyH_take (i := 14) (oi := _) (v := ?_) rfl (by kernel_rfl) (by kernel_rfl) (by kernel_rfl) (fun _ _ _ h => h) (Or.inl ⟨by rfl, ?_⟩) (by assumption) ?_
      rotate_left
      · (intro w hSw; obtain ⟨v0, v1, v2, v3⟩ := hSw; go_simp; (try with_reducible rfl))
      (try simp only [List.getElem_toArray, List.getElem_cons_succ, List.getElem_cons_zero, Act.put, List.setIfInBounds_toArray, List.set_cons_zero, List.set_cons_succ])
      refine wpAnyH_ready (rs := [4, 15]) (by kernel_rfl) (by simp) ?_
      refine AllReadyH.cons (o := _) rfl (fun KK hKK => ?_) ?_
      · refine step_copy_at _ (by rfl) _ _ _ (by rfl) w2.heap.size 49 i0 _ 3 24 Tryd.underlying22 hi0 hz0 hz1 hz2 rfl (by decide) (by rfl) (some (a.add (K * 3))) (L - K) (cap - K) (BEdges.C (es.drop K)) (by rfl) (by simp) hl1 (HN1.out _ (by repeat (first | exact Below.refl _ _ | assumption | refine Below.drew ?_ | refine Below.alloc ?_ (by first | (simp; done) | (simp; omega) | omega) _))) (BEdges.C_one _) hm1 hy1 (by first | (simp; done) | (simp; omega) | omega) ?_
        intro v9 w9 hO9 hg9
        have hb9 : Below w2.heap.size w2 w9 := bel8 (tgrown0 hg9) (by repeat (first | exact Below.refl _ _ | assumption | refine Below.drew ?_ | refine Below.alloc ?_ (by first | (simp; done) | (simp; omega) | omega) _))
        have hz9 := hb9.size
        obtain ⟨a9, k9, rfl⟩ := row_shape hO9
        have H9 : Hid (w9.ownsRow w2.heap.size 49 3 (.slice a9 (L - K) k9) (L - K) (BEdges.C (es.drop K)) ∧ Below w2.heap.size w2 w9) := ⟨hO9, hb9⟩
        clear hO9 hg9
        refine hKK.out _ _ ?_ (fun hHeld => ?_)
        · exact HS.out _ (by repeat (first | exact Below.refl _ _ | assumption | refine Below.drew ?_ | refine Below.alloc ?_ (by first | (simp; done) | (simp; omega) | omega) _))
        clear hKK KK
        (try simp only [List.getElem_toArray, List.getElem_cons_succ, List.getElem_cons_zero, Act.put, List.setIfInBounds_toArray, List.set_cons_zero, List.set_cons_succ])
        refine wpAnyH_ready (rs := [9, 15]) (by kernel_rfl) (by simp) ?_
        refine AllReadyH.cons (o := _) rfl (fun KK hKK => ?_) ?_
        · refine step_append_own_at _ (by rfl) _ _ _ (by rfl) w2.heap.size 49 i0 _ 3 24 Tryd.underlying22 hi0 hz0 hz1 hz2 rfl (by decide) (.slice a9 (L - K) k9) (L - K) (BEdges.C (es.drop K)) (by rfl) (by first | exact H9.out.1 | exact H9.out.1.alloc _) a K cap (BEdges.C (es.take K)) (by rfl) hl2 (HN2.out _ (by repeat (first | exact Below.refl _ _ | assumption | refine Below.drew ?_ | refine Below.alloc ?_ (by first | (simp; done) | (simp; omega) | omega) _))) (BEdges.C_one _) hm2 hy2 (by first | (simp; done) | (simp; omega) | omega) ?_
          intro v7 w7 hO7 hg7
          have hb7 : Below w2.heap.size w2 w7 := ((by repeat (first | exact Below.refl _ _ | assumption | refine Below.drew ?_ | refine Below.alloc ?_ (by first | (simp; done) | (simp; omega) | omega) _)) : Below w2.heap.size w2 w9).trans ((Kept.of_grown hg7).below (by first | (simp; done) | (simp; omega) | omega) fun b hb => (H9.out.1.lt b hb).1)
          have hz7 := hb7.size
          obtain ⟨a7, k7, rfl⟩ := row_shape hO7
          have H7 : Hid (w7.ownsRow w2.heap.size 49 3 (.slice a7 (L - K + K) k7) (L - K + K) (BEdges.C (es.drop K) ++ BEdges.C (es.take K)) ∧ Below w2.heap.size w2 w7) := ⟨hO7, hb7⟩
          clear hO7 hg7
          refine hKK.out _ _ ?_ (fun hHeld => ?_)
          · exact HS.out _ (by repeat (first | exact Below.refl _ _ | assumption | refine Below.drew ?_ | refine Below.alloc ?_ (by first | (simp; done) | (simp; omega) | omega) _))
          clear hKK KK
          (try simp only [List.getElem_toArray, List.getElem_cons_succ, List.getElem_cons_zero, Act.put, List.setIfInBounds_toArray, List.set_cons_zero, List.set_cons_succ])
          refine wpAnyH_ready (rs := [15]) (by kernel_rfl) (by simp) ?_
          refine AllReadyH.cons (o := _) rfl (fun KK hKK => ?_) ?_
          · go_simp
            refine hKK.out _ _ ?_ (fun hHeld => ?_)
            · exact HS.out _ (by repeat (first | exact Below.refl _ _ | assumption | refine Below.drew ?_ | refine Below.alloc ?_ (by first | (simp; done) | (simp; omega) | omega) _))
            clear hKK KK
            (try simp only [List.getElem_toArray, List.getElem_cons_succ, List.getElem_cons_zero, Act.put, List.setIfInBounds_toArray, List.set_cons_zero, List.set_cons_succ])
            refine wpAnyH_ready (rs := [16]) (by kernel_rfl) (by simp) ?_
            refine AllReadyH.cons (o := _) rfl (fun KK hKK => ?_) ?_
            · refine step_append_own_at _ (by rfl) _ _ _ (by rfl) w2.heap.size 49 i0 _ 3 24 Tryd.underlying22 hi0 hz0 hz1 hz2 rfl (by decide) (.slice a7 (L - K + K) k7) (L - K + K) (BEdges.C (es.drop K) ++ BEdges.C (es.take K)) (by rfl) (by first | exact H7.out.1 | exact H7.out.1.alloc _) ⟨w7.heap.size, 0, none⟩ 1 1 [.int .i64 x1, .int .i64 x2, .int .i64 x3] (by rfl) (by rfl) (World.news_of_block (cs := #[.int .i64 x1, .int .i64 x2, .int .i64 x3]) (t := 49) (fr := (0, 0)) (heap_alloc_new w7 _)) (by simp [Value.oneCell']) hm3 hy3 (by first | (simp; done) | (simp; omega) | omega) ?_
              intro v6 w6 hO6 hg6
              have hb6 : Below w2.heap.size w2 w6 := ((by repeat (first | exact Below.refl _ _ | assumption | refine Below.drew ?_ | refine Below.alloc ?_ (by first | (simp; done) | (simp; omega) | omega) _)) : Below w2.heap.size w2 (w7.alloc (.cells #[.int .i64 x1, .int .i64 x2, .int .i64 x3] 49))).trans ((Kept.of_grown hg6).below (by first | (simp; done) | (simp; omega) | omega) fun b hb => (H7.out.1.lt b hb).1)
              obtain ⟨a6, k6, rfl⟩ := row_shape hO6
              have H6 : Hid (w6.ownsRow w2.heap.size 49 3 (.slice a6 (L - K + K + 1) k6) (L - K + K + 1) (BEdges.C (es.drop K) ++ BEdges.C (es.take K) ++ [.int .i64 x1, .int .i64 x2, .int .i64 x3]) ∧ Below w2.heap.size w2 w6) := ⟨hO6, hb6⟩
              have g3 := cell0_of (k := 3) (res_up7 hb6 HW2.out.2.2.1) rfl
              have gf := blk_free (res_up7 hb6 HW2.out.2.2.1) 3
              clear hO6 hg6
              refine hKK.out _ _ ?_ (fun hHeld => ?_)
              · exact HS.out _ (by repeat (first | exact Below.refl _ _ | assumption | refine Below.drew ?_ | refine Below.alloc ?_ (by first | (simp; done) | (simp; omega) | omega) _))
              clear hKK KK
              (try simp only [List.getElem_toArray, List.getElem_cons_succ, List.getElem_cons_zero, Act.put, List.setIfInBounds_toArray, List.set_cons_zero, List.set_cons_succ])
              refine wpAnyH_take (i := 17) (oi := _) (v := ?_) rfl (by kernel_rfl) (by kernel_rfl) (by kernel_rfl) (fun _ _ _ h => h) (Or.inl ⟨by rfl, ?_⟩) (by assumption) ?_
              rotate_left
              · (intro w hSw; obtain ⟨v0, v1, v2, v3⟩ := hSw; go_simp; (try with_reducible rfl))
              (try simp only [List.getElem_toArray, List.getElem_cons_succ, List.getElem_cons_zero, Act.put, List.setIfInBounds_toArray, List.set_cons_zero, List.set_cons_succ])
              refine wpAnyH_ready (rs := [18]) (by kernel_rfl) (by simp) ?_
              refine AllReadyH.cons (o := _) rfl (fun KK hKK => ?_) ?_
              · go_simp
                refine hKK.out _ _ ?_ (fun hHeld => ?_)
                · exact HSt.out _ _ hb6
                clear hKK KK
                (try simp only [List.getElem_toArray, List.getElem_cons_succ, List.getElem_cons_zero, Act.put, List.setIfInBounds_toArray, List.set_cons_zero, List.set_cons_succ])
                refine wpAnyH_done (by kernel_rfl) ?_ _
                (try go_simp)
                (refine Met.intro ?_; apply_assumption; refine Met.intro ?_; apply_assumption; (repeat apply Exists.intro); refine ⟨?rel, rfl⟩; case rel => exact shAt_of HW2.out.2.2.1 HW2.out.2.2.2.1 HW2.out.2.1 HV.out.2.1 hw01 hK' H6.out.1 H6.out.2)
              exact AllReadyH.nil
            exact AllReadyH.nil
          exact AllReadyH.nil
        refine AllReadyH.cons (o := _) rfl (fun KK hKK => ?_) ?_
        · go_simp
          refine hKK.out _ _ ?_ (fun hHeld => ?_)
          · exact HS.out _ (by repeat (first | exact Below.refl _ _ | assumption | refine Below.drew ?_ | refine Below.alloc ?_ (by first | (simp; done) | (simp; omega) | omega) _))
          clear hKK KK
          (try simp only [List.getElem_toArray, List.getElem_cons_succ, List.getElem_cons_zero, Act.put, List.setIfInBounds_toArray, List.set_cons_zero, List.set_cons_succ])
          refine wpAnyH_ready (rs := [9]) (by kernel_rfl) (by simp) ?_
          refine AllReadyH.cons (o := _) rfl (fun KK hKK => ?_) ?_
          · refine step_append_own_at _ (by rfl) _ _ _ (by rfl) w2.heap.size 49 i0 _ 3 24 Tryd.underlying22 hi0 hz0 hz1 hz2 rfl (by decide) (.slice a9 (L - K) k9) (L - K) (BEdges.C (es.drop K)) (by rfl) (by first | exact H9.out.1 | exact H9.out.1.alloc _) a K cap (BEdges.C (es.take K)) (by rfl) hl2 (HN2.out _ (by repeat (first | exact Below.refl _ _ | assumption | refine Below.drew ?_ | refine Below.alloc ?_ (by first | (simp; done) | (simp; omega) | omega) _))) (BEdges.C_one _) hm2 hy2 (by first | (simp; done) | (simp; omega) | omega) ?_
            intro v7 w7 hO7 hg7
            have hb7 : Below w2.heap.size w2 w7 := ((by repeat (first | exact Below.refl _ _ | assumption | refine Below.drew ?_ | refine Below.alloc ?_ (by first | (simp; done) | (simp; omega) | omega) _)) : Below w2.heap.size w2 (w9.alloc (.cells #[.int .i64 x1, .int .i64 x2, .int .i64 x3] 49))).trans ((Kept.of_grown hg7).below (by first | (simp; done) | (simp; omega) | omega) fun b hb => (H9.out.1.lt b hb).1)
            have hz7 := hb7.size
            obtain ⟨a7, k7, rfl⟩ := row_shape hO7
            have H7 : Hid (w7.ownsRow w2.heap.size 49 3 (.slice a7 (L - K + K) k7) (L - K + K) (BEdges.C (es.drop K) ++ BEdges.C (es.take K)) ∧ Below w2.heap.size w2 w7) := ⟨hO7, hb7⟩
            have hX : w7.heap[w9.heap.size]? = some (.cells #[.int .i64 x1, .int .i64 x2, .int .i64 x3] 49 (0, 0)) := ((Kept.of_grown hg7).block _ (by simp) (fun e => by have := (H9.out.1.lt _ e).2; omega)).trans (heap_alloc_new w9 _)
            clear hO7 hg7
            refine hKK.out _ _ ?_ (fun hHeld => ?_)
            · exact HS.out _ (by repeat (first | exact Below.refl _ _ | assumption | refine Below.drew ?_ | refine Below.alloc ?_ (by first | (simp; done) | (simp; omega) | omega) _))
            clear hKK KK
            (try simp only [List.getElem_toArray, List.getElem_cons_succ, List.getElem_cons_zero, Act.put, List.setIfInBounds_toArray, List.set_cons_zero, List.set_cons_succ])
            refine wpAnyH_ready (rs := [16]) (by kernel_rfl) (by simp) ?_
            refine AllReadyH.cons (o := _) rfl (fun KK hKK => ?_) ?_
            · refine step_append_own_at _ (by rfl) _ _ _ (by rfl) w2.heap.size 49 i0 _ 3 24 Tryd.underlying22 hi0 hz0 hz1 hz2 rfl (by decide) (.slice a7 (L - K + K) k7) (L - K + K) (BEdges.C (es.drop K) ++ BEdges.C (es.take K)) (by rfl) (by first | exact H7.out.1 | exact H7.out.1.alloc _) ⟨w9.heap.size, 0, none⟩ 1 1 [.int .i64 x1, .int .i64 x2, .int .i64 x3] (by rfl) (by rfl) (World.news_of_block (cs := #[.int .i64 x1, .int .i64 x2, .int .i64 x3]) (t := 49) (fr := (0, 0)) hX) (by simp [Value.oneCell']) hm3 hy3 (by first | (simp; done) | (simp; omega) | omega) ?_
              intro v6 w6 hO6 hg6
              have hb6 : Below w2.heap.size w2 w6 := ((by repeat (first | exact Below.refl _ _ | assumption | refine Below.drew ?_ | refine Below.alloc ?_ (by first | (simp; done) | (simp; omega) | omega) _)) : Below w2.heap.size w2 w7).trans ((Kept.of_grown hg6).below (by first | (simp; done) | (simp; omega) | omega) fun b hb => (H7.out.1.lt b hb).1)
              obtain ⟨a6, k6, rfl⟩ := row_shape hO6
              have H6 : Hid (w6.ownsRow w2.heap.size 49 3 (.slice a6 (L - K + K + 1) k6) (L - K + K + 1) (BEdges.C (es.drop K) ++ BEdges.C (es.take K) ++ [.int .i64 x1, .int .i64 x2, .int .i64 x3]) ∧ Below w2.heap.size w2 w6) := ⟨hO6, hb6⟩
              have g3 := cell0_of (k := 3) (res_up7 hb6 HW2.out.2.2.1) rfl
              have gf := blk_free (res_up7 hb6 HW2.out.2.2.1) 3
              clear hO6 hg6
              refine hKK.out _ _ ?_ (fun hHeld => ?_)
              · exact HS.out _ (by repeat (first | exact Below.refl _ _ | assumption | refine Below.drew ?_ | refine Below.alloc ?_ (by first | (simp; done) | (simp; omega) | omega) _))
              clear hKK KK
              (try simp only [List.getElem_toArray, List.getElem_cons_succ, List.getElem_cons_zero, Act.put, List.setIfInBounds_toArray, List.set_cons_zero, List.set_cons_succ])
              refine wpAnyH_take (i := 17) (oi := _) (v := ?_) rfl (by kernel_rfl) (by kernel_rfl) (by kernel_rfl) (fun _ _ _ h => h) (Or.inl ⟨by rfl, ?_⟩) (by assumption) ?_
              rotate_left
              · (intro w hSw; obtain ⟨v0, v1, v2, v3⟩ := hSw; go_simp; (try with_reducible rfl))
              (try simp only [List.getElem_toArray, List.getElem_cons_succ, List.getElem_cons_zero, Act.put, List.setIfInBounds_toArray, List.set_cons_zero, List.set_cons_succ])
              refine wpAnyH_ready (rs := [18]) (by kernel_rfl) (by simp) ?_
              refine AllReadyH.cons (o := _) rfl (fun KK hKK => ?_) ?_
              · go_simp
                refine hKK.out _ _ ?_ (fun hHeld => ?_)
                · exact HSt.out _ _ hb6
                clear hKK KK
                (try simp only [List.getElem_toArray, List.getElem_cons_succ, List.getElem_cons_zero, Act.put, List.setIfInBounds_toArray, List.set_cons_zero, List.set_cons_succ])
                refine wpAnyH_done (by kernel_rfl) ?_ _
                (try go_simp)
                (refine Met.intro ?_; apply_assumption; refine Met.intro ?_; apply_assumption; (repeat apply Exists.intro); refine ⟨?rel, rfl⟩; case rel => exact shAt_of HW2.out.2.2.1 HW2.out.2.2.2.1 HW2.out.2.1 HV.out.2.1 hw01 hK' H6.out.1 H6.out.2)
              exact AllReadyH.nil
            exact AllReadyH.nil
          exact AllReadyH.nil
        exact AllReadyH.nil
      refine AllReadyH.cons (o := _) rfl (fun KK hKK => ?_) ?_
      · go_simp
        refine hKK.out _ _ ?_ (fun hHeld => ?_)
        · exact HS.out _ (by repeat (first | exact Below.refl _ _ | assumption | refine Below.drew ?_ | refine Below.alloc ?_ (by first | (simp; done) | (simp; omega) | omega) _))
        clear hKK KK
        (try simp only [List.getElem_toArray, List.getElem_cons_succ, List.getElem_cons_zero, Act.put, List.setIfInBounds_toArray, List.set_cons_zero, List.set_cons_succ])
        refine wpAnyH_ready (rs := [4]) (by kernel_rfl) (by simp) ?_
        refine AllReadyH.cons (o := _) rfl (fun KK hKK => ?_) ?_
        · refine step_copy_at _ (by rfl) _ _ _ (by rfl) (w2.heap.size + 1) 49 i0 _ 3 24 Tryd.underlying22 hi0 hz0 hz1 hz2 rfl (by decide) (by rfl) (some (a.add (K * 3))) (L - K) (cap - K) (BEdges.C (es.drop K)) (by rfl) (by simp) hl1 (HN1.out _ (by repeat (first | exact Below.refl _ _ | assumption | refine Below.drew ?_ | refine Below.alloc ?_ (by first | (simp; done) | (simp; omega) | omega) _))) (BEdges.C_one _) hm1 hy1 (by first | (simp; done) | (simp; omega) | omega) ?_
          intro v9 w9 hO9 hg9
          have hN9 : ∀ b, v9.ownBlock = some b → w2.heap.size + 1 ≤ b := fun b hb => (hO9.lt b hb).1
          have hO9 := row_base hO9 (Nat.le_succ w2.heap.size)
          have hb9 : Below w2.heap.size w2 w9 := bel8 (tgrown0 hg9) (by repeat (first | exact Below.refl _ _ | assumption | refine Below.drew ?_ | refine Below.alloc ?_ (by first | (simp; done) | (simp; omega) | omega) _))
          have hz9 := hb9.size
          obtain ⟨a9, k9, rfl⟩ := row_shape hO9
          have H9 : Hid (w9.ownsRow w2.heap.size 49 3 (.slice a9 (L - K) k9) (L - K) (BEdges.C (es.drop K)) ∧ Below w2.heap.size w2 w9) := ⟨hO9, hb9⟩
          have hX9 : w9.heap[w2.heap.size]? = some (.cells #[.int .i64 x1, .int .i64 x2, .int .i64 x3] 49 (0, 0)) := ((tgrown0 hg9).block _ (by simp)).trans (heap_alloc_new w2 _)
          clear hO9 hg9
          refine hKK.out _ _ ?_ (fun hHeld => ?_)
          · exact HS.out _ (by repeat (first | exact Below.refl _ _ | assumption | refine Below.drew ?_ | refine Below.alloc ?_ (by first | (simp; done) | (simp; omega) | omega) _))
          clear hKK KK
          (try simp only [List.getElem_toArray, List.getElem_cons_succ, List.getElem_cons_zero, Act.put, List.setIfInBounds_toArray, List.set_cons_zero, List.set_cons_succ])
          refine wpAnyH_ready (rs := [9]) (by kernel_rfl) (by simp) ?_
          refine AllReadyH.cons (o := _) rfl (fun KK hKK => ?_) ?_
          · refine step_append_own_at _ (by rfl) _ _ _ (by rfl) w2.heap.size 49 i0 _ 3 24 Tryd.underlying22 hi0 hz0 hz1 hz2 rfl (by decide) (.slice a9 (L - K) k9) (L - K) (BEdges.C (es.drop K)) (by rfl) (by first | exact H9.out.1 | exact H9.out.1.alloc _) a K cap (BEdges.C (es.take K)) (by rfl) hl2 (HN2.out _ (by repeat (first | exact Below.refl _ _ | assumption | refine Below.drew ?_ | refine Below.alloc ?_ (by first | (simp; done) | (simp; omega) | omega) _))) (BEdges.C_one _) hm2 hy2 (by first | (simp; done) | (simp; omega) | omega) ?_
            intro v7 w7 hO7 hg7
            have hb7 : Below w2.heap.size w2 w7 := ((by repeat (first | exact Below.refl _ _ | assumption | refine Below.drew ?_ | refine Below.alloc ?_ (by first | (simp; done) | (simp; omega) | omega) _)) : Below w2.heap.size w2 w9).trans ((Kept.of_grown hg7).below (by first | (simp; done) | (simp; omega) | omega) fun b hb => (H9.out.1.lt b hb).1)
            have hz7 := hb7.size
            obtain ⟨a7, k7, rfl⟩ := row_shape hO7
            have H7 : Hid (w7.ownsRow w2.heap.size 49 3 (.slice a7 (L - K + K) k7) (L - K + K) (BEdges.C (es.drop K) ++ BEdges.C (es.take K)) ∧ Below w2.heap.size w2 w7) := ⟨hO7, hb7⟩
            have hX : w7.heap[w2.heap.size]? = some (.cells #[.int .i64 x1, .int .i64 x2, .int .i64 x3] 49 (0, 0)) := ((Kept.of_grown hg7).block _ (t_lt hX9) (fun e => by have := hN9 _ e; omega)).trans hX9
            clear hO7 hg7
            refine hKK.out _ _ ?_ (fun hHeld => ?_)
            · exact HS.out _ (by repeat (first | exact Below.refl _ _ | assumption | refine Below.drew ?_ | refine Below.alloc ?_ (by first | (simp; done) | (simp; omega) | omega) _))
            clear hKK KK
            (try simp only [List.getElem_toArray, List.getElem_cons_succ, List.getElem_cons_zero, Act.put, List.setIfInBounds_toArray, List.set_cons_zero, List.set_cons_succ])
            refine wpAnyH_ready (rs := [16]) (by kernel_rfl) (by simp) ?_
            refine AllReadyH.cons (o := _) rfl (fun KK hKK => ?_) ?_
            · refine step_append_own_at _ (by rfl) _ _ _ (by rfl) w2.heap.size 49 i0 _ 3 24 Tryd.underlying22 hi0 hz0 hz1 hz2 rfl (by decide) (.slice a7 (L - K + K) k7) (L - K + K) (BEdges.C (es.drop K) ++ BEdges.C (es.take K)) (by rfl) (by first | exact H7.out.1 | exact H7.out.1.alloc _) ⟨w2.heap.size, 0, none⟩ 1 1 [.int .i64 x1, .int .i64 x2, .int .i64 x3] (by rfl) (by rfl) (World.news_of_block (cs := #[.int .i64 x1, .int .i64 x2, .int .i64 x3]) (t := 49) (fr := (0, 0)) hX) (by simp [Value.oneCell']) hm3 hy3 (by first | (simp; done) | (simp; omega) | omega) ?_
              intro v6 w6 hO6 hg6
              have hb6 : Below w2.heap.size w2 w6 := ((by repeat (first | exact Below.refl _ _ | assumption | refine Below.drew ?_ | refine Below.alloc ?_ (by first | (simp; done) | (simp; omega) | omega) _)) : Below w2.heap.size w2 w7).trans ((Kept.of_grown hg6).below (by first | (simp; done) | (simp; omega) | omega) fun b hb => (H7.out.1.lt b hb).1)
              obtain ⟨a6, k6, rfl⟩ := row_shape hO6
              have H6 : Hid (w6.ownsRow w2.heap.size 49 3 (.slice a6 (L - K + K + 1) k6) (L - K + K + 1) (BEdges.C (es.drop K) ++ BEdges.C (es.take K) ++ [.int .i64 x1, .int .i64 x2, .int .i64 x3]) ∧ Below w2.heap.size w2 w6) := ⟨hO6, hb6⟩
              have g3 := cell0_of (k := 3) (res_up7 hb6 HW2.out.2.2.1) rfl
              have gf := blk_free (res_up7 hb6 HW2.out.2.2.1) 3
              clear hO6 hg6
              refine hKK.out _ _ ?_ (fun hHeld => ?_)
              · exact HS.out _ (by repeat (first | exact Below.refl _ _ | assumption | refine Below.drew ?_ | refine Below.alloc ?_ (by first | (simp; done) | (simp; omega) | omega) _))
              clear hKK KK
              (try simp only [List.getElem_toArray, List.getElem_cons_succ, List.getElem_cons_zero, Act.put, List.setIfInBounds_toArray, List.set_cons_zero, List.set_cons_succ])
              refine wpAnyH_take (i := 17) (oi := _) (v := ?_) rfl (by kernel_rfl) (by kernel_rfl) (by kernel_rfl) (fun _ _ _ h => h) (Or.inl ⟨by rfl, ?_⟩) (by assumption) ?_
              rotate_left
              · (intro w hSw; obtain ⟨v0, v1, v2, v3⟩ := hSw; go_simp; (try with_reducible rfl))
              (try simp only [List.getElem_toArray, List.getElem_cons_succ, List.getElem_cons_zero, Act.put, List.setIfInBounds_toArray, List.set_cons_zero, List.set_cons_succ])
              refine wpAnyH_ready (rs := [18]) (by kernel_rfl) (by simp) ?_
              refine AllReadyH.cons (o := _) rfl (fun KK hKK => ?_) ?_
              · go_simp
                refine hKK.out _ _ ?_ (fun hHeld => ?_)
                · exact HSt.out _ _ hb6
                clear hKK KK
                (try simp only [List.getElem_toArray, List.getElem_cons_succ, List.getElem_cons_zero, Act.put, List.setIfInBounds_toArray, List.set_cons_zero, List.set_cons_succ])
                refine wpAnyH_done (by kernel_rfl) ?_ _
                (try go_simp)
                (refine Met.intro ?_; apply_assumption; refine Met.intro ?_; apply_assumption; (repeat apply Exists.intro); refine ⟨?rel, rfl⟩; case rel => exact shAt_of HW2.out.2.2.1 HW2.out.2.2.2.1 HW2.out.2.1 HV.out.2.1 hw01 hK' H6.out.1 H6.out.2)
              exact AllReadyH.nil
            exact AllReadyH.nil
          exact AllReadyH.nil
        exact AllReadyH.nil
      exact AllReadyH.nil
    case rest =>
      obtain ⟨⟨u, hT, hO⟩, hSb, hbl⟩ := hcut
      have hsl : (Sy.shuf es K (x1, x2, x3)).length ≤ 301 := by
        unfold Sy.shuf
        simp only [List.length_append, List.length_drop, List.length_take, List.length_singleton]
        have := HV.out.2.1
        omega
      have hmem := fun y => Sy.shuf_mem HW2.out.2.2.2.2 y
      have hrt : Sy.right n k s es = Sy.right n k s (Sy.shuf es K (x1, x2, x3)) := Sy.right_congr hmem (by have := HV.out.2.1; omega) (by omega)
      have hnf : Sy.nf es = Sy.nf (Sy.shuf es K (x1, x2, x3)) := Sy.nf_congr hmem
      obtain ⟨au, cu, hu⟩ := row_shape hO
      obtain ⟨N, hN⟩ : ∃ N, N = (Sy.shuf es K (x1, x2, x3)).length := ⟨_, rfl⟩
      rw [← hN] at hu
      subst hu
      have r0 := cell0_of (k := 0) hSb rfl
      have r1 := cell0_of (k := 1) hSb rfl
      have r2 := cell0_of (k := 2) hSb rfl
      have r3 := cell0_of (k := 3) hSb rfl
      have HC : Hid (wc.heap[w1.heap.size]? = some (.cells #[.int .i64 n, .int .i64 k, .int .i64 s, .slice au N cu] 24 (0, 0)) ∧ Below w.heap.size w wc ∧ BEdges.Has wc (.slice au N cu) (Sy.shuf es K (x1, x2, x3)) ∧ True) := ⟨hT, hbl, BEdges.Own.has hO, trivial⟩
      clear hT hO hSb hbl hmem hN e0 e1 e2 s0 s1 s2 s3 HN1 HN2 HS HSt HEs
      cases hq : Sy.right n k s es with
      | true =>
        have HNo : Hid _ := normal_any hS n k s (.slice (some a) L cap) es (e 14) wc ((HV.out.2.2.2.below HC.out.2.1).s14 (by decide)) (HV.out.1.below HC.out.2.1) (by have := HV.out.2.1; omega) (by have := HV.out.2.1; omega)
        rw [hq] at HNo
        simp only [SErr, if_true, sysV] at HNo
        go_wp2_with fail
        refine Calls.mono HNo.out ?_
        rintro r w5 ⟨x5, u5, rfl, rfl, hO5, hb5⟩
        obtain ⟨a5, k5, hu5⟩ := row_shape (hO5 True.intro)
        obtain ⟨k5', hk5'⟩ : ∃ q, q = (Sy.nf es).length := ⟨_, rfl⟩
        rw [← hk5'] at hu5
        subst hu5
        have hO5' : BEdges.Has w5 (.slice a5 k5' k5) (Sy.nf es) := BEdges.Own.has (hO5 True.intro)
        clear hO5 hk5'
        obtain ⟨w6, hw6⟩ : ∃ w6, w6 = w5.alloc (.cells #[.int .i64 n, .int .i64 k, .int .i64 s, .slice a5 k5' k5] 24) := ⟨_, rfl⟩
        have hb56 : Below w5.heap.size w5 w6 := by rw [hw6]; exact (Below.refl _ _).alloc (Nat.le_refl _) _
        have hgA : w6.heap[w5.heap.size]? = some (.cells #[.int .i64 n, .int .i64 k, .int .i64 s, .slice a5 k5' k5] 24 (0, 0)) := by rw [hw6]; exact heap_alloc_new w5 _
        have hbc6 : Below wc.heap.size wc w6 := bel8 hb56 hb5
        have hgT6 := res_up7 hbc6 HC.out.1
        have g0 := cell0_of (k := 0) hgT6 rfl
        have g1 := cell0_of (k := 1) hgT6 rfl
        have g2 := cell0_of (k := 2) hgT6 rfl
        have g3 := cell0_of (k := 3) hgT6 rfl
        have HNt : Hid _ := normal_any hS n k s (.slice au N cu) (Sy.shuf es K (x1, x2, x3)) (e 14) w6 ((HV.out.2.2.2.below (bel8 hbc6 HC.out.2.1)).s14 (by decide)) (HC.out.2.2.1.below hbc6) (by omega) (by omega)
        rw [← hrt, hq] at HNt
        simp only [SErr, if_true, sysV] at HNt
        have H6 : Hid _ := And.intro hw6 (And.intro (bel8 hbc6 HC.out.2.1) (And.intro hgA (hO5'.below hb56)))
        clear hw6 hb5 hb56 hgA hbc6 hgT6 hO5'
        go_upto_region 9 with fail
        rw [← H6.out.1]
        go_wp2_with fail
        refine Calls.mono HNt.out ?_
        rintro r w7 ⟨x7, u7, rfl, rfl, hO7, hb7⟩
        have hO7' := hO7 True.intro
        rw [← hnf] at hO7'
        obtain ⟨a7, k7, hu7⟩ := row_shape hO7'
        obtain ⟨k7', hk7'⟩ : ∃ q, q = (Sy.nf es).length := ⟨_, rfl⟩
        rw [← hk7'] at hu7
        subst hu7
        have hO7 : BEdges.Has w7 (.slice a7 k7' k7) (Sy.nf es) := BEdges.Own.has hO7'
        clear hO7' hk7'
        obtain ⟨w8, hw8⟩ : ∃ w8, w8 = w7.alloc (.cells #[.int .i64 n, .int .i64 k, .int .i64 s, .slice a7 k7' k7] 24) := ⟨_, rfl⟩
        have hb78 : Below w7.heap.size w7 w8 := by rw [hw8]; exact (Below.refl _ _).alloc (Nat.le_refl _) _
        have hgB : w8.heap[w7.heap.size]? = some (.cells #[.int .i64 n, .int .i64 k, .int .i64 s, .slice a7 k7' k7] 24 (0, 0)) := by rw [hw8]; exact heap_alloc_new w7 _
        have hb68 : Below w6.heap.size w6 w8 := bel8 hb78 hb7
        have H8 : Hid _ := And.intro hw8 (And.intro (bel8 hb68 H6.out.2.1) (And.intro (res_up7 hb68 H6.out.2.2.1) (And.intro hgB (And.intro (H6.out.2.2.2.below hb68) (hO7.below hb78)))))
        clear hw8 hb7 hb78 hgB hb68 hO7 g0 g1 g2 g3 r0 r1 r2 r3
        go_upto_region 10 with fail
        rw [← H8.out.1]
        go_wp2_with fail
        refine Calls.mono (HV.out.2.2.1 _ H8.out.2.1) ?_
        rintro r w9 ⟨rfl, hb9⟩
        have hgA9 := res_up7 hb9 H8.out.2.2.1
        have hgB9 := res_up7 hb9 H8.out.2.2.2.1
        have j0 := cell0_of (k := 0) hgA9 rfl
        have j1 := cell0_of (k := 1) hgA9 rfl
        have j2 := cell0_of (k := 2) hgA9 rfl
        have j3 := cell0_of (k := 3) hgA9 rfl
        have l0 := cell0_of (k := 0) hgB9 rfl
        have l1 := cell0_of (k := 1) hgB9 rfl
        have l2 := cell0_of (k := 2) hgB9 rfl
        have l3 := cell0_of (k := 3) hgB9 rfl
        have H9 : Hid _ := And.intro (bel8 hb9 H8.out.2.1) (And.intro (H8.out.2.2.2.2.1.below hb9) (H8.out.2.2.2.2.2.below hb9))
        clear hb9 hgA9 hgB9
        have hSm := sameSystem_b n k s (.slice a5 k5' k5) (.slice a7 k7' k7) (Sy.nf es) w9 (by have := Sy.nf_len es; have := HV.out.2.1; omega) H9.out.2.1 H9.out.2.2
        unfold sysV at hSm
        have HSm : Hid _ := hSm
        clear hSm
        go_wp2_with (first
          | (go_at_call 20; refine Calls.mono (code_nil _) ?_; rintro r wz ⟨rfl, hwz⟩; obtain rfl := hwz.symm; clear hwz)
          | (go_at_call 9; refine Calls.mono HSm.out ?_; rintro r w0 ⟨rfl, hb0⟩; have H0 : Hid _ := bel8 hb0 H9.out.1; clear hb0)
          | fail)
        go_ret
        exact ⟨rfl, H0.out⟩
      | false =>
        have HNo : Hid _ := normal_any hS n k s (.slice (some a) L cap) es (e 14) wc ((HV.out.2.2.2.below HC.out.2.1).s14 (by decide)) (HV.out.1.below HC.out.2.1) (by have := HV.out.2.1; omega) (by have := HV.out.2.1; omega)
        rw [hq] at HNo
        simp only [SErr, Bool.false_eq_true, if_false, sysV] at HNo
        go_wp2_with fail
        refine Calls.mono HNo.out ?_
        rintro r w5 ⟨x5, u5, rfl, hC5, _, hb5⟩
        obtain ⟨bx5, ux5, hx5, _, _⟩ := _root_.id hC5
        have hO5' := hC5
        subst hx5
        clear hC5
        obtain ⟨w6, hw6⟩ : ∃ w6, w6 = w5.alloc (.cells #[.int .i64 0, .int .i64 0, .int .i64 0, .slice none 0 0] 24) := ⟨_, rfl⟩
        have hb56 : Below w5.heap.size w5 w6 := by rw [hw6]; exact (Below.refl _ _).alloc (Nat.le_refl _) _
        have hgA : w6.heap[w5.heap.size]? = some (.cells #[.int .i64 0, .int .i64 0, .int .i64 0, .slice none 0 0] 24 (0, 0)) := by rw [hw6]; exact heap_alloc_new w5 _
        have hbc6 : Below wc.heap.size wc w6 := bel8 hb56 hb5
        have hgT6 := res_up7 hbc6 HC.out.1
        have g0 := cell0_of (k := 0) hgT6 rfl
        have g1 := cell0_of (k := 1) hgT6 rfl
        have g2 := cell0_of (k := 2) hgT6 rfl
        have g3 := cell0_of (k := 3) hgT6 rfl
        have HNt : Hid _ := normal_any hS n k s (.slice au N cu) (Sy.shuf es K (x1, x2, x3)) (e 14) w6 ((HV.out.2.2.2.below (bel8 hbc6 HC.out.2.1)).s14 (by decide)) (HC.out.2.2.1.below hbc6) (by omega) (by omega)
        rw [← hrt, hq] at HNt
        simp only [SErr, Bool.false_eq_true, if_false, sysV] at HNt
        have H6 : Hid _ := And.intro hw6 (And.intro (bel8 hbc6 HC.out.2.1) (And.intro hgA (hO5'.below hb56)))
        clear hw6 hb5 hb56 hgA hbc6 hgT6 hO5'
        go_upto_region 9 with fail
        rw [← H6.out.1]
        go_wp2_with fail
        refine Calls.mono HNt.out ?_
        rintro r w7 ⟨x7, u7, rfl, hC7, _, hb7⟩
        obtain ⟨bx7, ux7, hx7, _, _⟩ := _root_.id hC7
        have hO7 := hC7
        subst hx7
        clear hC7
        obtain ⟨w8, hw8⟩ : ∃ w8, w8 = w7.alloc (.cells #[.int .i64 0, .int .i64 0, .int .i64 0, .slice none 0 0] 24) := ⟨_, rfl⟩
        have hb78 : Below w7.heap.size w7 w8 := by rw [hw8]; exact (Below.refl _ _).alloc (Nat.le_refl _) _
        have hgB : w8.heap[w7.heap.size]? = some (.cells #[.int .i64 0, .int .i64 0, .int .i64 0, .slice none 0 0] 24 (0, 0)) := by rw [hw8]; exact heap_alloc_new w7 _
        have hb68 : Below w6.heap.size w6 w8 := bel8 hb78 hb7
        have H8 : Hid _ := And.intro hw8 (And.intro (bel8 hb68 H6.out.2.1) (And.intro (res_up7 hb68 H6.out.2.2.1) (And.intro hgB (And.intro (H6.out.2.2.2.below hb68) (hO7.below hb78)))))
        clear hw8 hb7 hb78 hgB hb68 hO7 g0 g1 g2 g3 r0 r1 r2 r3
        go_upto_region 10 with fail
        rw [← H8.out.1]
        go_wp2_with fail
        refine Calls.mono (HV.out.2.2.1 _ H8.out.2.1) ?_
        rintro r w9 ⟨rfl, hb9⟩
        have hgA9 := res_up7 hb9 H8.out.2.2.1
        have hgB9 := res_up7 hb9 H8.out.2.2.2.1
        have j0 := cell0_of (k := 0) hgA9 rfl
        have j1 := cell0_of (k := 1) hgA9 rfl
        have j2 := cell0_of (k := 2) hgA9 rfl
        have j3 := cell0_of (k := 3) hgA9 rfl
        have l0 := cell0_of (k := 0) hgB9 rfl
        have l1 := cell0_of (k := 1) hgB9 rfl
        have l2 := cell0_of (k := 2) hgB9 rfl
        have l3 := cell0_of (k := 3) hgB9 rfl
        have H9 : Hid _ := And.intro (bel8 hb9 H8.out.2.1) (And.intro (H8.out.2.2.2.2.1.below hb9) (H8.out.2.2.2.2.2.below hb9))
        clear hb9 hgA9 hgB9
        have hSm := sameSystem_b 0 0 0 (.slice none 0 0) (.slice none 0 0) [] w9 (by simp) ⟨none, 0, rfl, fun j u h => by simp [BEdges.C] at h⟩ ⟨none, 0, rfl, fun j u h => by simp [BEdges.C] at h⟩
        unfold sysV at hSm
        have HSm : Hid _ := hSm
        clear hSm
        go_wp2_with fail
        refine Calls.mono (code_14 (Nat.le_of_lt (by decide)) _ _ _ _ e _ (HV.out.2.2.2.below H9.out.1) H9.out.2.1) ?_
        rintro r wz ⟨rfl, hwz⟩
        obtain rfl := hwz.symm
        clear hwz
        go_wp2_with fail
        refine Calls.mono (code_14 (Nat.le_of_lt (by decide)) _ _ _ _ e _ (HV.out.2.2.2.below H9.out.1) H9.out.2.2) ?_
        rintro r wz ⟨rfl, hwz⟩
        obtain rfl := hwz.symm
        clear hwz
        go_wp2_with fail
        refine Calls.mono HSm.out ?_
        rintro r w0 ⟨rfl, hb0⟩
        have H0 : Hid _ := bel8 hb0 H9.out.1
        clear hb0
        go_wp2_with fail
        go_ret
        exact ⟨rfl, H0.out⟩
theorem lawShuf_any (hS : SortOk 1000000) (n k s : Int) (v : Value) (es : List Sy.Ed) (by_ : Int) (e : Nat → Addr) (w : World) (hA : PAlive w) (hE : Er 19 w e) (hv : HasE w v es) :
    Calls Tryd.prog 5 #[sysV n k s v, .int .i64 by_] w fun r w' => r = .returned (.bool true) ∧ Below w.heap.size w w' := by
  by_cases h : 300 < es.length ∨ es.length = 0
  · exact lawShuf_out n k s v es by_ w hA hv h
  · exact lawShuf_ok hS n k s v es by_ e w hA hE hv (by omega) (by omega)
end Go.Proofs.YtmfcfiiggmkbpaaDoor
