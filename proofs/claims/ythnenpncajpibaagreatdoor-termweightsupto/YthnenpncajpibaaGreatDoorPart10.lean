/- Texts of this claim, joined: TmWithin, TmWeight, TmAlive, TmBack0. -/
import Derived.Test.YthnenpncajpibaaGreatDoorPart9
import Derived.Sort.OwnSortedInts
import Derived.Test.YthnenpncajpibaaGreatDoorPart5
import Derived.Laws.MakeOwn
/- Contract of the store's within. -/
namespace Go.Proofs.YthnenpncajpibaaGreatDoor
open Go.RowKit Go.Maps
attribute [local go_sem ↓] Go.wp_at_zero Go.wp_at_succ
/-- slices.Sort of a list of the call's own. -/
theorem sortI_any (w : World) (B g cap : Nat) (zs : List Int) (h : OwnI w B (.slice (some ⟨g, 0, none⟩) zs.length cap) zs) (hn : zs.length ≤ 1000000) :
    Calls Tryz.prog 29 #[.slice (some ⟨g, 0, none⟩) zs.length cap] w fun e w' => e = .returned (.tuple #[]) ∧ OwnI w' B (.slice (some ⟨g, 0, none⟩) zs.length cap) (zs.mergeSort fun x y => decide (x ≤ y)) ∧ w.grownBy w' (some g) := by
  rcases h.2 with ⟨e, _⟩ | ⟨g', cap', cur, e, hg, hb, hc, hm, hs, ht⟩
  · cases e
  injection e with e1 e2 e3
  have e4 := Option.some.inj e1
  injection e4 with e5
  subst e5; subst e3
  rw [Nat.mul_one] at ht
  refine (Tryz.slices_Sort_int g 0 cap zs w (holds_of_blockI hb ht) (t_lt hb) (by omega)).mono ?_
  rintro r w' ⟨rfl, n, os, rfl⟩
  have hl : (zs.mergeSort fun x y => decide (x ≤ y)).length = zs.length := List.length_mergeSort _
  refine ⟨rfl, ?_, grownBy_sortedI _⟩
  have := ownsRow_sortedI (n := n) (os := os) hl hg hb hc hm hs
  unfold OwnI
  rw [hl]
  exact this
theorem sort_perm (zs : List Int) : (zs.mergeSort fun x y => decide (x ≤ y)).Perm zs := List.mergeSort_perm _ _
theorem sort_rise (zs : List Int) : (zs.mergeSort fun x y => decide (x ≤ y)).Pairwise (· ≤ ·) := by
  have h := List.pairwise_mergeSort (le := fun x y : Int => decide (x ≤ y)) (fun a b c h1 h2 => by simp at *; omega) (fun a b => by simp; omega) zs
  exact h.imp fun h => by simpa using h
theorem parts_len (t : Tm) : t.parts.length ≤ 2 := by
  unfold Tm.parts
  split
  · simp
  · split <;> simp
theorem WMem.drop {w wr : World} {v : Value} {zs : List Int} {bm : Nat} {D : DataW Unit} {vp : Value} {ps : List Int} (h : WMem w wr v zs bm D vp ps) : WMem w wr v zs bm D (.slice none 0 0) [] :=
  ⟨h.bl, h.row, h.map, h.up, h.set, World.ownsRow_nil _ _ _ _, fun g _ => by simp [Value.ownBlock]⟩
set_option maxRecDepth 100000 in
set_option maxHeartbeats 1600000 in
theorem within_any (b : Nat) (L : List Tm) (F : Nat → Prop) (id : Nat) (w : World) (hS : StoB w b L F) (hG : Tm.Good L) (hid : id < L.length) :
    Calls Tryz.prog 27 #[.pointer (some ⟨b, 0, none⟩), .int .i64 id] w fun r w' => ∃ v ts, r = .returned v ∧ OwnI w' w.heap.size v ts ∧ Withi L id ts ∧ Below w.heap.size w w' := by
  have hbig := hS.big
  obtain ⟨i0, hi0, hz0, hz1, hz2⟩ := info_parts Tryz.infoI3
  have hmade := World.ownsMap_made (H := Unit) (w.alloc (.cells #[.int .i64 id] 3)) Tryz.prog 3 unitElem
  have hsz : (w.alloc (.cells #[.int .i64 id] 3)).heap.size = w.heap.size + 1 := by simp
  rw [hsz] at hmade
  obtain ⟨W1, hrun, ho, hg⟩ := hmade.update Tryz.lawI Tryz.underlying118 (by unfold maxLen; omega) (keyOf_int_mk (a := (id : Int)) Tryz.underlying3 (WalkArith.wf_i64 (by omega))) unitElem_mk
  have hM : WMem w W1 (.slice (some ⟨w.heap.size, 0, none⟩) 1 1) [(id : Int)] (w.heap.size + 1) ((DataW.map []).put (.int .i64 id) (.agg [])) (.slice none 0 0) [] := by
    have b0 : Below w.heap.size w ((w.alloc (.cells #[.int .i64 id] 3)).alloc (.map #[] 0)) := (by repeat (first | exact Below.refl _ _ | assumption | refine Below.drew ?_ | refine Below.setCell ?_ (by simp) _ | refine Below.alloc ?_ (by simp) _))
    have hl : ((w.alloc (.cells #[.int .i64 id] 3)).alloc (.map #[] 0)).heap[w.heap.size]? = some (.cells #[.int .i64 id] 3 (0, 0)) := by
      rw [Below.heap_alloc _ _ _ (by simp)]; exact (MapKept.heap_alloc w _).1
    refine ⟨b0.grown hg (by simp; omega) (fun k hk => by have := Option.some.inj hk; omega), own_built (zs := [(id : Int)]) ((hg.block _ (by simp; omega) (by simp)).trans hl) rfl (Nat.le_refl _) (by simp), ho, by omega, ?_, World.ownsRow_nil _ _ _ _, fun g _ => by simp [Value.ownBlock]⟩
    exact SetOf.nil.more hmade.isMap (id : Int)
  have hmm := @run_makeMap Tryz.prog
  have HM : Hid _ := hM
  have HS : Hid _ := And.intro hS hG
  clear hM ho hg hmade hS hG
  go_enter Tryz.func27, Tryz.ntmps27
  go_wp2_with fail
  clear hrun hmm hsz
  go_loopg [5, 7] L.length (fun g v iv wr => ∃ (i : Nat) (zs : List Int) (D : DataW Unit), g = L.length - i ∧ i ≤ zs.length ∧ iv = .int .i64 i ∧ Walk L id i zs ∧ WMem w wr v zs (w.heap.size + 1) D (.slice none 0 0) [])
  case atStart => exact ⟨0, [(id : Int)], _, rfl, by simp, rfl, Walk.start (by omega) (by omega), HM.out⟩
  case round =>
    clear HM
    obtain ⟨i, zs, D, rfl, hi, rfl, hW, hM⟩ := hrel
    have hzl := hW.len
    obtain ⟨g, cap, rfl, hgB, hzc⟩ := hM.row.form (fun e => by have := hW.head; rw [e] at this; simp at this)
    by_cases hlt : i < zs.length
    · obtain ⟨z, hz⟩ : ∃ z, zs[i]? = some z := ⟨zs[i], List.getElem?_eq_getElem hlt⟩
      have hzr := hW.range z (List.mem_of_getElem? hz)
      obtain ⟨m, rfl⟩ : ∃ m : Nat, z = m := ⟨z.toNat, by omega⟩
      obtain ⟨t, ht⟩ : ∃ t, L[m]? = some t := ⟨L[m]'(by omega), List.getElem?_eq_getElem _⟩
      obtain ⟨gt, ct, vn, vp, hA, _, _, _⟩ := (HS.out.1.below hM.bl).at ht
      obtain ⟨an, cn, rfl, _⟩ := _root_.id hA.n
      obtain ⟨ap, cp, rfl, _⟩ := _root_.id hA.p
      obtain ⟨c0, x0, x1, x2, x3, x4, x5, _, _⟩ := hA
      have li := hM.row.cell hz
      have q0 : (0 : Int) ≤ (i : Int) := by omega
      have q1 : (i : Int) < (zs.length : Int) := by omega
      have q2 : (0 : Int) ≤ (m : Int) := by omega
      have q3 : (m : Int) < (L.length : Int) := by omega
      have HP : Hid (∀ W, Calls Tryz.prog 28 #[.agg #[.int .i64 t.kind, .int .i64 t.label, .int .i64 t.a, .int .i64 t.b, .slice an t.names.length cn, .slice ap t.pairs.length cp]] W fun r w' => ∃ v, r = .returned v ∧ OwnI w' W.heap.size v t.parts ∧ Below W.heap.size W w') := fun W => parts_any t _ _ W
      have HI : Hid _ := And.intro hW (And.intro hM (And.intro hz ht))
      clear hW hM hz ht
      go_wp2_with fail
      go_region_law
        ((first
          | (go_simp; go_at_call 28; refine (HP.out _).mono ?_; rintro r1 w1 ⟨vq, rfl, hq, hb1'⟩; obtain ⟨aoq, capq, rfl⟩ := row_shape hq; have hM1 := HI.out.2.1.parts (below_of_drew3 hb1') hq; have H1 : Hid _ := hM1; clear hM1 hq hb1' c0 x0 x1 x2 x3 x4 x5 li HP)))
      all_goals
        (try go_simp)
        go_wp2_with fail
        obtain ⟨n, hn⟩ : ∃ n, n = t.parts.length := ⟨_, rfl⟩
        have HN : Hid (n = t.parts.length ∧ n ≤ 2) := ⟨hn, by rw [hn]; exact parts_len t⟩
        rw [← hn]
        clear hn
        go_loopg [5, 36] n (fun g v kv wr => ∃ (k : Nat) (ys : List Int) (E : DataW Unit), g = n - k ∧ k ≤ n ∧ kv = .int .i64 k ∧ Walk L id i ys ∧ ys[i]? = some (m : Int) ∧ (∀ (q : Nat) (p : Int), q < k → t.parts[q]? = some p → p ∈ ys) ∧ WMem w wr v ys (w.heap.size + 1) E (.slice aoq n capq) t.parts)
        case atStart => exact ⟨0, zs, D, rfl, Nat.zero_le _, rfl, HI.out.1, HI.out.2.2.1, fun q p h => by omega, by rw [HN.out.1]; exact H1.out⟩
        case round =>
          obtain ⟨k, ys, E, rfl, hk, rfl, hW, hyi, hdone, hM⟩ := hrel
          have hyl := hW.len
          have hn2 := HN.out.2
          have hil := (List.getElem?_eq_some_iff.1 hyi).1
          obtain ⟨g', cap', rfl, hgB', hyc⟩ := hM.row.form (fun e => by have := hW.head; rw [e] at this; simp at this)
          by_cases hlt : k < n
          · obtain ⟨p, hp⟩ : ∃ p, t.parts[k]? = some p := ⟨t.parts[k]'(by have := HN.out.1; omega), List.getElem?_eq_getElem _⟩
            have hpm := List.mem_of_getElem? hp
            have hpr := good_parts HS.out.2 HI.out.2.2.2 p hpm
            have hpa : p ∈ partsAt L (m : Int) := by rw [partsAt_of HI.out.2.2.2]; exact hpm
            obtain ⟨gq, capq', hqe, _, _⟩ := hM.par.form (fun e => by rw [e] at hpm; simp at hpm)
            injection hqe with e1 e2 e3
            subst e1
            have lq := hM.par.cell hp
            have q4 : (0 : Int) ≤ (k : Int) := by omega
            have q5 : (k : Int) < (n : Int) := by omega
            have pw : (Lit.int .i64 p).wf = true := WalkArith.wf_i64 (by omega)
            obtain ⟨uv, ups, hlook, huv⟩ := hM.map.look_ok Tryz.lawI Tryz.underlying118 (Tryz.zeroU wr) unitElem_mk (keyOf_int_mk (a := p) Tryz.underlying3 pw)
            obtain ⟨rfl, _⟩ := unitElem_inv huv
            rw [hM.set p] at hlook
            clear e2 e3 huv hpm
            have hna : Below wr.heap.size wr (wr.alloc (.cells #[] 117)) := (Below.refl _ _).alloc (Nat.le_refl _) _
            by_cases hin : p ∈ ys
            · rw [decide_eq_true hin] at hlook
              have HJ : Hid _ := And.intro hW (And.intro hyi (And.intro hdone (And.intro (hM.below hna) (And.intro hp hin))))
              clear hW hyi hdone hM hp hin hpa hna
              go_wp2_with fail
              go_roundg (n - (k + 1))
              case measure => omega
              case rel => exact ⟨k + 1, ys, E, rfl, by omega, by go_num, HJ.out.1, HJ.out.2.1, fun q r hq hr => by
                rcases Nat.lt_or_ge q k with h | h
                · exact HJ.out.2.2.1 q r h hr
                · obtain rfl : q = k := by omega
                  rw [HJ.out.2.2.2.2.1] at hr
                  cases hr
                  exact HJ.out.2.2.2.2.2, HJ.out.2.2.2.1⟩
            · rw [decide_eq_false hin] at hlook
              have hM0 := hM.below hna
              obtain ⟨w2, hrun, ho2, hg2⟩ := hM0.map.update Tryz.lawI Tryz.underlying118 (by unfold maxLen; omega) (keyOf_int_mk (a := p) Tryz.underlying3 pw) unitElem_mk
              have hK := hM0.mark ho2 hg2
              have hml : ys.length + 1 ≤ maxLen := by unfold maxLen; omega
              have hby : (ys.length + 1) * 8 ≤ 140737488355328 := by omega
              have hbs : w.heap.size ≤ (w2.alloc (.cells #[.int .i64 p] 3)).heap.size := by have := hK.bl.size; simp; omega
              have HJ : Hid _ := And.intro hW (And.intro hyi (And.intro hdone (And.intro hK (And.intro hp (And.intro hin (And.intro hpa hpr))))))
              clear hW hyi hdone hM hp hin hpa hna hM0 ho2 hg2 hK
              go_wp2_with (at_builtin; refine wpList_append_own_at _ rfl _ _ 29 rfl w.heap.size 3 i0 (.int .i64 0) 1 8 Tryz.underlying29 hi0 hz0 hz1 hz2 rfl (by decide) _ ys.length (iC ys) rfl (HJ.out.2.2.2.1.row.alloc _) ⟨w2.heap.size, 0, none⟩ 1 1 [.int .i64 p] rfl rfl (cell_one_new _ _ _) (int_one1 p) hml hby hbs ?_; intro v' w3 hown' hgrow hnil hat; obtain ⟨ao9, cap9, rfl⟩ := row_shape hown'; have H2 : Hid _ := (HJ.out.2.2.2.1.alloc (.cells #[.int .i64 p] 3)).put hown' hgrow hat; clear hown' hgrow hat hnil)
              go_roundg (n - (k + 1))
              case measure => omega
              case rel => exact ⟨k + 1, ys ++ [p], _, rfl, by omega, by go_num, HJ.out.1.more HJ.out.2.2.2.2.2.1 (List.mem_of_getElem? HJ.out.2.1) HJ.out.2.2.2.2.2.2.1 HJ.out.2.2.2.2.2.2.2.1 (by have := HJ.out.2.2.2.2.2.2.2.2; omega) (by omega), by rw [List.getElem?_append_left hil]; exact HJ.out.2.1, fun q r hq hr => by
                rcases Nat.lt_or_ge q k with h | h
                · exact List.mem_append_left _ (HJ.out.2.2.1 q r h hr)
                · obtain rfl : q = k := by omega
                  rw [HJ.out.2.2.2.2.1] at hr
                  cases hr
                  simp, H2.out⟩
          · obtain rfl : k = n := by omega
            have q5 : ¬ (k : Int) < (k : Int) := by omega
            have HJ : Hid _ := And.intro (hW.next hyi (fun p hp => by
              rw [partsAt_of HI.out.2.2.2] at hp
              obtain ⟨q, hq, rfl⟩ := List.getElem_of_mem hp
              exact hdone q _ (by have := HN.out.1; omega) (List.getElem?_eq_getElem hq))) hM.drop
            clear hW hyi hdone hM
            go_wp2_with fail
            go_roundg (L.length - (i + 1))
            case measure => omega
            case rel => exact ⟨i + 1, ys, E, rfl, by omega, by go_num, HJ.out.1, HJ.out.2⟩
    · obtain rfl : i = zs.length := by omega
      have q1 : ¬ (zs.length : Int) < (zs.length : Int) := by omega
      have HI : Hid _ := And.intro hW hM
      clear hW hM
      go_wp2_with fail
      refine (sortI_any wr w.heap.size g cap zs HI.out.2.row (by omega)).mono ?_
      rintro r1 w1 ⟨rfl, hO, hG1⟩
      have HO : Hid _ := And.intro hO hG1
      clear hO hG1
      go_wp2_with fail
      go_ret
      exact ⟨_, _, rfl, HO.out.1, HI.out.1.fin (sort_perm zs) (sort_rise zs), HI.out.2.bl.grown HO.out.2 HI.out.2.bl.size (fun k hk => by have := Option.some.inj hk; omega)⟩
end Go.Proofs.YthnenpncajpibaaGreatDoor
/- Contract of Weight. -/
namespace Go.Proofs.YthnenpncajpibaaGreatDoor
open Go.RowKit Go.Maps
attribute [local go_sem ↓] Go.wp_at_zero Go.wp_at_succ
namespace Tm
/-- The weights of the first n terms. -/
def wtl (L : List Tm) : Nat → List Nat
  | 0 => []
  | n + 1 => wtl L n ++ [match L[n]? with | some t => min (1 + ((t.parts.map fun p => (wtl L n).getD p.toNat 0).sum)) 65537 | none => 0]
def wt (L : List Tm) (z : Nat) : Nat := (wtl L (z + 1)).getD z 0
end Tm
theorem wtl_length (L : List Tm) : ∀ n, (Tm.wtl L n).length = n
  | 0 => rfl
  | n + 1 => by rw [Tm.wtl, List.length_append, wtl_length L n]; rfl
theorem wtl_get (L : List Tm) : ∀ n z, z < n → (Tm.wtl L n).getD z 0 = Tm.wt L z
  | 0, z, h => by omega
  | n + 1, z, h => by
    rcases Nat.lt_or_ge z n with h1 | h1
    · rw [Tm.wtl, List.getD_eq_getElem?_getD, List.getElem?_append_left (by rw [wtl_length]; exact h1), ← List.getD_eq_getElem?_getD]
      exact wtl_get L n z h1
    · obtain rfl : z = n := by omega
      rfl
theorem wt_of {L : List Tm} (hG : Tm.Good L) {m : Nat} {t : Tm} (h : L[m]? = some t) : Tm.wt L m = min (1 + ((t.parts.map fun p => Tm.wt L p.toNat).sum)) 65537 := by
  have e : t.parts.map (fun p => (Tm.wtl L m).getD p.toNat 0) = t.parts.map fun p => Tm.wt L p.toNat := List.map_congr_left fun p hp => wtl_get L m _ (by have := good_parts hG h p hp; omega)
  have hl := wtl_length L m
  unfold Tm.wt
  rw [Tm.wtl, h]
  simp only
  rw [e, List.getD_eq_getElem?_getD, List.getElem?_append_right (by omega), hl]
  simp [Tm.wt]
theorem wt_le (L : List Tm) (z : Nat) : Tm.wt L z ≤ 65537 := by
  unfold Tm.wt
  rw [Tm.wtl]
  rw [List.getD_eq_getElem?_getD, List.getElem?_append_right (by rw [wtl_length]; exact Nat.le_refl _), wtl_length]
  simp
  split
  · exact Nat.min_le_right _ _
  · omega
/-- The weights that are known. -/
def Wts (L : List Tm) (ts : List Int) (j : Nat) (D : DataW Unit) : Prop := ∀ (q : Nat) (z : Int), q < j → ts[q]? = some z → D.atKey (.int .i64 z) (.lit (.int .i64 0)) = .lit (.int .i64 (Tm.wt L z.toNat))
theorem Wts.next {L : List Tm} {ts : List Int} {j : Nat} {D : DataW Unit} (h : Wts L ts j D) (hD : IsMap D) {z : Int} (hz : ts[j]? = some z) (hr : ts.Pairwise (· < ·)) : Wts L ts (j + 1) (D.put (.int .i64 z) (.lit (.int .i64 (Tm.wt L z.toNat)))) := fun q y hq hy => by
  rcases Nat.lt_or_ge q j with h1 | h1
  · have hne : y ≠ z := by
      obtain ⟨hq', rfl⟩ := List.getElem?_eq_some_iff.1 hy
      obtain ⟨hj', rfl⟩ := List.getElem?_eq_some_iff.1 hz
      have := List.pairwise_iff_getElem.1 hr q j hq' hj' h1
      omega
    rw [atKey_put_other (fun e => hne (by injection e))]
    exact h q y h1 hy
  · obtain rfl : q = j := by omega
    rw [hz] at hy
    cases hy
    exact atKey_put_same hD (ikey _) _ _
/-- A part of a term that stands there is known. -/
theorem Wts.part {L : List Tm} {id : Int} {ts : List Int} {j : Nat} {D : DataW Unit} (h : Wts L ts j D) (hw : Withi L id ts) (hG : Tm.Good L) {m : Nat} {t : Tm} (hz : ts[j]? = some (m : Int)) (ht : L[m]? = some t) {p : Int} (hp : p ∈ t.parts) : D.atKey (.int .i64 p) (.lit (.int .i64 0)) = .lit (.int .i64 (Tm.wt L p.toNat)) := by
  have hc := hw.closed (m : Int) (List.mem_of_getElem? hz) p (by rw [partsAt_of ht]; exact hp)
  have hlt := good_parts hG ht p hp
  obtain ⟨q, hq, rfl⟩ := List.getElem_of_mem hc
  obtain ⟨hj, he⟩ := List.getElem?_eq_some_iff.1 hz
  refine h q _ ?_ (List.getElem?_eq_getElem hq)
  rcases Nat.lt_or_ge q j with h1 | h1
  · exact h1
  · exfalso
    rcases Nat.lt_or_ge j q with h2 | h2
    · have := List.pairwise_iff_getElem.1 hw.rise j q hj hq h2
      omega
    · obtain rfl : q = j := by omega
      omega
/-- The sum so far. -/
def wsum (L : List Tm) (ps : List Int) (k : Nat) : Nat := 1 + (((ps.take k).map fun p => Tm.wt L p.toNat).sum)
theorem wsum_next {L : List Tm} {ps : List Int} {k : Nat} {p : Int} (h : ps[k]? = some p) : wsum L ps (k + 1) = wsum L ps k + Tm.wt L p.toNat := by
  unfold wsum
  rw [take_succ_of h, List.map_append, List.sum_append]
  simp; omega
theorem sum_le : ∀ (l : List Nat), (∀ x ∈ l, x ≤ 65537) → l.sum ≤ l.length * 65537
  | [], _ => by simp
  | x :: r, h => by
    have h1 := sum_le r fun y hy => h y (by simp [hy])
    have h2 := h x (by simp)
    simp only [List.sum_cons, List.length_cons, Nat.succ_mul]
    omega
theorem wsum_le (L : List Tm) (ps : List Int) (k : Nat) (hl : ps.length ≤ 2) : wsum L ps k ≤ 200000 := by
  unfold wsum
  have h := sum_le ((ps.take k).map fun p => Tm.wt L p.toNat) fun x hx => by
    obtain ⟨p, _, rfl⟩ := List.mem_map.1 hx
    exact wt_le L _
  rw [List.length_map] at h
  have h2 : (ps.take k).length ≤ ps.length := List.length_take_le' _ _
  have h3 : (ps.take k).length * 65537 ≤ 2 * 65537 := Nat.mul_le_mul_right _ (by omega)
  omega
/-- The list, the weights. -/
structure QMem (w wr : World) (v : Value) (ts : List Int) (bm n : Nat) (D : DataW Unit) : Prop where
  bl : Below w.heap.size w wr
  row : OwnI wr w.heap.size v ts
  map : wr.ownsMap (H := Unit) Tryz.prog 3 (plainElem Tryz.prog 3) bm n D
  up : w.heap.size ≤ bm
theorem QMem.below {w wr w1 : World} {v : Value} {ts : List Int} {bm n : Nat} {D : DataW Unit} (h : QMem w wr v ts bm n D) (hb : Below wr.heap.size wr w1) : QMem w w1 v ts bm n D :=
  ⟨h.bl.trans (hb.mono h.bl.size), trow_at h.row fun i hi => hb.block i (h.row.lt i hi).2, map_at h.map (hb.block _ h.map.lt), h.up⟩
theorem QMem.put {w wr w2 : World} {v : Value} {ts : List Int} {bm n n' : Nat} {D E : DataW Unit} (h : QMem w wr v ts bm n D) (ho : w2.ownsMap (H := Unit) Tryz.prog 3 (plainElem Tryz.prog 3) bm n' E) (hg : wr.grownBy w2 (some bm)) : QMem w w2 v ts bm n' E := by
  refine ⟨h.bl.grown hg h.bl.size (fun k hk => by have := Option.some.inj hk; have := h.up; omega), trow_at h.row fun i hi => hg.block i (h.row.lt i hi).2 fun e => ?_, ho, h.up⟩
  obtain ⟨c, hc⟩ := row_cells h.row hi
  exact map_ne hc h.map (Option.some.inj e)
set_option maxRecDepth 100000 in
set_option maxHeartbeats 1600000 in
theorem weight_yes (b : Nat) (L : List Tm) (F : Nat → Prop) (id : Nat) (w : World) (hS : StoB w b L F) (hG : Tm.Good L) (hid : id < L.length) :
    Calls Tryz.prog 9 #[.pointer (some ⟨b, 0, none⟩), .int .i64 id] w fun r w' => r = .returned (.tuple #[.int .i64 (Tm.wt L id), .nilIface]) ∧ Below w.heap.size w w' := by
  have hbig := hS.big
  obtain ⟨ao, cap, hc⟩ := hS.cell
  have hl := lacks_no b ao L.length cap id w hc (by simp [Tm.has]; omega)
  have hb0 : Below w.heap.size w (w.alloc (.map #[] 0)) := (Below.refl _ _).alloc (Nat.le_refl _) _
  have hwi := within_any b L F id (w.alloc (.map #[] 0)) (hS.below hb0) hG hid
  have hmade := World.ownsMap_made (H := Unit) w Tryz.prog 3 (plainElem Tryz.prog 3)
  have hmm := @run_makeMap Tryz.prog
  have HL : Hid _ := And.intro hl (And.intro hwi (And.intro hmade hb0))
  have HS : Hid _ := And.intro hS hG
  clear hl hwi hmade hb0 hS hG hc
  go_enter Tryz.func9, Tryz.ntmps9
  go_wp2_with fail
  refine HL.out.1.mono ?_
  rintro r w1 ⟨rfl, hw⟩
  obtain rfl := hw.symm
  go_wp2_with fail
  refine HL.out.2.1.mono ?_
  rintro r w1 ⟨v, ts, rfl, hO, hWi, hb1⟩
  have hQ : QMem w w1 v ts w.heap.size 0 (.map []) := ⟨HL.out.2.2.2.trans (hb1.mono HL.out.2.2.2.size), row_base hO HL.out.2.2.2.size, map_at HL.out.2.2.1 (hb1.block _ HL.out.2.2.1.lt), Nat.le_refl _⟩
  obtain ⟨g, capt, rfl, hgB, htc⟩ := hQ.row.form (fun e => by have := hWi.head; rw [e] at this; simp at this)
  have htl : ts.length ≤ L.length := nodup_le _ _ (hWi.rise.imp fun h => by omega) hWi.range
  obtain ⟨n, hn⟩ : ∃ n, n = ts.length := ⟨_, rfl⟩
  rw [← hn] at htl htc ⊢
  have HQ : Hid _ := And.intro hQ (And.intro hWi hn)
  clear hQ hO hWi hb1 hn hmm
  go_wp2_with fail
  go_loopg [24] n (fun q iv wr => ∃ (j : Nat) (D : DataW Unit), q = n - j ∧ j ≤ n ∧ iv = .int .i64 j ∧ Wts L ts j D ∧ QMem w wr (.slice (some ⟨g, 0, none⟩) n capt) ts w.heap.size j D)
  case atStart => exact ⟨0, .map [], rfl, Nat.zero_le _, rfl, fun q z h => by omega, by rw [HQ.out.2.2]; exact HQ.out.1⟩
  case round =>
    obtain ⟨j, D, rfl, hj, rfl, hWt, hQ⟩ := hrel
    by_cases hlt : j < n
    · obtain ⟨z, hz⟩ : ∃ z, ts[j]? = some z := ⟨ts[j]'(by have := HQ.out.2.2; omega), List.getElem?_eq_getElem _⟩
      have hzr := HQ.out.2.1.range z (List.mem_of_getElem? hz)
      obtain ⟨m, rfl⟩ : ∃ m : Nat, z = m := ⟨z.toNat, by omega⟩
      obtain ⟨t, ht⟩ : ∃ t, L[m]? = some t := ⟨L[m]'(by omega), List.getElem?_eq_getElem _⟩
      obtain ⟨gt, ct, vn, vp, hA, _, _, _⟩ := (HS.out.1.below hQ.bl).at ht
      obtain ⟨an, cn, rfl, _⟩ := _root_.id hA.n
      obtain ⟨ap, cp, rfl, _⟩ := _root_.id hA.p
      obtain ⟨c0, x0, x1, x2, x3, x4, x5, _, _⟩ := hA
      have li := hQ.row.cell hz
      have q0 : (0 : Int) ≤ (j : Int) := by omega
      have q1 : (j : Int) < (n : Int) := by omega
      have q2 : (0 : Int) ≤ (m : Int) := by omega
      have q3 : (m : Int) < (L.length : Int) := by omega
      have HP : Hid (∀ W, Calls Tryz.prog 28 #[.agg #[.int .i64 t.kind, .int .i64 t.label, .int .i64 t.a, .int .i64 t.b, .slice an t.names.length cn, .slice ap t.pairs.length cp]] W fun r w' => ∃ v, r = .returned v ∧ OwnI w' W.heap.size v t.parts ∧ Below W.heap.size W w') := fun W => parts_any t _ _ W
      have HI : Hid _ := And.intro hWt (And.intro hQ (And.intro hz ht))
      clear hWt hQ hz ht
      go_wp2_with fail
      refine (HP.out _).mono ?_
      rintro r1 w2 ⟨vq, rfl, hq, hb2⟩
      obtain ⟨aoq, capq, rfl⟩ := row_shape hq
      obtain ⟨k2, hk2⟩ : ∃ k2, k2 = t.parts.length := ⟨_, rfl⟩
      have hk3 : k2 ≤ 2 := by rw [hk2]; exact parts_len t
      rw [← hk2]
      have H2 : Hid _ := And.intro (HI.out.2.1.below hb2) (And.intro hq hk2)
      clear hq hb2 hk2 HP c0 x0 x1 x2 x3 x4 x5 li
      go_wp2_with fail
      go_loopg [10, 37] k2 (fun q wv kv wr => ∃ k : Nat, q = k2 - k ∧ k ≤ k2 ∧ kv = .int .i64 k ∧ wv = .int .i64 (wsum L t.parts k) ∧ w2 = wr)
      case atStart => exact ⟨0, rfl, Nat.zero_le _, rfl, rfl, rfl⟩
      case round =>
        obtain ⟨k, rfl, hk, rfl, rfl, rfl⟩ := hrel
        have hws := wsum_le L t.parts k (by have := H2.out.2.2; omega)
        by_cases hlt2 : k < k2
        · obtain ⟨p, hp⟩ : ∃ p, t.parts[k]? = some p := ⟨t.parts[k]'(by have := H2.out.2.2; omega), List.getElem?_eq_getElem _⟩
          have hpm := List.mem_of_getElem? hp
          have hpr := good_parts HS.out.2 HI.out.2.2.2 p hpm
          have hq := H2.out.2.1
          rw [← H2.out.2.2] at hq
          obtain ⟨gq, capq', hqe, _, _⟩ := hq.form (fun e => by rw [e] at hpm; simp at hpm)
          injection hqe with e1 e2 e3
          subst e1
          have lq := hq.cell hp
          have q4 : (0 : Int) ≤ (k : Int) := by omega
          have q5 : (k : Int) < (k2 : Int) := by omega
          have pw : (Lit.int .i64 p).wf = true := WalkArith.wf_i64 (by omega)
          obtain ⟨c, hrun, hat, _⟩ := H2.out.1.map.lookup_int Tryz.lawI Tryz.underlying77 Tryz.underlying3 (Tryz.zeroI3 w2) (keyOf_int_mk (a := p) Tryz.underlying3 pw)
          rw [HI.out.1.part HQ.out.2.1 HS.out.2 HI.out.2.2.1 HI.out.2.2.2 hpm] at hat
          injection hat with hat
          injection hat with _ hat
          subst hat
          have hwl := wt_le L p.toNat
          have HN : Hid (wsum L t.parts (k + 1) = wsum L t.parts k + Tm.wt L p.toNat) := wsum_next hp
          clear e2 e3 hpm hq hp
          go_wp2_with fail
          go_roundg (k2 - (k + 1))
          case measure => omega
          case rel => exact ⟨k + 1, rfl, by omega, by go_num, by rw [HN.out]; go_num, rfl⟩
        · obtain rfl : k = k2 := by omega
          have q5 : ¬ (k : Int) < (k : Int) := by omega
          have hwt : min (wsum L t.parts k) 65537 = Tm.wt L m := by
            rw [wt_of HS.out.2 HI.out.2.2.2]
            unfold wsum
            rw [H2.out.2.2, List.take_length]
          have hwz : min ((wsum L t.parts k : Nat) : Int) 65537 = ((Tm.wt L m : Nat) : Int) := by rw [← hwt]; omega
          obtain ⟨w3, hrun, ho3, hg3⟩ := H2.out.1.map.update Tryz.lawI Tryz.underlying77 (by unfold maxLen; omega) (keyOf_int_mk (a := (m : Int)) Tryz.underlying3 (WalkArith.wf_i64 (by omega))) (plainElem_int (a := min ((wsum L t.parts k : Nat) : Int) 65537) Tryz.underlying3 (WalkArith.wf_i64 (by omega)))
          have HW : Hid _ := And.intro hwz (And.intro ho3 hg3)
          clear hwt hwz ho3 hg3
          go_wp2_with fail
          go_roundg (n - (j + 1))
          case measure => omega
          case rel =>
            have hN := HI.out.1.next H2.out.1.map.isMap HI.out.2.2.1 HQ.out.2.1.rise
            have hP := H2.out.1.put HW.out.2.1 HW.out.2.2
            rw [HW.out.1] at hP
            exact ⟨j + 1, _, rfl, by omega, by go_num, hN, by simpa using hP⟩
    · obtain rfl : j = n := by omega
      have q1 : ¬ (j : Int) < (j : Int) := by omega
      obtain ⟨q, hq, hqe⟩ := List.getElem_of_mem HQ.out.2.1.head
      obtain ⟨c, hrun, hat, _⟩ := hQ.map.lookup_int Tryz.lawI Tryz.underlying77 Tryz.underlying3 (Tryz.zeroI3 wr) (keyOf_int_mk (a := (id : Int)) Tryz.underlying3 (WalkArith.wf_i64 (by omega)))
      rw [hWt q (id : Int) (by have := HQ.out.2.2; omega) (by rw [List.getElem?_eq_getElem hq, hqe])] at hat
      injection hat with hat
      injection hat with _ hat
      subst hat
      have HB : Hid _ := hQ.bl
      clear hWt hQ hqe
      go_wp2_with fail
      go_ret2
      exact ⟨by simp, HB.out⟩
theorem weight_no (b : Nat) (L : List Tm) (F : Nat → Prop) (i : Int) (T : TypeId) (u : Value) (w : World) (hS : StoB w b L F) (hi : Tm.has L.length i = false) (hE : w.cell? ⟨1, 0, none⟩ = some (.iface T u)) :
    Calls Tryz.prog 9 #[.pointer (some ⟨b, 0, none⟩), .int .i64 i] w fun r w' => r = .returned (.tuple #[.int .i64 0, tFaultV w.heap.size]) ∧ TermFault w' w.heap.size (.iface T u) ∧ Below w.heap.size w w' := by
  obtain ⟨ao, cap, hc⟩ := hS.cell
  have hl := lacks_yes b ao L.length cap i T u w hc hi hE
  unfold tFaultV at hl ⊢
  have HL : Hid _ := hl
  clear hl
  go_enter Tryz.func9, Tryz.ntmps9
  go_wp2_with fail
  refine Calls.mono HL.out ?_
  rintro r w2 ⟨rfl, hF, hb2⟩
  go_wp2_with fail
  go_ret2
  exact ⟨rfl, hF, hb2⟩
end Go.Proofs.YthnenpncajpibaaGreatDoor
/- A store of the call's own; alive of chapter 3. -/
namespace Go.Proofs.YthnenpncajpibaaGreatDoor
open Go.RowKit Go.Maps
/-- A store of the call's own: its blocks lie above what was there. -/
def StoA (w0 w : World) (b : Nat) (L : List Tm) : Prop := ∃ F, StoB w b L F ∧ (∀ i, F i → w0.heap.size ≤ i) ∧ Below w0.heap.size w0 w ∧ Tm.Good L
theorem StoA.put {w0 w w' : World} {b : Nat} {L : List Tm} {F F' : Nat → Prop} {t : Tm} (hF : ∀ i, F i → w0.heap.size ≤ i) (hb : Below w0.heap.size w0 w) (hG : Tm.Good L) (ht : t.may L.length = true) (h1 : StoB w' b (L ++ [t]) F') (h2 : Kept F w w') (h3 : ∀ i, F' i → F i ∨ w.heap.size ≤ i) : StoA w0 w' b (L ++ [t]) :=
  ⟨F', h1, fun i hi => by
    rcases h3 i hi with h | h
    · exact hF i h
    · have := hb.size; omega, hb.trans (h2.below hb.size hF), hG.snoc ht⟩
theorem hand_nil (w : World) (F : Nat → Prop) (k l a b : Int) : Hand w F ⟨k, l, a, b, [], []⟩ (.slice none 0 0) (.slice none 0 0) :=
  ⟨⟨none, 0, rfl, fun i z h => by simp at h⟩, ⟨none, 0, rfl, fun i z h => by simp at h⟩, fun h => absurd rfl h, fun h => absurd rfl h⟩
theorem good_nil : Tm.Good [⟨1, 0, 0, 0, [], []⟩] := fun i t h => by
  cases i with
  | zero => simp at h; subst h; decide
  | succ i => simp at h
theorem newA (w : World) : Calls Tryz.prog 6 #[] w fun r w' => r = .returned (.pointer (some ⟨w.heap.size, 0, none⟩)) ∧ StoA w w' w.heap.size [⟨1, 0, 0, 0, [], []⟩] := by
  refine (new_any3 w).mono ?_
  rintro r w' ⟨rfl, ⟨F, h1, h2⟩, h3⟩
  exact ⟨rfl, F, h1, h2, h3, good_nil⟩
set_option maxRecDepth 100000 in
set_option maxHeartbeats 1600000 in
theorem alive3 (w : World) : Calls Tryz.prog 5 #[] w fun r w' => r = .returned (.bool true) ∧ Below w.heap.size w w' := by
  go_enter Tryz.func5, Tryz.ntmps5
  go_wp2_with fail
  refine (newA w).mono ?_
  rintro r w1 ⟨rfl, F1, hS1, hF1, hb1, hG1⟩
  have hP := put_new w.heap.size [⟨1, 0, 0, 0, [], []⟩] F1 ⟨2, 1, 0, 0, [], []⟩ (.slice none 0 0) (.slice none 0 0) w1 hS1 (hand_nil _ _ _ _ _ _) (by decide) (by simp) (by decide)
  unfold tmV at hP
  have HP : Hid _ := And.intro hP (And.intro hF1 (And.intro hb1 hG1))
  clear hP hS1 hF1 hb1 hG1
  go_wp2_with fail
  refine HP.out.1.mono ?_
  rintro r w2 ⟨rfl, F2, g1, g2, g3⟩
  obtain ⟨F3, hS2, hF2, hb2, hG2⟩ := StoA.put HP.out.2.1 HP.out.2.2.1 HP.out.2.2.2 (by decide) g1 g2 g3
  have hP := put_new w.heap.size _ F3 ⟨3, 0, 1, 0, [], []⟩ (.slice none 0 0) (.slice none 0 0) w2 hS2 (hand_nil _ _ _ _ _ _) (by decide) (by simp) (by decide)
  unfold tmV at hP
  have HP2 : Hid _ := And.intro hP (And.intro hF2 (And.intro hb2 hG2))
  clear hP hS2 hF2 hb2 hG2 g1 g2 g3 HP
  go_wp2_with fail
  refine HP2.out.1.mono ?_
  rintro r w3 ⟨rfl, F4, g1, g2, g3⟩
  obtain ⟨F5, hS3, hF3, hb3, hG3⟩ := StoA.put HP2.out.2.1 HP2.out.2.2.1 HP2.out.2.2.2 (by decide) g1 g2 g3
  have hW := weight_yes w.heap.size _ F5 2 w3 hS3 hG3 (by decide)
  have hwt : Tm.wt ([⟨1, 0, 0, 0, [], []⟩] ++ [⟨2, 1, 0, 0, [], []⟩] ++ [⟨3, 0, 1, 0, [], []⟩]) 2 = 4 := by decide
  rw [hwt] at hW
  have HW : Hid _ := And.intro hW (And.intro hS3 hb3)
  clear hW hwt hS3 hF3 hb3 hG3 g1 g2 g3 HP2
  go_wp2_with fail
  refine HW.out.1.mono ?_
  rintro r w4 ⟨rfl, hb4⟩
  obtain ⟨ao, cap, hc⟩ := (HW.out.2.1.below hb4).cell
  have hZ := tsize_any w.heap.size ao _ cap w4 hc
  have HB : Hid _ := HW.out.2.2.trans (hb4.mono HW.out.2.2.size)
  have HZ : Hid _ := hZ
  clear hZ hb4 hc HW
  go_wp2_with fail
  refine Calls.mono HZ.out ?_
  rintro r w5 ⟨rfl, hw⟩
  obtain rfl := hw.symm
  go_wp2_with fail
  go_ret
  exact ⟨rfl, HB.out⟩
end Go.Proofs.YthnenpncajpibaaGreatDoor
/- What the statement TermBack keeps: the list that came in, a store of its own, the numbers that were told. -/
namespace Go.Proofs.YthnenpncajpibaaGreatDoor
open Go.RowKit Go.Maps
/-- A term as six cells. -/
structure Row6 (w : World) (g o : Nat) (t : Tm) (vn vp : Value) : Prop where
  x0 : w.cell? ⟨g, o, none⟩ = some (.int .i64 t.kind)
  x1 : w.cell? ⟨g, o + 1, none⟩ = some (.int .i64 t.label)
  x2 : w.cell? ⟨g, o + 2, none⟩ = some (.int .i64 t.a)
  x3 : w.cell? ⟨g, o + 3, none⟩ = some (.int .i64 t.b)
  x4 : w.cell? ⟨g, o + 4, none⟩ = some vn
  x5 : w.cell? ⟨g, o + 5, none⟩ = some vp
theorem Row6.below {w w' : World} {g o : Nat} {t : Tm} {vn vp : Value} (h : Row6 w g o t vn vp) (hb : Below w.heap.size w w') : Row6 w' g o t vn vp :=
  ⟨cell_up h.x0 hb, cell_up h.x1 hb, cell_up h.x2 hb, cell_up h.x3 hb, cell_up h.x4 hb, cell_up h.x5 hb⟩
theorem Row6.lt {w : World} {g o : Nat} {t : Tm} {vn vp : Value} (h : Row6 w g o t vn vp) : g < w.heap.size := World.block_lt_of_cell? w _ h.x0
/-- A term of the list that came in. -/
structure OneT (w : World) (ao : Option Addr) (i : Nat) (t : Tm) (g o : Nat) (vn vp : Value) : Prop where
  ad : ao = some ⟨g, o, none⟩
  row : Row6 w g (o + i * 6) t vn vp
  n : HasI w vn t.names
  p : HasP w vp t.pairs
  nl : t.names.length ≤ maxLen
  pl : t.pairs.length ≤ maxLen
theorem OneT.below {w w' : World} {ao : Option Addr} {i : Nat} {t : Tm} {g o : Nat} {vn vp : Value} (h : OneT w ao i t g o vn vp) (hb : Below w.heap.size w w') : OneT w' ao i t g o vn vp :=
  ⟨h.ad, h.row.below hb, h.n.below hb, h.p.below hb, h.nl, h.pl⟩
/-- The value is a list of these terms. -/
def HasT (w : World) (v : Value) (l : List Tm) : Prop := ∃ ao cap, v = .slice ao l.length cap ∧ ∀ (i : Nat) (t : Tm), l[i]? = some t → ∃ g o vn vp, OneT w ao i t g o vn vp
/-- What came in is apart from a store of the call's own. -/
theorem OneT.hand {w0 w : World} {ao : Option Addr} {i : Nat} {t : Tm} {g o : Nat} {vn vp : Value} (h : OneT w0 ao i t g o vn vp) {F : Nat → Prop} (hF : ∀ i, F i → w0.heap.size ≤ i) (hb : Below w0.heap.size w0 w) : Hand w F t vn vp :=
  ⟨h.n.below hb, h.p.below hb, fun hz i hi hf => by have h1 := made_far h.n hz hi; have h2 := hF i hf; omega, fun hz i hi hf => by have h1 := made_farP h.p hz hi; have h2 := hF i hf; omega⟩
/-- The state of the loop. -/
structure Bk (w0 w : World) (b gi : Nat) (L : List Tm) (F : Nat → Prop) (xs : List Int) : Prop where
  s : StoB w b L F
  up : ∀ i, F i → w0.heap.size ≤ i
  good : Tm.Good L
  ids : ∃ cs, w.heap[gi]? = some (.cells cs 3 (0, 0)) ∧ cs.toList = iC xs
  gu : w0.heap.size ≤ gi
  gf : ¬ F gi
  bl : Below w0.heap.size w0 w
theorem Bk.lt {w0 w : World} {b gi : Nat} {L : List Tm} {F : Nat → Prop} {xs : List Int} (h : Bk w0 w b gi L F xs) : gi < w.heap.size := by
  obtain ⟨cs, hc, _⟩ := h.ids
  exact t_lt hc
theorem Bk.below {w0 w w' : World} {b gi : Nat} {L : List Tm} {F : Nat → Prop} {xs : List Int} (h : Bk w0 w b gi L F xs) (hb : Below w.heap.size w w') : Bk w0 w' b gi L F xs := by
  obtain ⟨cs, hc, hx⟩ := h.ids
  exact ⟨h.s.below hb, h.up, h.good, ⟨cs, (hb.block _ (t_lt hc)).trans hc, hx⟩, h.gu, h.gf, h.bl.trans (hb.mono h.bl.size)⟩
theorem Bk.put {w0 w w' : World} {b gi : Nat} {L : List Tm} {F F' : Nat → Prop} {xs : List Int} {t : Tm} (h : Bk w0 w b gi L F xs) (ht : t.may L.length = true) (h1 : StoB w' b (L ++ [t]) F') (h2 : Kept F w w') (h3 : ∀ i, F' i → F i ∨ w.heap.size ≤ i) : Bk w0 w' b gi (L ++ [t]) F' xs := by
  obtain ⟨cs, hc, hx⟩ := h.ids
  have hlt := t_lt hc
  refine ⟨h1, fun i hi => ?_, h.good.snoc ht, ⟨cs, (h2.block _ hlt h.gf).trans hc, hx⟩, h.gu, fun hf => ?_, h.bl.trans (h2.below h.bl.size h.up)⟩
  · rcases h3 i hi with e | e
    · exact h.up i e
    · have := h.bl.size; omega
  · rcases h3 gi hf with e | e
    · exact h.gf e
    · omega
theorem Bk.cell {w0 w : World} {b gi : Nat} {L : List Tm} {F : Nat → Prop} {xs : List Int} (h : Bk w0 w b gi L F xs) {i : Nat} {x : Int} (hi : xs[i]? = some x) : w.cell? ⟨gi, i, none⟩ = some (.int .i64 x) := by
  obtain ⟨cs, hc, hx⟩ := h.ids
  rw [tb_cell hc, ← Array.getElem?_toList, hx]
  simp [iC, hi]
theorem Bk.free {w0 w : World} {b gi : Nat} {L : List Tm} {F : Nat → Prop} {xs : List Int} (h : Bk w0 w b gi L F xs) (i : Nat) : w.frozen? ⟨gi, i, none⟩ = false := by
  obtain ⟨cs, hc, hx⟩ := h.ids
  exact blk_free hc i
theorem Bk.set {w0 w : World} {b gi : Nat} {L : List Tm} {F : Nat → Prop} {xs : List Int} (h : Bk w0 w b gi L F xs) (i : Nat) (x : Int) : Bk w0 (w.setCell ⟨gi, i, none⟩ (.int .i64 x)) b gi L F (xs.set i x) := by
  obtain ⟨cs, hc, hx⟩ := h.ids
  refine ⟨h.s.kept (Kept.setCell w gi i _) (fun k hk e => h.gf (e ▸ hk)), h.up, h.good, ⟨_, heap_setCell_same w gi i cs _ _ hc, ?_⟩, h.gu, h.gf, h.bl.setCell h.gu _⟩
  rw [Array.toList_setIfInBounds, hx]
  unfold iC
  rw [List.map_set]
/-- What is known of the numbers that were told. -/
def Told3 (L l : List Tm) (xs : List Int) (i : Nat) : Prop := ∀ (q : Nat) (t : Tm), q < i → l[q]? = some t → xs[q]? = some (-1) ∨ ∃ k : Nat, xs[q]? = some (k : Int) ∧ L[k]? = some t
theorem Told3.mono {L l : List Tm} {xs : List Int} {i : Nat} (h : Told3 L l xs i) (t : Tm) : Told3 (L ++ [t]) l xs i := fun q s hq hs => by
  rcases h q s hq hs with e | ⟨k, e1, e2⟩
  · exact .inl e
  · exact .inr ⟨k, e1, by rw [List.getElem?_append_left (List.getElem?_eq_some_iff.1 e2).1]; exact e2⟩
theorem Told3.set {L l : List Tm} {xs : List Int} {i : Nat} (h : Told3 L l xs i) (x : Int) : Told3 L l (xs.set i x) i := fun q s hq hs => by
  have e : (xs.set i x)[q]? = xs[q]? := by rw [List.getElem?_set_ne (by omega)]
  rw [e]
  exact h q s hq hs
theorem Told3.next {L l : List Tm} {xs : List Int} {i : Nat} (h : Told3 L l xs i) (hn : ∀ t, l[i]? = some t → xs[i]? = some (-1) ∨ ∃ k : Nat, xs[i]? = some (k : Int) ∧ L[k]? = some t) : Told3 L l xs (i + 1) := fun q s hq hs => by
  rcases Nat.lt_or_ge q i with e | e
  · exact h q s e hs
  · obtain rfl : q = i := by omega
    exact hn s hs
theorem set_at {xs : List Int} {i : Nat} (h : i < xs.length) (x : Int) : (xs.set i x)[i]? = some x := by
  rw [List.getElem?_set_self h]
/-- The cells of a new list of n noughts. -/
def madeI (n : Nat) : Array Value := madeCells (Value.int .i64 0).cells (n * 1)
theorem madeI_eq (n : Nat) : (madeI n).toList = iC (List.replicate n 0) := by
  apply List.ext_getElem
  · simp [madeI, madeCells, iC]
  · intro i h1 h2
    simp [madeI, madeCells, iC, Value.cells, Nat.mod_one]
theorem make_ints (n : Nat) (hn : n ≤ 100000) (w : World) : (Instr.makeSlice 29 (.int .i64 (n : Int)) (.int .i64 (n : Int))).run Tryz.prog w = .ok (.slice (some ⟨w.heap.size, 0, none⟩) n n) (w.alloc (.cells (madeI n) 3)) := by
  obtain ⟨i0, hi0, hz0, hz1, hz2⟩ := info_parts Tryz.infoI3
  have h := run_makeSlice (P := Tryz.prog) w 29 3 i0 (.int .i64 0) Tryz.underlying29 hi0 hz0 .i64 .i64 (n : Int) (n : Int) (by omega) (Int.le_refl _) (by rw [hz1]; omega) (by rw [hz2]; omega) (by omega)
  rw [h, hz1]
  simp [madeI]
theorem bk_start {w0 w : World} {b : Nat} {L : List Tm} {F : Nat → Prop} (n : Nat) (hs : StoB w b L F) (hu : ∀ i, F i → w0.heap.size ≤ i) (hg : Tm.Good L) (hb : Below w0.heap.size w0 w) : Bk w0 (w.alloc (.cells (madeI n) 3)) b w.heap.size L F (List.replicate n 0) := by
  have h1 : Below w.heap.size w (w.alloc (.cells (madeI n) 3)) := (Below.refl _ _).alloc (Nat.le_refl _) _
  exact ⟨hs.below h1, hu, hg, ⟨_, (MapKept.heap_alloc w _).1, madeI_eq n⟩, hb.size, fun hf => by have := hs.foot_lt hf; omega, hb.trans (h1.mono hb.size)⟩
/-- Put of a term that may be put, there already or new. -/
theorem put_ok (b : Nat) (L : List Tm) (F : Nat → Prop) (t : Tm) (vn vp : Value) (w : World) (hS : StoB w b L F) (hh : Hand w F t vn vp) (hmay : t.may L.length = true) (hlen : L.length < 100000) :
    Calls Tryz.prog 20 #[.pointer (some ⟨b, 0, none⟩), tmV t vn vp] w fun r w' => ∃ (k : Nat) (L' : List Tm) (F' : Nat → Prop), r = .returned (.tuple #[.int .i64 k, .nilIface]) ∧ L'[k]? = some t ∧ k ≤ L.length ∧ L'.length = max L.length (k + 1) ∧ (L' = L ∨ L' = L ++ [t]) ∧ StoB w' b L' F' ∧ Kept F w w' ∧ (∀ i, F' i → F i ∨ w.heap.size ≤ i) := by
  by_cases hin : t ∈ L
  · obtain ⟨k, hk, rfl⟩ := List.getElem_of_mem hin
    refine (put_old b L F _ vn vp w hS hh hmay k (List.getElem?_eq_getElem hk)).mono ?_
    rintro r w' ⟨rfl, hb⟩
    exact ⟨k, L, F, rfl, List.getElem?_eq_getElem hk, by omega, by omega, .inl rfl, hS.below hb, .of_below hb, fun i hi => .inl hi⟩
  · refine (put_new b L F t vn vp w hS hh hmay hin hlen).mono ?_
    rintro r w' ⟨rfl, F', h1, h2, h3⟩
    exact ⟨L.length, L ++ [t], F', rfl, by simp, Nat.le_refl _, by rw [List.length_append, List.length_singleton]; omega, .inr rfl, h1, h2, h3⟩
theorem Bk.putok {w0 w w' : World} {b gi : Nat} {L L' : List Tm} {F F' : Nat → Prop} {xs : List Int} {t : Tm} (h : Bk w0 w b gi L F xs) (ht : t.may L.length = true) (hL : L' = L ∨ L' = L ++ [t]) (h1 : StoB w' b L' F') (h2 : Kept F w w') (h3 : ∀ i, F' i → F i ∨ w.heap.size ≤ i) : Bk w0 w' b gi L' F' xs := by
  obtain ⟨cs, hc, hx⟩ := h.ids
  have hlt := t_lt hc
  refine ⟨h1, fun i hi => ?_, ?_, ⟨cs, (h2.block _ hlt h.gf).trans hc, hx⟩, h.gu, fun hf => ?_, h.bl.trans (h2.below h.bl.size h.up)⟩
  · rcases h3 i hi with e | e
    · exact h.up i e
    · have := h.bl.size; omega
  · rcases hL with rfl | rfl
    · exact h.good
    · exact h.good.snoc ht
  · rcases h3 gi hf with e | e
    · exact h.gf e
    · omega
theorem Told3.ok {L L' l : List Tm} {xs : List Int} {i : Nat} {t : Tm} (h : Told3 L l xs i) (hL : L' = L ∨ L' = L ++ [t]) : Told3 L' l xs i := by
  rcases hL with rfl | rfl
  · exact h
  · exact h.mono t
end Go.Proofs.YthnenpncajpibaaGreatDoor
