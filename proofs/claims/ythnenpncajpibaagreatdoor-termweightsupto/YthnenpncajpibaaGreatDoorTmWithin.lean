/- Contract of the store's within. -/
import Derived.Test.YthnenpncajpibaaGreatDoorTmWalk1
import Derived.Test.YthnenpncajpibaaGreatDoorShelf
import Derived.Sort.OwnSortedInts
namespace Go.Proofs.YthnenpncajpibaaGreatDoor
open Go.RowKit Go.Maps
attribute [local go_sem ↓] Go.wp_at_zero Go.wp_at_succ
/-- slices.Sort of a list of the call's own. -/
theorem sortI_any (w : World) (B g cap : Nat) (zs : List Int) (h : OwnI w B (.slice (some ⟨g, 0, none⟩) zs.length cap) zs) (hn : zs.length ≤ 1000000) :
    Calls Tryz.prog 29 #[.slice (some ⟨g, 0, none⟩) zs.length cap] w fun e w' => e = .returned (.tuple #[]) ∧ OwnI w' B (.slice (some ⟨g, 0, none⟩) zs.length cap) (zs.mergeSort fun x y => decide (x ≤ y)) ∧ w.grownBy w' (some g) := by
  rcases h.2 with ⟨e, _⟩ | ⟨g', cap', cur, e, hg, hb, hc, hm, hs, ht⟩
  · cases e
  injection e with e1 e2 e3
  have e4 := Option.some.inj e1
  injection e4 with e5
  subst e5; subst e3
  rw [Nat.mul_one] at ht
  refine (Tryz.slices_Sort_int g 0 cap zs w (holds_of_blockI hb ht) (t_lt hb) (by omega)).mono ?_
  rintro r w' ⟨rfl, n, os, rfl⟩
  have hl : (zs.mergeSort fun x y => decide (x ≤ y)).length = zs.length := List.length_mergeSort _
  refine ⟨rfl, ?_, grownBy_sortedI _⟩
  have := ownsRow_sortedI (n := n) (os := os) hl hg hb hc hm hs
  unfold OwnI
  rw [hl]
  exact this
theorem sort_perm (zs : List Int) : (zs.mergeSort fun x y => decide (x ≤ y)).Perm zs := List.mergeSort_perm _ _
theorem sort_rise (zs : List Int) : (zs.mergeSort fun x y => decide (x ≤ y)).Pairwise (· ≤ ·) := by
  have h := List.pairwise_mergeSort (le := fun x y : Int => decide (x ≤ y)) (fun a b c h1 h2 => by simp at *; omega) (fun a b => by simp; omega) zs
  exact h.imp fun h => by simpa using h
theorem parts_len (t : Tm) : t.parts.length ≤ 2 := by
  unfold Tm.parts
  split
  · simp
  · split <;> simp
theorem WMem.drop {w wr : World} {v : Value} {zs : List Int} {bm : Nat} {D : DataW Unit} {vp : Value} {ps : List Int} (h : WMem w wr v zs bm D vp ps) : WMem w wr v zs bm D (.slice none 0 0) [] :=
  ⟨h.bl, h.row, h.map, h.up, h.set, World.ownsRow_nil _ _ _ _, fun g _ => by simp [Value.ownBlock]⟩
set_option maxRecDepth 100000 in
set_option maxHeartbeats 1600000 in
theorem within_any (b : Nat) (L : List Tm) (F : Nat → Prop) (id : Nat) (w : World) (hS : StoB w b L F) (hG : Tm.Good L) (hid : id < L.length) :
    Calls Tryz.prog 27 #[.pointer (some ⟨b, 0, none⟩), .int .i64 id] w fun r w' => ∃ v ts, r = .returned v ∧ OwnI w' w.heap.size v ts ∧ Withi L id ts ∧ Below w.heap.size w w' := by
  have hbig := hS.big
  obtain ⟨i0, hi0, hz0, hz1, hz2⟩ := info_parts Tryz.infoI3
  have hmade := World.ownsMap_made (H := Unit) (w.alloc (.cells #[.int .i64 id] 3)) Tryz.prog 3 unitElem
  have hsz : (w.alloc (.cells #[.int .i64 id] 3)).heap.size = w.heap.size + 1 := by simp
  rw [hsz] at hmade
  obtain ⟨W1, hrun, ho, hg⟩ := hmade.update Tryz.lawI Tryz.underlying118 (by unfold maxLen; omega) (keyOf_int_mk (a := (id : Int)) Tryz.underlying3 (WalkArith.wf_i64 (by omega))) unitElem_mk
  have hM : WMem w W1 (.slice (some ⟨w.heap.size, 0, none⟩) 1 1) [(id : Int)] (w.heap.size + 1) ((DataW.map []).put (.int .i64 id) (.agg [])) (.slice none 0 0) [] := by
    have b0 : Below w.heap.size w ((w.alloc (.cells #[.int .i64 id] 3)).alloc (.map #[] 0)) := (by repeat (first | exact Below.refl _ _ | assumption | refine Below.drew ?_ | refine Below.setCell ?_ (by simp) _ | refine Below.alloc ?_ (by simp) _))
    have hl : ((w.alloc (.cells #[.int .i64 id] 3)).alloc (.map #[] 0)).heap[w.heap.size]? = some (.cells #[.int .i64 id] 3 (0, 0)) := by
      rw [Below.heap_alloc _ _ _ (by simp)]; exact (MapKept.heap_alloc w _).1
    refine ⟨b0.grown hg (by simp; omega) (fun k hk => by have := Option.some.inj hk; omega), own_built (zs := [(id : Int)]) ((hg.block _ (by simp; omega) (by simp)).trans hl) rfl (Nat.le_refl _) (by simp), ho, by omega, ?_, World.ownsRow_nil _ _ _ _, fun g _ => by simp [Value.ownBlock]⟩
    exact SetOf.nil.more hmade.isMap (id : Int)
  have hmm := @run_makeMap Tryz.prog
  have HM : Hid _ := hM
  have HS : Hid _ := And.intro hS hG
  clear hM ho hg hmade hS hG
  go_enter Tryz.func27, Tryz.ntmps27
  go_wp2_with fail
  clear hrun hmm hsz
  go_loopg [5, 7] L.length (fun g v iv wr => ∃ (i : Nat) (zs : List Int) (D : DataW Unit), g = L.length - i ∧ i ≤ zs.length ∧ iv = .int .i64 i ∧ Walk L id i zs ∧ WMem w wr v zs (w.heap.size + 1) D (.slice none 0 0) [])
  case atStart => exact ⟨0, [(id : Int)], _, rfl, by simp, rfl, Walk.start (by omega) (by omega), HM.out⟩
  case round =>
    clear HM
    obtain ⟨i, zs, D, rfl, hi, rfl, hW, hM⟩ := hrel
    have hzl := hW.len
    obtain ⟨g, cap, rfl, hgB, hzc⟩ := hM.row.form (fun e => by have := hW.head; rw [e] at this; simp at this)
    by_cases hlt : i < zs.length
    · obtain ⟨z, hz⟩ : ∃ z, zs[i]? = some z := ⟨zs[i], List.getElem?_eq_getElem hlt⟩
      have hzr := hW.range z (List.mem_of_getElem? hz)
      obtain ⟨m, rfl⟩ : ∃ m : Nat, z = m := ⟨z.toNat, by omega⟩
      obtain ⟨t, ht⟩ : ∃ t, L[m]? = some t := ⟨L[m]'(by omega), List.getElem?_eq_getElem _⟩
      obtain ⟨gt, ct, vn, vp, hA, _, _, _⟩ := (HS.out.1.below hM.bl).at ht
      obtain ⟨an, cn, rfl, _⟩ := _root_.id hA.n
      obtain ⟨ap, cp, rfl, _⟩ := _root_.id hA.p
      obtain ⟨c0, x0, x1, x2, x3, x4, x5, _, _⟩ := hA
      have li := hM.row.cell hz
      have q0 : (0 : Int) ≤ (i : Int) := by omega
      have q1 : (i : Int) < (zs.length : Int) := by omega
      have q2 : (0 : Int) ≤ (m : Int) := by omega
      have q3 : (m : Int) < (L.length : Int) := by omega
      have HP : Hid (∀ W, Calls Tryz.prog 28 #[.agg #[.int .i64 t.kind, .int .i64 t.label, .int .i64 t.a, .int .i64 t.b, .slice an t.names.length cn, .slice ap t.pairs.length cp]] W fun r w' => ∃ v, r = .returned v ∧ OwnI w' W.heap.size v t.parts ∧ Below W.heap.size W w') := fun W => parts_any t _ _ W
      have HI : Hid _ := And.intro hW (And.intro hM (And.intro hz ht))
      clear hW hM hz ht
      go_wp2_with fail
      go_region_law
        ((first
          | (go_simp; go_at_call 28; refine (HP.out _).mono ?_; rintro r1 w1 ⟨vq, rfl, hq, hb1'⟩; obtain ⟨aoq, capq, rfl⟩ := row_shape hq; have hM1 := HI.out.2.1.parts (below_of_drew3 hb1') hq; have H1 : Hid _ := hM1; clear hM1 hq hb1' c0 x0 x1 x2 x3 x4 x5 li HP)))
      all_goals
        (try go_simp)
        go_wp2_with fail
        obtain ⟨n, hn⟩ : ∃ n, n = t.parts.length := ⟨_, rfl⟩
        have HN : Hid (n = t.parts.length ∧ n ≤ 2) := ⟨hn, by rw [hn]; exact parts_len t⟩
        rw [← hn]
        clear hn
        go_loopg [5, 36] n (fun g v kv wr => ∃ (k : Nat) (ys : List Int) (E : DataW Unit), g = n - k ∧ k ≤ n ∧ kv = .int .i64 k ∧ Walk L id i ys ∧ ys[i]? = some (m : Int) ∧ (∀ (q : Nat) (p : Int), q < k → t.parts[q]? = some p → p ∈ ys) ∧ WMem w wr v ys (w.heap.size + 1) E (.slice aoq n capq) t.parts)
        case atStart => exact ⟨0, zs, D, rfl, Nat.zero_le _, rfl, HI.out.1, HI.out.2.2.1, fun q p h => by omega, by rw [HN.out.1]; exact H1.out⟩
        case round =>
          obtain ⟨k, ys, E, rfl, hk, rfl, hW, hyi, hdone, hM⟩ := hrel
          have hyl := hW.len
          have hn2 := HN.out.2
          have hil := (List.getElem?_eq_some_iff.1 hyi).1
          obtain ⟨g', cap', rfl, hgB', hyc⟩ := hM.row.form (fun e => by have := hW.head; rw [e] at this; simp at this)
          by_cases hlt : k < n
          · obtain ⟨p, hp⟩ : ∃ p, t.parts[k]? = some p := ⟨t.parts[k]'(by have := HN.out.1; omega), List.getElem?_eq_getElem _⟩
            have hpm := List.mem_of_getElem? hp
            have hpr := good_parts HS.out.2 HI.out.2.2.2 p hpm
            have hpa : p ∈ partsAt L (m : Int) := by rw [partsAt_of HI.out.2.2.2]; exact hpm
            obtain ⟨gq, capq', hqe, _, _⟩ := hM.par.form (fun e => by rw [e] at hpm; simp at hpm)
            injection hqe with e1 e2 e3
            subst e1
            have lq := hM.par.cell hp
            have q4 : (0 : Int) ≤ (k : Int) := by omega
            have q5 : (k : Int) < (n : Int) := by omega
            have pw : (Lit.int .i64 p).wf = true := WalkArith.wf_i64 (by omega)
            obtain ⟨uv, ups, hlook, huv⟩ := hM.map.look_ok Tryz.lawI Tryz.underlying118 (Tryz.zeroU wr) unitElem_mk (keyOf_int_mk (a := p) Tryz.underlying3 pw)
            obtain ⟨rfl, _⟩ := unitElem_inv huv
            rw [hM.set p] at hlook
            clear e2 e3 huv hpm
            have hna : Below wr.heap.size wr (wr.alloc (.cells #[] 117)) := (Below.refl _ _).alloc (Nat.le_refl _) _
            by_cases hin : p ∈ ys
            · rw [decide_eq_true hin] at hlook
              have HJ : Hid _ := And.intro hW (And.intro hyi (And.intro hdone (And.intro (hM.below hna) (And.intro hp hin))))
              clear hW hyi hdone hM hp hin hpa hna
              go_wp2_with fail
              go_roundg (n - (k + 1))
              case measure => omega
              case rel => exact ⟨k + 1, ys, E, rfl, by omega, by go_num, HJ.out.1, HJ.out.2.1, fun q r hq hr => by
                rcases Nat.lt_or_ge q k with h | h
                · exact HJ.out.2.2.1 q r h hr
                · obtain rfl : q = k := by omega
                  rw [HJ.out.2.2.2.2.1] at hr
                  cases hr
                  exact HJ.out.2.2.2.2.2, HJ.out.2.2.2.1⟩
            · rw [decide_eq_false hin] at hlook
              have hM0 := hM.below hna
              obtain ⟨w2, hrun, ho2, hg2⟩ := hM0.map.update Tryz.lawI Tryz.underlying118 (by unfold maxLen; omega) (keyOf_int_mk (a := p) Tryz.underlying3 pw) unitElem_mk
              have hK := hM0.mark ho2 hg2
              have hml : ys.length + 1 ≤ maxLen := by unfold maxLen; omega
              have hby : (ys.length + 1) * 8 ≤ 140737488355328 := by omega
              have hbs : w.heap.size ≤ (w2.alloc (.cells #[.int .i64 p] 3)).heap.size := by have := hK.bl.size; simp; omega
              have HJ : Hid _ := And.intro hW (And.intro hyi (And.intro hdone (And.intro hK (And.intro hp (And.intro hin (And.intro hpa hpr))))))
              clear hW hyi hdone hM hp hin hpa hna hM0 ho2 hg2 hK
              go_wp2_with (at_builtin; refine wpList_append_own_at _ rfl _ _ 29 rfl w.heap.size 3 i0 (.int .i64 0) 1 8 Tryz.underlying29 hi0 hz0 hz1 hz2 rfl (by decide) _ ys.length (iC ys) rfl (HJ.out.2.2.2.1.row.alloc _) ⟨w2.heap.size, 0, none⟩ 1 1 [.int .i64 p] rfl rfl (cell_one_new _ _ _) (int_one1 p) hml hby hbs ?_; intro v' w3 hown' hgrow hnil hat; obtain ⟨ao9, cap9, rfl⟩ := row_shape hown'; have H2 : Hid _ := (HJ.out.2.2.2.1.alloc (.cells #[.int .i64 p] 3)).put hown' hgrow hat; clear hown' hgrow hat hnil)
              go_roundg (n - (k + 1))
              case measure => omega
              case rel => exact ⟨k + 1, ys ++ [p], _, rfl, by omega, by go_num, HJ.out.1.more HJ.out.2.2.2.2.2.1 (List.mem_of_getElem? HJ.out.2.1) HJ.out.2.2.2.2.2.2.1 HJ.out.2.2.2.2.2.2.2.1 (by have := HJ.out.2.2.2.2.2.2.2.2; omega) (by omega), by rw [List.getElem?_append_left hil]; exact HJ.out.2.1, fun q r hq hr => by
                rcases Nat.lt_or_ge q k with h | h
                · exact List.mem_append_left _ (HJ.out.2.2.1 q r h hr)
                · obtain rfl : q = k := by omega
                  rw [HJ.out.2.2.2.2.1] at hr
                  cases hr
                  simp, H2.out⟩
          · obtain rfl : k = n := by omega
            have q5 : ¬ (k : Int) < (k : Int) := by omega
            have HJ : Hid _ := And.intro (hW.next hyi (fun p hp => by
              rw [partsAt_of HI.out.2.2.2] at hp
              obtain ⟨q, hq, rfl⟩ := List.getElem_of_mem hp
              exact hdone q _ (by have := HN.out.1; omega) (List.getElem?_eq_getElem hq))) hM.drop
            clear hW hyi hdone hM
            go_wp2_with fail
            go_roundg (L.length - (i + 1))
            case measure => omega
            case rel => exact ⟨i + 1, ys, E, rfl, by omega, by go_num, HJ.out.1, HJ.out.2⟩
    · obtain rfl : i = zs.length := by omega
      have q1 : ¬ (zs.length : Int) < (zs.length : Int) := by omega
      have HI : Hid _ := And.intro hW hM
      clear hW hM
      go_wp2_with fail
      refine (sortI_any wr w.heap.size g cap zs HI.out.2.row (by omega)).mono ?_
      rintro r1 w1 ⟨rfl, hO, hG1⟩
      have HO : Hid _ := And.intro hO hG1
      clear hO hG1
      go_wp2_with fail
      go_ret
      exact ⟨_, _, rfl, HO.out.1, HI.out.1.fin (sort_perm zs) (sort_rise zs), HI.out.2.bl.grown HO.out.2 HI.out.2.bl.size (fun k hk => by have := Option.some.inj hk; omega)⟩
end Go.Proofs.YthnenpncajpibaaGreatDoor
