/- Contract of the store's Consts. -/
import Derived.Test.YthnenpncajpibaaGreatDoorTmConsts0
import Derived.Test.YthnenpncajpibaaGreatDoorLent
namespace Go.Proofs.YthnenpncajpibaaGreatDoor
open Go.RowKit Go.Maps
attribute [local go_sem ↓] Go.wp_at_zero Go.wp_at_succ
set_option maxRecDepth 100000 in
set_option maxHeartbeats 2000000 in
theorem sort_nil (w : World) : Calls Tryz.prog 29 #[.slice none 0 0] w fun e w' => e = .returned (.tuple #[]) ∧ Below w.heap.size w w' := by
  go_enter Tryz.func29, Tryz.ntmps29
  go_wp2
  refine wp_loop_rounds 1 ?_
  rw [rounds_succ]
  go_wp2
  refine wp_loop_rounds 1 ?_
  rw [rounds_succ]
  go_wp2
  go_end0
  go_wp2
  refine bodyPost_ret (results_none rfl _ _ _) rfl ?_
  go_wp2
  (first | go_end0 | go_ret)
  exact ⟨rfl, Below.refl _ _⟩
theorem filter_next {L : List Tm} {ts : List Int} {j : Nat} {z : Int} (h : ts[j]? = some z) : (ts.take (j + 1)).filterMap (Tm.constAt L) = (ts.take j).filterMap (Tm.constAt L) ++ (Tm.constAt L z).toList := by
  obtain ⟨hj, rfl⟩ := List.getElem?_eq_some_iff.1 h
  rw [List.take_succ_eq_append_getElem hj, List.filterMap_append]
  cases e : Tm.constAt L ts[j] with
  | none => simp [e]
  | some a => simp [e]
theorem filter_len (L : List Tm) (ts : List Int) (j : Nat) : ((ts.take j).filterMap (Tm.constAt L)).length ≤ j := Nat.le_trans (List.length_filterMap_le _ _) (by rw [List.length_take]; omega)
set_option maxRecDepth 100000 in
set_option maxHeartbeats 4000000 in
theorem consts_yes (b : Nat) (L : List Tm) (F : Nat → Prop) (id : Nat) (w : World) (hS : StoB w b L F) (hG : Tm.Good L) (hid : id < L.length) :
    Calls Tryz.prog 10 #[.pointer (some ⟨b, 0, none⟩), .int .i64 id] w fun r w' => ∃ v cs ts, r = .returned (.tuple #[v, .nilIface]) ∧ OwnI w' w.heap.size v cs ∧ Withi L id ts ∧ CsOf L ts cs ∧ cs.length ≤ L.length ∧ Below w.heap.size w w' := by
  have hbig := hS.big
  obtain ⟨ao, cap, hc⟩ := hS.cell
  have hl := lacks_no b ao L.length cap id w hc (by simp [Tm.has]; omega)
  have HL : Hid _ := And.intro hl (within_any b L F id w hS hG hid)
  have HS : Hid _ := And.intro hS hG
  obtain ⟨i0, hi0, hz0, hz1, hz2⟩ := info_parts Tryz.infoI3
  clear hl hS hG hc
  go_enter Tryz.func10, Tryz.ntmps10
  go_wp2_with fail
  refine Calls.mono HL.out.1 ?_
  rintro r w1 ⟨rfl, hw⟩
  obtain rfl := hw.symm
  go_wp2_with fail
  refine Calls.mono HL.out.2 ?_
  rintro r w1 ⟨v, ts, rfl, hO, hWi, hb1⟩
  have htl : ts.length ≤ L.length := nodup_le _ _ (hWi.rise.imp fun h => by omega) hWi.range
  obtain ⟨g, capt, rfl, hgB, htc⟩ := World.ownsRow.form hO (List.length_pos_of_mem hWi.head)
  obtain ⟨n, hn⟩ : ∃ n, n = ts.length := ⟨_, rfl⟩
  rw [← hn] at htl ⊢
  have HQ : Hid _ := And.intro hO (And.intro hWi (And.intro hb1 hn))
  clear hO hWi hb1 hn HL
  go_wp2_with fail
  go_loopg [7, 21] n (fun q cv jv wr => ∃ (j : Nat), q = n - j ∧ j ≤ n ∧ jv = .int .i64 j ∧ OwnI wr w1.heap.size cv ((ts.take j).filterMap (Tm.constAt L)) ∧ Below w1.heap.size w1 wr)
  case atStart => exact ⟨0, rfl, Nat.zero_le _, rfl, World.ownsRow_nil _ _ _ _, Below.refl _ _⟩
  case round =>
    obtain ⟨j, rfl, hj, rfl, hC, hbj⟩ := hrel
    by_cases hlt : j < n
    · obtain ⟨z, hz⟩ : ∃ z, ts[j]? = some z := ⟨ts[j]'(by have := HQ.out.2.2.2; omega), List.getElem?_eq_getElem _⟩
      have hzr := HQ.out.2.1.range z (List.mem_of_getElem? hz)
      obtain ⟨m, rfl⟩ : ∃ m : Nat, z = m := ⟨z.toNat, by omega⟩
      obtain ⟨t, ht⟩ : ∃ t, L[m]? = some t := ⟨L[m]'(by omega), List.getElem?_eq_getElem _⟩
      have hbw : Below w.heap.size w wr := HQ.out.2.2.1.trans (hbj.mono HQ.out.2.2.1.size)
      obtain ⟨gt, ct, vn, vp, hA, _, _, _⟩ := (HS.out.1.below hbw).at ht
      obtain ⟨an, cn, rfl, _⟩ := _root_.id hA.n
      obtain ⟨ap, cp, rfl, _⟩ := _root_.id hA.p
      obtain ⟨c0, x0, x1, x2, x3, x4, x5, _, _⟩ := hA
      have li := cell_up (OwnI.cell HQ.out.1 hz) hbj
      have q0 : (0 : Int) ≤ (j : Int) := by omega
      have q1 : (j : Int) < (n : Int) := by omega
      have q2 : (0 : Int) ≤ (m : Int) := by omega
      have q3 : (m : Int) < (L.length : Int) := by omega
      have hnx := filter_next (L := L) hz
      have hfl := filter_len L ts j
      rw [constAt_of ht] at hnx
      by_cases k7 : t.kind = 7
      · have e7 : (t.kind == 7) = true := by rw [k7]; rfl
        rw [if_pos k7] at hnx
        obtain ⟨al, cl, rfl⟩ := row_shape hC
        obtain ⟨n0, hn0⟩ : ∃ n0, n0 = ((ts.take j).filterMap (Tm.constAt L)).length := ⟨_, rfl⟩
        have hO' : wr.ownsRow w1.heap.size 3 1 (.slice al n0 cl) n0 (iC ((ts.take j).filterMap (Tm.constAt L))) := by rw [hn0]; exact hC
        rw [← hn0] at hfl ⊢
        have hml : n0 + 1 ≤ maxLen := by unfold maxLen; omega
        have hby : (n0 + 1) * 8 ≤ 140737488355328 := by omega
        have HO : Hid _ := And.intro hO' (And.intro hbj (And.intro hnx hn0))
        have hle : w1.heap.size ≤ ((wr.alloc (.cells #[.int .i64 t.kind, .int .i64 t.label, .int .i64 t.a, .int .i64 t.b, .slice an t.names.length cn, .slice ap t.pairs.length cp] 35)).alloc (.cells #[.int .i64 t.a] 3)).heap.size := by have := hbj.size; simp; omega
        clear hC hO' hnx hn0 hz ht k7 hbw
        go_wp2_with (at_builtin; refine wpList_append_own_at _ rfl _ _ 29 rfl w1.heap.size 3 i0 (.int .i64 0) 1 8 Tryz.underlying29 hi0 hz0 hz1 hz2 rfl (by decide) (.slice al n0 cl) n0 (iC ((ts.take j).filterMap (Tm.constAt L))) rfl ((HO.out.1.alloc _).alloc _) ⟨wr.heap.size + 1, 0, none⟩ 1 1 [.int .i64 t.a] rfl rfl (World.news_of_block (cs := #[.int .i64 t.a]) (t := 3) (fr := (0, 0)) (two_alloc wr _ _)) (one_one _) hml hby hle ?_; intro v2 w2 hown2 hgrow2 hnil2 hat2; have H2 : Hid _ := And.intro hown2 hgrow2; clear hown2 hgrow2 hnil2 hat2)
        go_roundg (n - (j + 1))
        case measure => omega
        case rel => exact ⟨j + 1, rfl, by omega, by go_num, by unfold OwnI; rw [HO.out.2.2.1]; simp only [Option.toList_some]; rw [iC_snoc, List.length_append, List.length_singleton, ← HO.out.2.2.2]; exact H2.out.1, ((HO.out.2.1.alloc HO.out.2.1.size _).alloc (by have := HO.out.2.1.size; simp; omega) _).grown H2.out.2 hle (fun k hk => (HO.out.1.lt k hk).1)⟩
      · have e7 : (t.kind == 7) = false := by rw [beq_eq_false_iff_ne]; exact k7
        rw [if_neg k7] at hnx
        have hnx' : (ts.take (j + 1)).filterMap (Tm.constAt L) = (ts.take j).filterMap (Tm.constAt L) := by simpa using hnx
        have HJ : Hid _ := And.intro hC (And.intro hbj hnx')
        clear hC hbj hnx hnx' hz ht k7 hbw
        go_wp2_with fail
        go_roundg (n - (j + 1))
        case measure => omega
        case rel => exact ⟨j + 1, rfl, by omega, by go_num, by rw [HJ.out.2.2]; exact trow_at HJ.out.1 (fun k hk => (MapKept.heap_alloc wr _).2 k (HJ.out.1.lt k hk).2), HJ.out.2.1.alloc HJ.out.2.1.size _⟩
    · obtain rfl : j = n := by omega
      have q1 : ¬ (j : Int) < (j : Int) := by omega
      have hall : ts.take j = ts := List.take_of_length_le (by have := HQ.out.2.2.2; omega)
      rw [hall] at hC
      have hfl := List.length_filterMap_le (Tm.constAt L) ts
      have hjl := HQ.out.2.2.2
      have hb9 : Below w.heap.size w wr := HQ.out.2.2.1.trans (hbj.mono HQ.out.2.2.1.size)
      have nd : ∀ t (i j : Nat), L[i]? = some t → L[j]? = some t → i = j := fun t i j h1 h2 => HS.out.1.nodup h1 h2
      rcases _root_.id hC.2 with ⟨rfl, h0⟩ | ⟨g9, cap9, cur, rfl, _⟩
      · have he : ts.filterMap (Tm.constAt L) = [] := List.eq_nil_of_length_eq_zero h0
        have hcs : CsOf L ts [] := csOf_sorted HS.out.2 nd HQ.out.2.1 (by rw [he]) List.Pairwise.nil
        have HJ : Hid _ := And.intro hcs (And.intro hb9 HQ.out.2.1)
        clear hC hbj hall hfl hjl hb9 nd h0 he hcs
        go_wp2_with fail
        refine (sort_nil wr).mono ?_
        rintro r w2 ⟨rfl, hb2⟩
        have H2 : Hid _ := hb2
        clear hb2
        go_wp2_with fail
        go_ret2
        exact ⟨_, [], ts, rfl, World.ownsRow_nil _ _ _ _, HJ.out.2.2, HJ.out.1, Nat.zero_le _, HJ.out.2.1.trans (H2.out.mono HJ.out.2.1.size)⟩
      · have hso := sortI_any wr w1.heap.size g9 cap9 (ts.filterMap (Tm.constAt L)) hC (by omega)
        have hcs := csOf_sorted HS.out.2 nd HQ.out.2.1 (sort_perm (ts.filterMap (Tm.constAt L))) (sort_rise _)
        have hgl := hC.lt g9 rfl
        have HJ : Hid _ := And.intro hcs (And.intro hb9 (And.intro HQ.out.2.1 (And.intro hso (And.intro hgl (And.intro hfl hjl)))))
        clear hC hbj hall hfl hjl hb9 nd hcs hso hgl
        go_wp2_with fail
        refine Calls.mono HJ.out.2.2.2.1 ?_
        rintro r w2 ⟨rfl, hO2, hg2⟩
        have H2 : Hid _ := And.intro hO2 hg2
        clear hO2 hg2
        go_wp2_with fail
        go_ret2
        have hz9 := HQ.out.2.2.1.size
        refine ⟨_, (ts.filterMap (Tm.constAt L)).mergeSort fun x y => decide (x ≤ y), ts, rfl, row_base H2.out.1 hz9, HJ.out.2.2.1, HJ.out.1, ?_, HJ.out.2.1.grown H2.out.2 HJ.out.2.1.size (fun k hk => ?_)⟩
        · rw [List.length_mergeSort]
          have h1 := HJ.out.2.2.2.2.2.1
          have h2 := HJ.out.2.2.2.2.2.2
          omega
        · have h1 := HJ.out.2.2.2.2.1.1
          have h2 := Option.some.inj hk
          omega
end Go.Proofs.YthnenpncajpibaaGreatDoor
