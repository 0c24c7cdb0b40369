/- Texts of this claim, joined: RtConsts, RtWeight. -/
import Derived.Test.YthnenpncajpibaaGreatDoorPart13
import Derived.Test.YthnenpncajpibaaGreatDoorPart9
/- Contract of the document's Consts. -/
namespace Go.Proofs.YthnenpncajpibaaGreatDoor
open Go.RowKit Go.Maps
attribute [local go_sem ↓] Go.wp_at_zero Go.wp_at_succ
theorem Rb.other {ty : TypeId} {w wr : World} {gi : Nat} {bs : List Bool} (h : Rb ty w wr gi bs) (b o : Nat) (v : Value) (hb : w.heap.size ≤ b) (hne : gi ≠ b) : Rb ty w (wr.setCell ⟨b, o, none⟩ v) gi bs := by
  obtain ⟨cs, hc, hx⟩ := h.ids
  exact ⟨h.bl.setCell hb _, ⟨cs, (set_other _ _ _ _ _ hne).trans hc, hx⟩, h.gu⟩
/-- Which constants were met among the first i terms. -/
structure Hs (L : List Tm) (ts : List Int) (hs : List Bool) (i : Nat) : Prop where
  len : hs.length = 200
  iff : ∀ a : Nat, hs[a]? = some true ↔ ∃ m : Nat, m < i ∧ (m : Int) ∈ ts ∧ Tm.constAt L (m : Int) = some (a : Int)
theorem Hs.start (L : List Tm) (ts : List Int) : Hs L ts (List.replicate 200 false) 0 := by
  refine ⟨List.length_replicate, fun a => ⟨fun h => ?_, fun ⟨m, h, _⟩ => by omega⟩⟩
  rw [List.getElem?_replicate] at h
  split at h <;> simp at h
theorem Hs.skip {L : List Tm} {ts : List Int} {hs : List Bool} {i : Nat} (h : Hs L ts hs i) (hn : ¬ ((i : Int) ∈ ts ∧ ∃ a : Nat, Tm.constAt L (i : Int) = some (a : Int))) : Hs L ts hs (i + 1) :=
  ⟨h.len, fun a => (h.iff a).trans ⟨fun ⟨m, h1, h2⟩ => ⟨m, by omega, h2⟩, fun ⟨m, h1, h2, h3⟩ => by
    by_cases e : m = i
    · subst e; exact absurd ⟨h2, a, h3⟩ hn
    · exact ⟨m, by omega, h2, h3⟩⟩⟩
theorem Hs.mark {L : List Tm} {ts : List Int} {hs : List Bool} {i k : Nat} (h : Hs L ts hs i) (hi : (i : Int) ∈ ts) (hk : Tm.constAt L (i : Int) = some (k : Int)) (hlt : k < 200) : Hs L ts (hs.set k true) (i + 1) := by
  refine ⟨by rw [List.length_set]; exact h.len, fun a => ?_⟩
  rw [set_true (by rw [h.len]; exact hlt), h.iff a]
  constructor
  · rintro (⟨m, h1, h2⟩ | rfl)
    · exact ⟨m, by omega, h2⟩
    · exact ⟨i, by omega, hi, hk⟩
  · rintro ⟨m, h1, h2, h3⟩
    by_cases e : m = i
    · subst e
      rw [hk] at h3
      have := Option.some.inj h3
      exact .inr (by omega)
    · exact .inl ⟨m, by omega, h2, h3⟩
/-- The constants below n, rising. -/
def csL (hs : List Bool) (n : Nat) : List Int := ((List.range n).filter fun k => hs[k]? == some true).map fun k => ((k : Nat) : Int)
theorem csL_succ (hs : List Bool) (n : Nat) : csL hs (n + 1) = if hs[n]? = some true then csL hs n ++ [(n : Int)] else csL hs n := by
  unfold csL
  rw [List.range_succ, List.filter_append]
  by_cases h : hs[n]? = some true
  · rw [if_pos h]; simp [h]
  · rw [if_neg h]; simp [h]
theorem csL_len (hs : List Bool) (n : Nat) : (csL hs n).length ≤ n := by
  unfold csL
  rw [List.length_map]
  exact Nat.le_trans (List.length_filter_le _ _) (by simp)
theorem csL_mem {hs : List Bool} {n : Nat} {z : Int} : z ∈ csL hs n ↔ ∃ k : Nat, k < n ∧ hs[k]? = some true ∧ z = (k : Int) := by
  unfold csL
  simp only [List.mem_map, List.mem_filter, List.mem_range, beq_iff_eq]
  constructor
  · rintro ⟨k, ⟨h1, h2⟩, rfl⟩; exact ⟨k, h1, h2, rfl⟩
  · rintro ⟨k, h1, h2, rfl⟩; exact ⟨k, ⟨h1, h2⟩, rfl⟩
theorem csL_rise (hs : List Bool) (n : Nat) : (csL hs n).Pairwise (· < ·) := by
  unfold csL
  rw [List.pairwise_map]
  exact (List.pairwise_lt_range.filter _).imp fun h => by omega
theorem Hs.fin {L : List Tm} {ts : List Int} {hs : List Bool} {id : Nat} (h : Hs L ts hs (id + 1)) (hG : Tm.Good L) (hw : Withi L id ts) : CsOf L ts (csL hs 200) := by
  refine ⟨csL_rise _ _, fun z => ?_⟩
  rw [csL_mem]
  constructor
  · rintro ⟨k, _, h2, rfl⟩
    obtain ⟨m, _, h4, h5⟩ := (h.iff k).1 h2
    exact ⟨m, h4, h5⟩
  · rintro ⟨m, hm, hc⟩
    have hr := hw.range m hm
    have hle := withi_le hG hw m hm
    obtain ⟨n, rfl⟩ : ∃ n : Nat, m = n := ⟨m.toNat, by omega⟩
    obtain ⟨t, ht⟩ : ∃ t, L[n]? = some t := ⟨L[n]'(by omega), List.getElem?_eq_getElem _⟩
    have hc' := hc
    rw [constAt_of ht] at hc'
    split at hc'
    · rename_i k7
      have hf := const_form (hG n t ht) k7
      have hz := Option.some.inj hc'
      obtain ⟨a, rfl⟩ : ∃ a : Nat, z = (a : Int) := ⟨z.toNat, by omega⟩
      exact ⟨a, by omega, (h.iff a).2 ⟨n, by omega, hm, hc⟩, rfl⟩
    · cases hc'
set_option maxRecDepth 100000 in
theorem Tryz.zeroH : Tryz.zeroCells86 = Array.replicate 200 (.bool false) := by kernel_rfl
set_option maxRecDepth 100000 in
set_option maxHeartbeats 8000000 in
theorem rconsts_any (b : Nat) (L : List Tm) (F : Nat → Prop) (id : Nat) (ts : List Int) (w : World) (hS : RStoB w b L F) (hG : Tm.Good L) (hid : id < L.length) (hw : Withi L id ts) :
    Calls Tryz.prog 15 #[.pointer (some ⟨b, 0, none⟩), .int .i64 id] w fun r w' => ∃ v cs, r = .returned v ∧ OwnI w' w.heap.size v cs ∧ CsOf L ts cs ∧ cs.length ≤ 200 ∧ Below w.heap.size w w' := by
  have hbig := hS.big
  have HN : Hid _ := rneeds_any b L F id ts w hS hG hid hw
  have HS : Hid _ := And.intro hS (And.intro hG hw)
  clear hS hG hw
  go_enter Tryz.func15, Tryz.ntmps15
  go_wp2_with fail
  refine Calls.mono HN.out ?_
  rintro r w1 ⟨bs, rfl, hR1, hb1, hiff⟩
  have H1 : Hid _ := And.intro hR1 (And.intro hb1 hiff)
  clear hR1 hb1 hiff HN
  go_wp2_with fail
  have h2 : Below w1.heap.size w1 (w1.alloc (.cells Tryz.zeroCells86 86)) := (Below.refl _ _).alloc (Nat.le_refl _) _
  have hz1 := H1.out.1.bl.size
  have hR2 : Rb 86 w (w1.alloc (.cells Tryz.zeroCells86 86)) w1.heap.size (List.replicate 200 false) := by
    refine ⟨H1.out.1.bl.trans (h2.mono hz1), ⟨_, (MapKept.heap_alloc w1 _).1, ?_⟩, hz1⟩
    rw [Tryz.zeroH, Array.toList_replicate]
    unfold bolC
    rw [List.map_replicate]
  have H2 : Hid _ := And.intro (H1.out.1.below h2) hR2
  have hlt1 := H1.out.1.lt
  clear h2 hR2
  obtain ⟨B2, hB2⟩ : ∃ B2, B2 = w1.heap.size := ⟨_, rfl⟩
  rw [← hB2] at H2 hlt1 hz1 ⊢
  clear hB2
  go_loopg [7] (id + 1) (fun q iv wr => ∃ (i : Nat) (hs : List Bool), q = id + 1 - i ∧ i ≤ id + 1 ∧ iv = .int .i64 i ∧ Hs L ts hs i ∧ Rb 4 w wr w.heap.size bs ∧ Rb 86 w wr B2 hs)
  case atStart => exact ⟨0, _, rfl, Nat.zero_le _, rfl, Hs.start L ts, H2.out.1, H2.out.2⟩
  case round =>
    obtain ⟨i, hs, rfl, hi, rfl, hHs, hRn, hRh⟩ := hrel
    clear H2
    by_cases hlt : i ≤ id
    · obtain ⟨t, ht⟩ : ∃ t, L[i]? = some t := ⟨L[i]'(by omega), List.getElem?_eq_getElem _⟩
      obtain ⟨g, cap, vn, vp, hA⟩ := (HS.out.1.below hRn.bl).at ht
      obtain ⟨c0, x0, x1, x2, x3, x4, x5, hn0, hp0⟩ := hA
      have q0 : (0 : Int) ≤ (i : Int) := by omega
      have q1 : (i : Int) < (L.length : Int) := by omega
      have q2 : (i : Int) ≤ (id : Int) := by omega
      have q3 : (i : Int) < (id : Int) + 1 := by omega
      have hca := constAt_of ht
      have hmy := HS.out.2.1 i t ht
      have hif := H1.out.2.2 i
      have hbl := H1.out.2.1
      cases hbv : bs[i]? with
      | none => rw [List.getElem?_eq_none_iff] at hbv; omega
      | some v =>
        have cN := hRn.cell hbv
        cases v with
        | false =>
          have hnot : (i : Int) ∉ ts := fun e => by rw [hif.2 e] at hbv; cases hbv
          have HJ : Hid _ := And.intro (hHs.skip fun e => hnot e.1) (And.intro hRn hRh)
          clear hHs hRn hRh hif hbv hnot ht hca hmy hn0 hp0
          go_wp2_with fail
          go_roundg (id + 1 - (i + 1))
          case measure => omega
          case rel => exact ⟨i + 1, hs, rfl, by omega, by go_num, HJ.out.1, HJ.out.2.1, HJ.out.2.2⟩
        | true =>
          have hin := hif.1 hbv
          by_cases k7 : t.kind = 7
          · have hf := const_form hmy k7
            obtain ⟨k, hk⟩ : ∃ k : Nat, t.a = (k : Int) := ⟨t.a.toNat, by omega⟩
            have e7 : (t.kind == 7) = true := by rw [k7]; rfl
            rw [if_pos k7, hk] at hca
            rw [hk] at x2
            have p0 : (0 : Int) ≤ (k : Int) := by omega
            have p1 : (k : Int) < 200 := by omega
            have hkl : k < 200 := by omega
            have hhl := hHs.len
            obtain ⟨u, hu⟩ : ∃ u, hs[k]? = some u := ⟨hs[k]'(by omega), List.getElem?_eq_getElem _⟩
            have cH := hRh.cell hu
            have fH := hRh.free k
            have HJ : Hid _ := And.intro (hHs.mark hin hca hkl) (And.intro (hRn.other B2 k (.bool true) hz1 (by omega)) (hRh.set k true))
            clear hHs hRn hRh hif hbv hin ht hca hmy hn0 hp0 hf hk k7 hu
            go_wp2_with fail
            go_roundg (id + 1 - (i + 1))
            case measure => omega
            case rel => exact ⟨i + 1, _, rfl, by omega, by go_num, HJ.out.1, HJ.out.2.1, HJ.out.2.2⟩
          · have e7 : (t.kind == 7) = false := by rw [beq_eq_false_iff_ne]; exact k7
            rw [if_neg k7] at hca
            have HJ : Hid _ := And.intro (hHs.skip fun e => by obtain ⟨_, a, ha⟩ := e; rw [hca] at ha; cases ha) (And.intro hRn hRh)
            clear hHs hRn hRh hif hbv hin ht hca hmy hn0 hp0 k7
            go_wp2_with fail
            go_roundg (id + 1 - (i + 1))
            case measure => omega
            case rel => exact ⟨i + 1, hs, rfl, by omega, by go_num, HJ.out.1, HJ.out.2.1, HJ.out.2.2⟩
    · obtain rfl : i = id + 1 := by omega
      have q2 : ¬ (((id + 1 : Nat) : Int) ≤ (id : Int)) := by omega
      have hC := hHs.fin HS.out.2.1 HS.out.2.2
      have H3 : Hid _ := And.intro hC (And.intro hHs.len hRh)
      clear hC hHs hRn hRh
      obtain ⟨wq, rfl⟩ : ∃ wq, wq = wr := ⟨_, rfl⟩
      go_wp2_with fail
      obtain ⟨i0, hi0, hz0, hz1', hz2⟩ := info_parts Tryz.infoI3
      go_loopg [8, 9] 200 (fun q lv iv wr => ∃ (i : Nat), q = 200 - i ∧ i ≤ 200 ∧ iv = .int .i64 i ∧ OwnI wr wq.heap.size lv (csL hs i) ∧ Below wq.heap.size wq wr)
      case atStart => exact ⟨0, rfl, Nat.zero_le _, rfl, World.ownsRow_nil _ _ _ _, Below.refl _ _⟩
      case round =>
        obtain ⟨i, rfl, hi, rfl, hO, hbq⟩ := hrel
        by_cases hlt : i < 200
        · have p0 : (0 : Int) ≤ (i : Int) := by omega
          have p1 : (i : Int) < 200 := by omega
          obtain ⟨v, hv⟩ : ∃ v, hs[i]? = some v := ⟨hs[i]'(by have := H3.out.2.1; omega), List.getElem?_eq_getElem _⟩
          have cH := (H3.out.2.2.below hbq).cell hv
          have hsc := csL_succ hs i
          have hcl := csL_len hs i
          cases v with
          | false =>
            rw [hv, if_neg (by simp)] at hsc
            have HJ : Hid _ := And.intro hO (And.intro hbq hsc)
            clear hO hbq hsc hv
            go_wp2_with fail
            go_roundg (200 - (i + 1))
            case measure => omega
            case rel => exact ⟨i + 1, rfl, by omega, by go_num, by rw [HJ.out.2.2]; exact HJ.out.1, HJ.out.2.1⟩
          | true =>
            rw [hv, if_pos rfl] at hsc
            obtain ⟨al, cl, rfl⟩ := row_shape hO
            obtain ⟨n, hn⟩ : ∃ n, n = (csL hs i).length := ⟨_, rfl⟩
            have hO' : wr.ownsRow wq.heap.size 3 1 (.slice al n cl) n (iC (csL hs i)) := by rw [hn]; exact hO
            rw [← hn] at hcl ⊢
            have hml : n + 1 ≤ maxLen := by unfold maxLen; omega
            have hby : (n + 1) * 8 ≤ 140737488355328 := by omega
            have HO : Hid _ := And.intro hO' (And.intro hbq (And.intro hsc hn))
            have hle : wq.heap.size ≤ (wr.alloc (.cells #[.int .i64 (i : Int)] 3)).heap.size := by have := hbq.size; simp; omega
            clear hO hO' hsc hn hv
            go_wp2_with (at_builtin; refine wpList_append_own_at _ rfl _ _ 29 rfl wq.heap.size 3 i0 (.int .i64 0) 1 8 Tryz.underlying29 hi0 hz0 hz1' hz2 rfl (by decide) (.slice al n cl) n (iC (csL hs i)) rfl (HO.out.1.alloc _) ⟨wr.heap.size, 0, none⟩ 1 1 [.int .i64 (i : Int)] rfl rfl (World.news_of_block (cs := #[.int .i64 (i : Int)]) (t := 3) (fr := (0, 0)) (heap_alloc_new wr _)) (one_one _) hml hby hle ?_; intro v2 w2 hown2 hgrow2 hnil2 hat2; have H2 : Hid _ := And.intro hown2 hgrow2; clear hown2 hgrow2 hnil2 hat2)
            go_roundg (200 - (i + 1))
            case measure => omega
            case rel => exact ⟨i + 1, rfl, by omega, by go_num, by unfold OwnI; rw [HO.out.2.2.1, iC_snoc, List.length_append, List.length_singleton, ← HO.out.2.2.2]; exact H2.out.1, lines_belowI HO.out.1 HO.out.2.1 H2.out.2⟩
        · obtain rfl : i = 200 := by omega
          have p1 : ¬ ((200 : Nat) : Int) < 200 := by omega
          have HJ : Hid _ := And.intro hO hbq
          clear hO hbq
          go_wp2_with fail
          go_ret
          exact ⟨_, rfl, csL hs 200, row_base HJ.out.1 H3.out.2.2.bl.size, H3.out.1, csL_len _ _, H3.out.2.2.bl.trans (HJ.out.2.mono H3.out.2.2.bl.size)⟩
end Go.Proofs.YthnenpncajpibaaGreatDoor
/- Contract of the document's Weight. -/
namespace Go.Proofs.YthnenpncajpibaaGreatDoor
open Go.RowKit Go.Maps
attribute [local go_sem ↓] Go.wp_at_zero Go.wp_at_succ
/-- What is known of the weights so far. -/
def Wns (L : List Tm) (xs : List Int) (i : Nat) : Prop := ∀ q, q < i → xs[q]? = some ((Tm.wt L q : Nat) : Int)
theorem Wns.next {L : List Tm} {xs : List Int} {i : Nat} (h : Wns L xs i) (hi : i < xs.length) : Wns L (xs.set i ((Tm.wt L i : Nat) : Int)) (i + 1) := fun q hq => by
  rcases Nat.lt_or_ge q i with e | e
  · rw [List.getElem?_set_ne (by omega)]; exact h q e
  · obtain rfl : q = i := by omega
    rw [List.getElem?_set_self hi]
set_option maxRecDepth 100000 in
set_option maxHeartbeats 8000000 in
theorem rweight_any (b : Nat) (L : List Tm) (F : Nat → Prop) (id : Nat) (w : World) (hS : RStoB w b L F) (hG : Tm.Good L) (hid : id < L.length) :
    Calls Tryz.prog 13 #[.pointer (some ⟨b, 0, none⟩), .int .i64 id] w fun r w' => r = .returned (.int .i64 ((Tm.wt L id : Nat) : Int)) ∧ Below w.heap.size w w' := by
  have hbig := hS.big
  obtain ⟨ao, cap0, hc0⟩ := hS.cell
  have hH := rhas_any b ao L.length cap0 (id : Int) w hc0
  have hh1 : Tm.has L.length (id : Int) = true := by simp [Tm.has]; omega
  rw [hh1] at hH
  have hmk := make_ints (id + 1) (by omega) w
  have e1 : ((id + 1 : Nat) : Int) = (id : Int) + 1 := by omega
  rw [e1] at hmk
  have HS : Hid _ := And.intro hS hG
  have h0 : Ra w (w.alloc (.cells (madeI (id + 1)) 3)) w.heap.size (List.replicate (id + 1) 0) := ⟨(Below.refl _ _).alloc (Nat.le_refl _) _, ⟨_, (MapKept.heap_alloc w _).1, madeI_eq _⟩, Nat.le_refl _⟩
  have HR0 : Hid _ := h0
  have HH : Hid _ := hH
  clear hS hG h0 e1 hH hh1 hc0
  go_enter Tryz.func13, Tryz.ntmps13
  go_wp2_with fail
  refine Calls.mono HH.out ?_
  rintro r w1 ⟨rfl, hw⟩
  obtain rfl := hw.symm
  clear HH
  go_wp2_with fail
  clear hmk
  go_loopg [6] (id + 1) (fun q iv wr => ∃ (i : Nat) (xs : List Int), q = id + 1 - i ∧ i ≤ id + 1 ∧ iv = .int .i64 i ∧ xs.length = id + 1 ∧ Wns L xs i ∧ Ra w wr w.heap.size xs)
  case atStart => exact ⟨0, _, rfl, Nat.zero_le _, rfl, by simp, fun q h => by omega, HR0.out⟩
  case round =>
    obtain ⟨i, xs, rfl, hi, rfl, hxl, hNo, hRa⟩ := hrel
    clear HR0
    by_cases hlt : i ≤ id
    · obtain ⟨t, ht⟩ : ∃ t, L[i]? = some t := ⟨L[i]'(by omega), List.getElem?_eq_getElem _⟩
      obtain ⟨g, cap, vn, vp, hA⟩ := HS.out.1.at ht
      obtain ⟨c0, x0, x1, x2, x3, x4, x5, hn0, hp0⟩ := hA
      have c0 := cell_up c0 hRa.bl
      have x0 := cell_up x0 hRa.bl
      have x1 := cell_up x1 hRa.bl
      have x2 := cell_up x2 hRa.bl
      have x3 := cell_up x3 hRa.bl
      have x4 := cell_up x4 hRa.bl
      have x5 := cell_up x5 hRa.bl
      obtain ⟨an, cn, rfl, _⟩ := _root_.id hn0
      obtain ⟨ap, cp, rfl, _⟩ := _root_.id hp0
      have q0 : (0 : Int) ≤ (i : Int) := by omega
      have q1 : (i : Int) < (L.length : Int) := by omega
      have q2 : (i : Int) ≤ (id : Int) := by omega
      have q3 : (i : Int) < (id : Int) + 1 := by omega
      have hpt := good_parts HS.out.2 ht
      have hwt := wt_of HS.out.2 ht
      obtain ⟨W0, hW0⟩ : ∃ W0, W0 = wr.alloc (.cells #[.int .i64 t.kind, .int .i64 t.label, .int .i64 t.a, .int .i64 t.b, .slice an t.names.length cn, .slice ap t.pairs.length cp] 35) := ⟨_, rfl⟩
      have hb0 : Below wr.heap.size wr W0 := by rw [hW0]; exact (Below.refl _ _).alloc (Nat.le_refl _) _
      have hR0 := hRa.below hb0
      have hX0 : W0.heap[wr.heap.size]? = some (.cells #[.int .i64 t.kind, .int .i64 t.label, .int .i64 t.a, .int .i64 t.b, .slice an t.names.length cn, .slice ap t.pairs.length cp] 35 (0, 0)) := by rw [hW0]; exact (MapKept.heap_alloc wr _).1
      have cI := hR0.cell (i := i) (x := xs[i]'(by omega)) (List.getElem?_eq_getElem _)
      have cF := hR0.free i
      rw [hW0] at cI cF
      have hgl := hRa.lt
      have hR1 := hR0.set i 1
      have hX1 := (set_other W0 w.heap.size i wr.heap.size (.int .i64 1) (by omega)).trans hX0
      have HA : Hid (Wns L xs i ∧ Tm.wt L i = min (1 + ((t.parts.map fun p => Tm.wt L p.toNat).sum)) 65537) := ⟨hNo, hwt⟩
      have HX : Hid _ := And.intro hR1 (And.intro hX1 hW0)
      have HP : Hid _ := hpt
      clear hR0 hX0 hR1 hX1 hb0 hW0 hRa hNo hn0 hp0 hpt hwt ht
      go_upto_region 8 with fail
      rw [← HX.out.2.2] at cI cF ⊢
      go_upto_region 9 with fail
      obtain ⟨W6, hW6⟩ : ∃ W6, W6 = W0.setCell ⟨w.heap.size, i, none⟩ (.int .i64 1) := ⟨_, rfl⟩
      rw [← hW6]
      have hR6 := HX.out.1
      have hX6 := HX.out.2.1
      rw [← hW6] at hR6 hX6
      obtain ⟨y0, y1, y2, y3, y4, y5, yf⟩ := six6 hX6
      have H6 : Hid (Ra w W6 w.heap.size (xs.set i 1)) := hR6
      have c6 := hR6.cell (i := i) (x := 1) (by rw [List.getElem?_set_self (by omega)])
      have f6 := hR6.free i
      clear hR6 hX6 hW6 HX x0 x1 x2 x3 x4 x5 c0 cI cF yf
      by_cases k34 : t.kind = 3 ∨ t.kind = 4
      · have hpp : t.parts = [t.a, t.b] := by unfold Tm.parts; rw [if_neg (by omega), if_pos k34]
        have hpt := HP.out
        rw [hpp] at hpt
        have ha := hpt t.a (by simp)
        have hb := hpt t.b (by simp)
        obtain ⟨ma, hma⟩ : ∃ ma : Nat, t.a = ma := ⟨t.a.toNat, by omega⟩
        obtain ⟨mb, hmb⟩ : ∃ mb : Nat, t.b = mb := ⟨t.b.toNat, by omega⟩
        have cA := H6.out.cell (i := ma) (x := ((Tm.wt L ma : Nat) : Int)) (by rw [List.getElem?_set_ne (by omega)]; exact HA.out.1 ma (by omega))
        have cB := H6.out.cell (i := mb) (x := ((Tm.wt L mb : Nat) : Int)) (by rw [List.getElem?_set_ne (by omega)]; exact HA.out.1 mb (by omega))
        rw [hma] at y2
        rw [hmb] at y3
        have wa := wt_le L ma
        have wb := wt_le L mb
        have p0 : (0 : Int) ≤ (ma : Int) := by omega
        have p1 : (ma : Int) < (id : Int) + 1 := by omega
        have p2 : (0 : Int) ≤ (mb : Int) := by omega
        have p3 : (mb : Int) < (id : Int) + 1 := by omega
        have hkk : (t.kind == 3) = true ∨ ((t.kind == 3) = false ∧ (t.kind == 4) = true) := by
          rcases k34 with e | e
          · exact .inl (by rw [e]; rfl)
          · exact .inr ⟨by rw [e]; rfl, by rw [e]; rfl⟩
        have hwz : Tm.wt L i = min (1 + (Tm.wt L ma + Tm.wt L mb)) 65537 := by rw [HA.out.2, hpp]; simp [hma, hmb]
        have HQ : Hid _ := hwz
        clear hwz hpt hpp k34 ha hb hma hmb
        generalize Tm.wt L ma = za at *
        generalize Tm.wt L mb = zb at *
        have wr1 : IntKind.i64.wrap (1 + (za : Int)) = 1 + (za : Int) := by rw [IntKind.wrap_i64]; omega
        have wr2 : IntKind.i64.wrap (1 + (za : Int) + (zb : Int)) = 1 + (za : Int) + (zb : Int) := by rw [IntKind.wrap_i64]; omega
        rcases hkk with e3 | ⟨e3, e4⟩
        all_goals
          go_upto_region 12 with fail
          go_region
          go_upto_region 17 with fail
          obtain ⟨z, hz0⟩ : ∃ z : Nat, z = 1 + za + zb := ⟨_, rfl⟩
          obtain ⟨WB, hWB⟩ : ∃ WB, WB = (W6.setCell ⟨w.heap.size, i, none⟩ (.int .i64 (1 + (za : Int) + (zb : Int)))).drew := ⟨_, rfl⟩
          rw [← hWB]
          have hRb : Ra w WB w.heap.size (xs.set i (z : Int)) := by
            have h1 := H6.out.set i (z : Int)
            rw [List.set_set] at h1
            have e9 : (z : Int) = 1 + (za : Int) + (zb : Int) := by omega
            rw [hWB, ← e9]
            exact h1.below ((Below.refl _ _).drew)
          have HB : Hid (Ra w WB w.heap.size (xs.set i (z : Int)) ∧ Tm.wt L i = min z 65537) := ⟨hRb, by rw [HQ.out, hz0, Nat.add_assoc]⟩
          clear hRb hWB HQ H6 y0 y1 y2 y3 y4 y5 c6 f6 cA cB hz0 wr1 wr2 wa wb
          -- HB: the numbers, and what the round's number is (z)
          have cI := HB.out.1.cell (i := i) (x := (z : Int)) (by rw [List.getElem?_set_self (by omega)])
          have cF := HB.out.1.free i
          by_cases hz : 65537 < z
          · have h1 : (65537 : Int) < (z : Int) := by omega
            have HW : Hid (Tm.wt L i = 65537) := (by rw [HB.out.2]; omega : Tm.wt L i = 65537)
            go_wp2_with fail
            go_roundg (id + 1 - (i + 1))
            case measure => omega
            case rel => exact ⟨i + 1, xs.set i 65537, rfl, by omega, by go_num, by rw [List.length_set]; exact hxl, by have h9 := HA.out.1.next (by omega : i < xs.length); rw [HW.out] at h9; exact h9, by have h7 := HB.out.1.set i 65537; rw [List.set_set] at h7; exact h7⟩
          · have h1 : ¬ (65537 : Int) < (z : Int) := by omega
            have HW : Hid (Tm.wt L i = z) := (by rw [HB.out.2]; omega : Tm.wt L i = z)
            go_wp2_with fail
            go_roundg (id + 1 - (i + 1))
            case measure => omega
            case rel => exact ⟨i + 1, xs.set i (z : Int), rfl, by omega, by go_num, by rw [List.length_set]; exact hxl, by have h9 := HA.out.1.next (by omega : i < xs.length); rw [HW.out] at h9; exact h9, HB.out.1⟩
      have n3 : (t.kind == 3) = false := by rw [beq_eq_false_iff_ne]; omega
      have n4 : (t.kind == 4) = false := by rw [beq_eq_false_iff_ne]; omega
      by_cases k256 : t.kind = 2 ∨ t.kind = 5 ∨ t.kind = 6
      · have hpp : t.parts = [t.a] := by unfold Tm.parts; rw [if_pos k256]
        have hpt := HP.out
        rw [hpp] at hpt
        have ha := hpt t.a (by simp)
        obtain ⟨ma, hma⟩ : ∃ ma : Nat, t.a = ma := ⟨t.a.toNat, by omega⟩
        have cA := H6.out.cell (i := ma) (x := ((Tm.wt L ma : Nat) : Int)) (by rw [List.getElem?_set_ne (by omega)]; exact HA.out.1 ma (by omega))
        rw [hma] at y2
        have wa := wt_le L ma
        have p0 : (0 : Int) ≤ (ma : Int) := by omega
        have p1 : (ma : Int) < (id : Int) + 1 := by omega
        have hkk : (t.kind == 2) = true ∨ ((t.kind == 2) = false ∧ (t.kind == 5) = true) ∨ ((t.kind == 2) = false ∧ (t.kind == 5) = false ∧ (t.kind == 6) = true) := by
          rcases k256 with e | e | e
          · exact .inl (by rw [e]; rfl)
          · exact .inr (.inl ⟨by rw [e]; rfl, by rw [e]; rfl⟩)
          · exact .inr (.inr ⟨by rw [e]; rfl, by rw [e]; rfl, by rw [e]; rfl⟩)
        have hwz : Tm.wt L i = min (1 + Tm.wt L ma) 65537 := by rw [HA.out.2, hpp]; simp [hma]
        have HQ : Hid _ := hwz
        clear hwz hpt hpp k34 k256 ha hma
        generalize Tm.wt L ma = za at *
        have wr1 : IntKind.i64.wrap (1 + (za : Int)) = 1 + (za : Int) := by rw [IntKind.wrap_i64]; omega
        rcases hkk with e2 | ⟨e2, e5⟩ | ⟨e2, e5, e6⟩
        all_goals
          go_upto_region 17 with fail
          obtain ⟨z, hz0⟩ : ∃ z : Nat, z = 1 + za := ⟨_, rfl⟩
          obtain ⟨WB, hWB⟩ : ∃ WB, WB = W6.setCell ⟨w.heap.size, i, none⟩ (.int .i64 (1 + (za : Int))) := ⟨_, rfl⟩
          rw [← hWB]
          have hRb : Ra w WB w.heap.size (xs.set i (z : Int)) := by
            have h1 := H6.out.set i (z : Int)
            rw [List.set_set] at h1
            have e9 : (z : Int) = 1 + (za : Int) := by omega
            rw [hWB, ← e9]
            exact h1
          have HB : Hid (Ra w WB w.heap.size (xs.set i (z : Int)) ∧ Tm.wt L i = min z 65537) := ⟨hRb, by rw [HQ.out, hz0]⟩
          clear hRb hWB HQ H6 y0 y1 y2 y3 y4 y5 c6 f6 cA hz0 wr1 wa
          -- HB: the numbers, and what the round's number is (z)
          have cI := HB.out.1.cell (i := i) (x := (z : Int)) (by rw [List.getElem?_set_self (by omega)])
          have cF := HB.out.1.free i
          by_cases hz : 65537 < z
          · have h1 : (65537 : Int) < (z : Int) := by omega
            have HW : Hid (Tm.wt L i = 65537) := (by rw [HB.out.2]; omega : Tm.wt L i = 65537)
            go_wp2_with fail
            go_roundg (id + 1 - (i + 1))
            case measure => omega
            case rel => exact ⟨i + 1, xs.set i 65537, rfl, by omega, by go_num, by rw [List.length_set]; exact hxl, by have h9 := HA.out.1.next (by omega : i < xs.length); rw [HW.out] at h9; exact h9, by have h7 := HB.out.1.set i 65537; rw [List.set_set] at h7; exact h7⟩
          · have h1 : ¬ (65537 : Int) < (z : Int) := by omega
            have HW : Hid (Tm.wt L i = z) := (by rw [HB.out.2]; omega : Tm.wt L i = z)
            go_wp2_with fail
            go_roundg (id + 1 - (i + 1))
            case measure => omega
            case rel => exact ⟨i + 1, xs.set i (z : Int), rfl, by omega, by go_num, by rw [List.length_set]; exact hxl, by have h9 := HA.out.1.next (by omega : i < xs.length); rw [HW.out] at h9; exact h9, HB.out.1⟩
      · have n2 : (t.kind == 2) = false := by rw [beq_eq_false_iff_ne]; omega
        have n5 : (t.kind == 5) = false := by rw [beq_eq_false_iff_ne]; omega
        have n6 : (t.kind == 6) = false := by rw [beq_eq_false_iff_ne]; omega
        have hpp : t.parts = [] := by unfold Tm.parts; rw [if_neg k256, if_neg k34]
        have hwz : Tm.wt L i = min 1 65537 := by rw [HA.out.2, hpp]; simp
        obtain ⟨z, hz0⟩ : ∃ z : Nat, z = 1 := ⟨_, rfl⟩
        have HB : Hid (Ra w W6 w.heap.size (xs.set i (z : Int)) ∧ Tm.wt L i = min z 65537) := ⟨by rw [hz0]; exact H6.out, by rw [hz0]; exact hwz⟩
        clear hwz hpp k34 k256 H6 c6 f6
        go_upto_region 17 with fail
        clear y0 y1 y2 y3 y4 y5 hz0
        -- HB: the numbers, and what the round's number is (z)
        have cI := HB.out.1.cell (i := i) (x := (z : Int)) (by rw [List.getElem?_set_self (by omega)])
        have cF := HB.out.1.free i
        by_cases hz : 65537 < z
        · have h1 : (65537 : Int) < (z : Int) := by omega
          have HW : Hid (Tm.wt L i = 65537) := (by rw [HB.out.2]; omega : Tm.wt L i = 65537)
          go_wp2_with fail
          go_roundg (id + 1 - (i + 1))
          case measure => omega
          case rel => exact ⟨i + 1, xs.set i 65537, rfl, by omega, by go_num, by rw [List.length_set]; exact hxl, by have h9 := HA.out.1.next (by omega : i < xs.length); rw [HW.out] at h9; exact h9, by have h7 := HB.out.1.set i 65537; rw [List.set_set] at h7; exact h7⟩
        · have h1 : ¬ (65537 : Int) < (z : Int) := by omega
          have HW : Hid (Tm.wt L i = z) := (by rw [HB.out.2]; omega : Tm.wt L i = z)
          go_wp2_with fail
          go_roundg (id + 1 - (i + 1))
          case measure => omega
          case rel => exact ⟨i + 1, xs.set i (z : Int), rfl, by omega, by go_num, by rw [List.length_set]; exact hxl, by have h9 := HA.out.1.next (by omega : i < xs.length); rw [HW.out] at h9; exact h9, HB.out.1⟩
    · obtain rfl : i = id + 1 := by omega
      have q2 : ¬ (((id + 1 : Nat) : Int) ≤ (id : Int)) := by omega
      have cI := hRa.cell (hNo id (by omega))
      have q3 : (0 : Int) ≤ (id : Int) := by omega
      have q4 : (id : Int) < (id : Int) + 1 := by omega
      have HB : Hid _ := hRa.bl
      clear hRa hNo
      go_wp2_with fail
      go_ret
      exact ⟨rfl, HB.out⟩
end Go.Proofs.YthnenpncajpibaaGreatDoor
