/- Contract of the document's Consts. -/
import Derived.Test.YthnenpncajpibaaGreatDoorRtNeeds
import Derived.Test.YthnenpncajpibaaGreatDoorLent
namespace Go.Proofs.YthnenpncajpibaaGreatDoor
open Go.RowKit Go.Maps
attribute [local go_sem ↓] Go.wp_at_zero Go.wp_at_succ
theorem Rb.other {ty : TypeId} {w wr : World} {gi : Nat} {bs : List Bool} (h : Rb ty w wr gi bs) (b o : Nat) (v : Value) (hb : w.heap.size ≤ b) (hne : gi ≠ b) : Rb ty w (wr.setCell ⟨b, o, none⟩ v) gi bs := by
  obtain ⟨cs, hc, hx⟩ := h.ids
  exact ⟨h.bl.setCell hb _, ⟨cs, (set_other _ _ _ _ _ hne).trans hc, hx⟩, h.gu⟩
/-- Which constants were met among the first i terms. -/
structure Hs (L : List Tm) (ts : List Int) (hs : List Bool) (i : Nat) : Prop where
  len : hs.length = 200
  iff : ∀ a : Nat, hs[a]? = some true ↔ ∃ m : Nat, m < i ∧ (m : Int) ∈ ts ∧ Tm.constAt L (m : Int) = some (a : Int)
theorem Hs.start (L : List Tm) (ts : List Int) : Hs L ts (List.replicate 200 false) 0 := by
  refine ⟨List.length_replicate, fun a => ⟨fun h => ?_, fun ⟨m, h, _⟩ => by omega⟩⟩
  rw [List.getElem?_replicate] at h
  split at h <;> simp at h
theorem Hs.skip {L : List Tm} {ts : List Int} {hs : List Bool} {i : Nat} (h : Hs L ts hs i) (hn : ¬ ((i : Int) ∈ ts ∧ ∃ a : Nat, Tm.constAt L (i : Int) = some (a : Int))) : Hs L ts hs (i + 1) :=
  ⟨h.len, fun a => (h.iff a).trans ⟨fun ⟨m, h1, h2⟩ => ⟨m, by omega, h2⟩, fun ⟨m, h1, h2, h3⟩ => by
    by_cases e : m = i
    · subst e; exact absurd ⟨h2, a, h3⟩ hn
    · exact ⟨m, by omega, h2, h3⟩⟩⟩
theorem Hs.mark {L : List Tm} {ts : List Int} {hs : List Bool} {i k : Nat} (h : Hs L ts hs i) (hi : (i : Int) ∈ ts) (hk : Tm.constAt L (i : Int) = some (k : Int)) (hlt : k < 200) : Hs L ts (hs.set k true) (i + 1) := by
  refine ⟨by rw [List.length_set]; exact h.len, fun a => ?_⟩
  rw [set_true (by rw [h.len]; exact hlt), h.iff a]
  constructor
  · rintro (⟨m, h1, h2⟩ | rfl)
    · exact ⟨m, by omega, h2⟩
    · exact ⟨i, by omega, hi, hk⟩
  · rintro ⟨m, h1, h2, h3⟩
    by_cases e : m = i
    · subst e
      rw [hk] at h3
      have := Option.some.inj h3
      exact .inr (by omega)
    · exact .inl ⟨m, by omega, h2, h3⟩
/-- The constants below n, rising. -/
def csL (hs : List Bool) (n : Nat) : List Int := ((List.range n).filter fun k => hs[k]? == some true).map fun k => ((k : Nat) : Int)
theorem csL_succ (hs : List Bool) (n : Nat) : csL hs (n + 1) = if hs[n]? = some true then csL hs n ++ [(n : Int)] else csL hs n := by
  unfold csL
  rw [List.range_succ, List.filter_append]
  by_cases h : hs[n]? = some true
  · rw [if_pos h]; simp [h]
  · rw [if_neg h]; simp [h]
theorem csL_len (hs : List Bool) (n : Nat) : (csL hs n).length ≤ n := by
  unfold csL
  rw [List.length_map]
  exact Nat.le_trans (List.length_filter_le _ _) (by simp)
theorem csL_mem {hs : List Bool} {n : Nat} {z : Int} : z ∈ csL hs n ↔ ∃ k : Nat, k < n ∧ hs[k]? = some true ∧ z = (k : Int) := by
  unfold csL
  simp only [List.mem_map, List.mem_filter, List.mem_range, beq_iff_eq]
  constructor
  · rintro ⟨k, ⟨h1, h2⟩, rfl⟩; exact ⟨k, h1, h2, rfl⟩
  · rintro ⟨k, h1, h2, rfl⟩; exact ⟨k, ⟨h1, h2⟩, rfl⟩
theorem csL_rise (hs : List Bool) (n : Nat) : (csL hs n).Pairwise (· < ·) := by
  unfold csL
  rw [List.pairwise_map]
  exact (List.pairwise_lt_range.filter _).imp fun h => by omega
theorem Hs.fin {L : List Tm} {ts : List Int} {hs : List Bool} {id : Nat} (h : Hs L ts hs (id + 1)) (hG : Tm.Good L) (hw : Withi L id ts) : CsOf L ts (csL hs 200) := by
  refine ⟨csL_rise _ _, fun z => ?_⟩
  rw [csL_mem]
  constructor
  · rintro ⟨k, _, h2, rfl⟩
    obtain ⟨m, _, h4, h5⟩ := (h.iff k).1 h2
    exact ⟨m, h4, h5⟩
  · rintro ⟨m, hm, hc⟩
    have hr := hw.range m hm
    have hle := withi_le hG hw m hm
    obtain ⟨n, rfl⟩ : ∃ n : Nat, m = n := ⟨m.toNat, by omega⟩
    obtain ⟨t, ht⟩ : ∃ t, L[n]? = some t := ⟨L[n]'(by omega), List.getElem?_eq_getElem _⟩
    have hc' := hc
    rw [constAt_of ht] at hc'
    split at hc'
    · rename_i k7
      have hf := const_form (hG n t ht) k7
      have hz := Option.some.inj hc'
      obtain ⟨a, rfl⟩ : ∃ a : Nat, z = (a : Int) := ⟨z.toNat, by omega⟩
      exact ⟨a, by omega, (h.iff a).2 ⟨n, by omega, hm, hc⟩, rfl⟩
    · cases hc'
set_option maxRecDepth 100000 in
theorem Tryz.zeroH : Tryz.zeroCells86 = Array.replicate 200 (.bool false) := by kernel_rfl
set_option maxRecDepth 100000 in
set_option maxHeartbeats 8000000 in
theorem rconsts_any (b : Nat) (L : List Tm) (F : Nat → Prop) (id : Nat) (ts : List Int) (w : World) (hS : RStoB w b L F) (hG : Tm.Good L) (hid : id < L.length) (hw : Withi L id ts) :
    Calls Tryz.prog 15 #[.pointer (some ⟨b, 0, none⟩), .int .i64 id] w fun r w' => ∃ v cs, r = .returned v ∧ OwnI w' w.heap.size v cs ∧ CsOf L ts cs ∧ cs.length ≤ 200 ∧ Below w.heap.size w w' := by
  have hbig := hS.big
  have HN : Hid _ := rneeds_any b L F id ts w hS hG hid hw
  have HS : Hid _ := And.intro hS (And.intro hG hw)
  clear hS hG hw
  go_enter Tryz.func15, Tryz.ntmps15
  go_wp2_with fail
  refine Calls.mono HN.out ?_
  rintro r w1 ⟨bs, rfl, hR1, hb1, hiff⟩
  have H1 : Hid _ := And.intro hR1 (And.intro hb1 hiff)
  clear hR1 hb1 hiff HN
  go_wp2_with fail
  have h2 : Below w1.heap.size w1 (w1.alloc (.cells Tryz.zeroCells86 86)) := (Below.refl _ _).alloc (Nat.le_refl _) _
  have hz1 := H1.out.1.bl.size
  have hR2 : Rb 86 w (w1.alloc (.cells Tryz.zeroCells86 86)) w1.heap.size (List.replicate 200 false) := by
    refine ⟨H1.out.1.bl.trans (h2.mono hz1), ⟨_, (MapKept.heap_alloc w1 _).1, ?_⟩, hz1⟩
    rw [Tryz.zeroH, Array.toList_replicate]
    unfold bolC
    rw [List.map_replicate]
  have H2 : Hid _ := And.intro (H1.out.1.below h2) hR2
  have hlt1 := H1.out.1.lt
  clear h2 hR2
  obtain ⟨B2, hB2⟩ : ∃ B2, B2 = w1.heap.size := ⟨_, rfl⟩
  rw [← hB2] at H2 hlt1 hz1 ⊢
  clear hB2
  go_loopg [7] (id + 1) (fun q iv wr => ∃ (i : Nat) (hs : List Bool), q = id + 1 - i ∧ i ≤ id + 1 ∧ iv = .int .i64 i ∧ Hs L ts hs i ∧ Rb 4 w wr w.heap.size bs ∧ Rb 86 w wr B2 hs)
  case atStart => exact ⟨0, _, rfl, Nat.zero_le _, rfl, Hs.start L ts, H2.out.1, H2.out.2⟩
  case round =>
    obtain ⟨i, hs, rfl, hi, rfl, hHs, hRn, hRh⟩ := hrel
    clear H2
    by_cases hlt : i ≤ id
    · obtain ⟨t, ht⟩ : ∃ t, L[i]? = some t := ⟨L[i]'(by omega), List.getElem?_eq_getElem _⟩
      obtain ⟨g, cap, vn, vp, hA⟩ := (HS.out.1.below hRn.bl).at ht
      obtain ⟨c0, x0, x1, x2, x3, x4, x5, hn0, hp0⟩ := hA
      have q0 : (0 : Int) ≤ (i : Int) := by omega
      have q1 : (i : Int) < (L.length : Int) := by omega
      have q2 : (i : Int) ≤ (id : Int) := by omega
      have q3 : (i : Int) < (id : Int) + 1 := by omega
      have hca := constAt_of ht
      have hmy := HS.out.2.1 i t ht
      have hif := H1.out.2.2 i
      have hbl := H1.out.2.1
      cases hbv : bs[i]? with
      | none => rw [List.getElem?_eq_none_iff] at hbv; omega
      | some v =>
        have cN := hRn.cell hbv
        cases v with
        | false =>
          have hnot : (i : Int) ∉ ts := fun e => by rw [hif.2 e] at hbv; cases hbv
          have HJ : Hid _ := And.intro (hHs.skip fun e => hnot e.1) (And.intro hRn hRh)
          clear hHs hRn hRh hif hbv hnot ht hca hmy hn0 hp0
          go_wp2_with fail
          go_roundg (id + 1 - (i + 1))
          case measure => omega
          case rel => exact ⟨i + 1, hs, rfl, by omega, by go_num, HJ.out.1, HJ.out.2.1, HJ.out.2.2⟩
        | true =>
          have hin := hif.1 hbv
          by_cases k7 : t.kind = 7
          · have hf := const_form hmy k7
            obtain ⟨k, hk⟩ : ∃ k : Nat, t.a = (k : Int) := ⟨t.a.toNat, by omega⟩
            have e7 : (t.kind == 7) = true := by rw [k7]; rfl
            rw [if_pos k7, hk] at hca
            rw [hk] at x2
            have p0 : (0 : Int) ≤ (k : Int) := by omega
            have p1 : (k : Int) < 200 := by omega
            have hkl : k < 200 := by omega
            have hhl := hHs.len
            obtain ⟨u, hu⟩ : ∃ u, hs[k]? = some u := ⟨hs[k]'(by omega), List.getElem?_eq_getElem _⟩
            have cH := hRh.cell hu
            have fH := hRh.free k
            have HJ : Hid _ := And.intro (hHs.mark hin hca hkl) (And.intro (hRn.other B2 k (.bool true) hz1 (by omega)) (hRh.set k true))
            clear hHs hRn hRh hif hbv hin ht hca hmy hn0 hp0 hf hk k7 hu
            go_wp2_with fail
            go_roundg (id + 1 - (i + 1))
            case measure => omega
            case rel => exact ⟨i + 1, _, rfl, by omega, by go_num, HJ.out.1, HJ.out.2.1, HJ.out.2.2⟩
          · have e7 : (t.kind == 7) = false := by rw [beq_eq_false_iff_ne]; exact k7
            rw [if_neg k7] at hca
            have HJ : Hid _ := And.intro (hHs.skip fun e => by obtain ⟨_, a, ha⟩ := e; rw [hca] at ha; cases ha) (And.intro hRn hRh)
            clear hHs hRn hRh hif hbv hin ht hca hmy hn0 hp0 k7
            go_wp2_with fail
            go_roundg (id + 1 - (i + 1))
            case measure => omega
            case rel => exact ⟨i + 1, hs, rfl, by omega, by go_num, HJ.out.1, HJ.out.2.1, HJ.out.2.2⟩
    · obtain rfl : i = id + 1 := by omega
      have q2 : ¬ (((id + 1 : Nat) : Int) ≤ (id : Int)) := by omega
      have hC := hHs.fin HS.out.2.1 HS.out.2.2
      have H3 : Hid _ := And.intro hC (And.intro hHs.len hRh)
      clear hC hHs hRn hRh
      obtain ⟨wq, rfl⟩ : ∃ wq, wq = wr := ⟨_, rfl⟩
      go_wp2_with fail
      obtain ⟨i0, hi0, hz0, hz1', hz2⟩ := info_parts Tryz.infoI3
      go_loopg [8, 9] 200 (fun q lv iv wr => ∃ (i : Nat), q = 200 - i ∧ i ≤ 200 ∧ iv = .int .i64 i ∧ OwnI wr wq.heap.size lv (csL hs i) ∧ Below wq.heap.size wq wr)
      case atStart => exact ⟨0, rfl, Nat.zero_le _, rfl, World.ownsRow_nil _ _ _ _, Below.refl _ _⟩
      case round =>
        obtain ⟨i, rfl, hi, rfl, hO, hbq⟩ := hrel
        by_cases hlt : i < 200
        · have p0 : (0 : Int) ≤ (i : Int) := by omega
          have p1 : (i : Int) < 200 := by omega
          obtain ⟨v, hv⟩ : ∃ v, hs[i]? = some v := ⟨hs[i]'(by have := H3.out.2.1; omega), List.getElem?_eq_getElem _⟩
          have cH := (H3.out.2.2.below hbq).cell hv
          have hsc := csL_succ hs i
          have hcl := csL_len hs i
          cases v with
          | false =>
            rw [hv, if_neg (by simp)] at hsc
            have HJ : Hid _ := And.intro hO (And.intro hbq hsc)
            clear hO hbq hsc hv
            go_wp2_with fail
            go_roundg (200 - (i + 1))
            case measure => omega
            case rel => exact ⟨i + 1, rfl, by omega, by go_num, by rw [HJ.out.2.2]; exact HJ.out.1, HJ.out.2.1⟩
          | true =>
            rw [hv, if_pos rfl] at hsc
            obtain ⟨al, cl, rfl⟩ := row_shape hO
            obtain ⟨n, hn⟩ : ∃ n, n = (csL hs i).length := ⟨_, rfl⟩
            have hO' : wr.ownsRow wq.heap.size 3 1 (.slice al n cl) n (iC (csL hs i)) := by rw [hn]; exact hO
            rw [← hn] at hcl ⊢
            have hml : n + 1 ≤ maxLen := by unfold maxLen; omega
            have hby : (n + 1) * 8 ≤ 140737488355328 := by omega
            have HO : Hid _ := And.intro hO' (And.intro hbq (And.intro hsc hn))
            have hle : wq.heap.size ≤ (wr.alloc (.cells #[.int .i64 (i : Int)] 3)).heap.size := by have := hbq.size; simp; omega
            clear hO hO' hsc hn hv
            go_wp2_with (at_builtin; refine wpList_append_own_at _ rfl _ _ 29 rfl wq.heap.size 3 i0 (.int .i64 0) 1 8 Tryz.underlying29 hi0 hz0 hz1' hz2 rfl (by decide) (.slice al n cl) n (iC (csL hs i)) rfl (HO.out.1.alloc _) ⟨wr.heap.size, 0, none⟩ 1 1 [.int .i64 (i : Int)] rfl rfl (World.news_of_block (cs := #[.int .i64 (i : Int)]) (t := 3) (fr := (0, 0)) (heap_alloc_new wr _)) (one_one _) hml hby hle ?_; intro v2 w2 hown2 hgrow2 hnil2 hat2; have H2 : Hid _ := And.intro hown2 hgrow2; clear hown2 hgrow2 hnil2 hat2)
            go_roundg (200 - (i + 1))
            case measure => omega
            case rel => exact ⟨i + 1, rfl, by omega, by go_num, by unfold OwnI; rw [HO.out.2.2.1, iC_snoc, List.length_append, List.length_singleton, ← HO.out.2.2.2]; exact H2.out.1, lines_belowI HO.out.1 HO.out.2.1 H2.out.2⟩
        · obtain rfl : i = 200 := by omega
          have p1 : ¬ ((200 : Nat) : Int) < 200 := by omega
          have HJ : Hid _ := And.intro hO hbq
          clear hO hbq
          go_wp2_with fail
          go_ret
          exact ⟨_, rfl, csL hs 200, row_base HJ.out.1 H3.out.2.2.bl.size, H3.out.1, csL_len _ _, H3.out.2.2.bl.trans (HJ.out.2.mono H3.out.2.2.bl.size)⟩
end Go.Proofs.YthnenpncajpibaaGreatDoor
