/- Contract of the document's needs. -/
import Derived.Test.YthnenpncajpibaaGreatDoorRtNeeds0
namespace Go.Proofs.YthnenpncajpibaaGreatDoor
open Go.RowKit Go.Maps
attribute [local go_sem ↓] Go.wp_at_zero Go.wp_at_succ
theorem set_true {bs : List Bool} {k : Nat} (hk : k < bs.length) (m : Nat) : (bs.set k true)[m]? = some true ↔ (bs[m]? = some true ∨ m = k) := by
  by_cases e : m = k
  · subst e; rw [List.getElem?_set_self hk]; simp
  · rw [List.getElem?_set_ne (fun h => e h.symm)]; simp [e]
theorem or_two (P : Prop) (m a b : Nat) : ((P ∨ m = a) ∨ m = b) ↔ (P ∨ (m : Int) = (a : Int) ∨ (m : Int) = (b : Int)) := by
  rw [or_assoc]
  constructor
  · rintro (h | h | h)
    · exact .inl h
    · exact .inr (.inl (by omega))
    · exact .inr (.inr (by omega))
  · rintro (h | h | h)
    · exact .inl h
    · exact .inr (.inl (by omega))
    · exact .inr (.inr (by omega))
set_option maxRecDepth 100000 in
set_option maxHeartbeats 8000000 in
theorem rneeds_any (b : Nat) (L : List Tm) (F : Nat → Prop) (id : Nat) (ts : List Int) (w : World) (hS : RStoB w b L F) (hG : Tm.Good L) (hid : id < L.length) (hw : Withi L id ts) :
    Calls Tryz.prog 33 #[.pointer (some ⟨b, 0, none⟩), .int .i64 id] w fun r w' => ∃ bs, r = .returned (.slice (some ⟨w.heap.size, 0, none⟩) (id + 1) (id + 1)) ∧ Rb 4 w w' w.heap.size bs ∧ bs.length = id + 1 ∧ ∀ m : Nat, bs[m]? = some true ↔ (m : Int) ∈ ts := by
  have hbig := hS.big
  have hmk := make_bools (id + 1) (by omega) w
  have e1 : ((id + 1 : Nat) : Int) = (id : Int) + 1 := by omega
  rw [e1] at hmk
  have h0 : Rb 4 w (w.alloc (.cells (madeB (id + 1)) 4)) w.heap.size (List.replicate (id + 1) false) := ⟨(Below.refl _ _).alloc (Nat.le_refl _) _, ⟨_, (MapKept.heap_alloc w _).1, madeB_eq _⟩, Nat.le_refl _⟩
  have cI := h0.cell (i := id) (x := false) (by rw [List.getElem?_replicate, if_pos (by omega)])
  have cF := h0.free id
  have hN0 := Nds.start hw hG
  have HS : Hid _ := And.intro hS (And.intro hG hw)
  have h0s : Rb 4 w (w.alloc (.cells ((madeB (id + 1)).setIfInBounds id (.bool true)) 4)) w.heap.size ((List.replicate (id + 1) false).set id true) := ⟨(Below.refl _ _).alloc (Nat.le_refl _) _, ⟨_, (MapKept.heap_alloc w _).1, by rw [Array.toList_setIfInBounds, madeB_eq]; unfold bolC; rw [List.map_set]⟩, Nat.le_refl _⟩
  have HR0 : Hid _ := And.intro h0s hN0
  have q0 : (0 : Int) ≤ (id : Int) := by omega
  have q1 : (id : Int) < (id : Int) + 1 := by omega
  clear hS hG h0 e1 hw hN0 h0s
  go_enter Tryz.func33, Tryz.ntmps33
  go_wp2_with fail
  clear hmk cI cF
  go_loopg [6] (id + 1) (fun q iv wr => ∃ (i : Int) (bs : List Bool), q = (i + 1).toNat ∧ -1 ≤ i ∧ i ≤ (id : Int) ∧ iv = .int .i64 i ∧ Nds L id ts bs i ∧ Rb 4 w wr w.heap.size bs)
  case atStart => exact ⟨(id : Int), _, by omega, by omega, Int.le_refl _, rfl, HR0.out.2, HR0.out.1⟩
  case round =>
    obtain ⟨i, bs, rfl, hi1, hi2, rfl, hNd, hRb⟩ := hrel
    clear HR0 q0 q1
    by_cases hlt : 0 ≤ i
    · obtain ⟨n, rfl⟩ : ∃ n : Nat, i = (n : Int) := ⟨i.toNat, by omega⟩
      obtain ⟨t, ht⟩ : ∃ t, L[n]? = some t := ⟨L[n]'(by omega), List.getElem?_eq_getElem _⟩
      have hbl := hNd.len
      have q2 : (0 : Int) ≤ (n : Int) := by omega
      have q3 : (n : Int) < (id : Int) + 1 := by omega
      have q4 : (n : Int) < (L.length : Int) := by omega
      have hiff := hNd.iff HS.out.2.2 HS.out.2.1
      cases hbv : bs[n]? with
      | none => rw [List.getElem?_eq_none_iff] at hbv; omega
      | some v =>
        have cN := hRb.cell hbv
        cases v with
        | false =>
          have hnot : (n : Int) ∉ ts := fun e => by rw [hiff.2 e] at hbv; cases hbv
          have HJ : Hid _ := And.intro (hNd.skip hnot) hRb
          clear hNd hRb hiff hbv hnot ht
          go_wp2_with fail
          go_roundg n
          case measure => omega
          case rel => exact ⟨(n : Int) - 1, bs, by omega, by omega, by omega, by go_num, HJ.out.1, HJ.out.2⟩
        | true =>
          have hin : (n : Int) ∈ ts := hiff.1 hbv
          obtain ⟨g, cap, vn, vp, hA⟩ := (HS.out.1.below hRb.bl).at ht
          obtain ⟨c0, x0, x1, x2, x3, x4, x5, hn0, hp0⟩ := hA
          obtain ⟨an, cn, rfl, _⟩ := _root_.id hn0
          obtain ⟨ap, cp, rfl, _⟩ := _root_.id hp0
          have hpt := good_parts HS.out.2.1 ht
          obtain ⟨W0, hW0⟩ : ∃ W0, W0 = wr.alloc (.cells #[.int .i64 t.kind, .int .i64 t.label, .int .i64 t.a, .int .i64 t.b, .slice an t.names.length cn, .slice ap t.pairs.length cp] 35) := ⟨_, rfl⟩
          have hb0 : Below wr.heap.size wr W0 := by rw [hW0]; exact (Below.refl _ _).alloc (Nat.le_refl _) _
          have hR0 := hRb.below hb0
          have hX0 : W0.heap[wr.heap.size]? = some (.cells #[.int .i64 t.kind, .int .i64 t.label, .int .i64 t.a, .int .i64 t.b, .slice an t.names.length cn, .slice ap t.pairs.length cp] 35 (0, 0)) := by rw [hW0]; exact (MapKept.heap_alloc wr _).1
          have hgl := hRb.lt
          have HX : Hid _ := And.intro hR0 (And.intro hX0 hW0)
          have HJ : Hid _ := And.intro hNd (And.intro hin ht)
          clear hR0 hX0 hW0 hb0 hNd hRb hiff hbv hin ht hn0 hp0
          go_upto_region 8 with fail
          rw [← HX.out.2.2]
          obtain ⟨y0, y1, y2, y3, y4, y5, yf⟩ := six6 HX.out.2.1
          clear x0 x1 x2 x3 x4 x5 c0 cN yf
          by_cases k34 : t.kind = 3 ∨ t.kind = 4
          · have hpp : t.parts = [t.a, t.b] := by unfold Tm.parts; rw [if_neg (by omega), if_pos k34]
            rw [hpp] at hpt
            have ha := hpt t.a (by simp)
            have hb := hpt t.b (by simp)
            obtain ⟨ma, hma⟩ : ∃ ma : Nat, t.a = ma := ⟨t.a.toNat, by omega⟩
            obtain ⟨mb, hmb⟩ : ∃ mb : Nat, t.b = mb := ⟨t.b.toNat, by omega⟩
            obtain ⟨ua, hua⟩ : ∃ u, bs[ma]? = some u := ⟨bs[ma]'(by omega), List.getElem?_eq_getElem _⟩
            have cA := HX.out.1.cell hua
            have fA := HX.out.1.free ma
            have h1 := HX.out.1.set ma true
            obtain ⟨ub, hub⟩ : ∃ u, (bs.set ma true)[mb]? = some u := ⟨(bs.set ma true)[mb]'(by rw [List.length_set]; omega), List.getElem?_eq_getElem _⟩
            have cB := h1.cell hub
            have fB := h1.free mb
            rw [hma] at y2
            rw [hmb] at y3
            obtain ⟨_, _, _, z3, _, _, _⟩ := six6 ((set_other W0 w.heap.size ma wr.heap.size (.bool true) (by omega)).trans HX.out.2.1)
            rw [hmb] at z3
            have p0 : (0 : Int) ≤ (ma : Int) := by omega
            have p1 : (ma : Int) < (id : Int) + 1 := by omega
            have p2 : (0 : Int) ≤ (mb : Int) := by omega
            have p3 : (mb : Int) < (id : Int) + 1 := by omega
            have hm : Nds L id ts ((bs.set ma true).set mb true) ((n : Int) - 1) := HJ.out.1.mark HS.out.2.2 HJ.out.2.1 HJ.out.2.2 (by simp) (fun m => by
              rw [set_true (by rw [List.length_set]; omega), set_true (by omega), hpp, hma, hmb]
              simp only [List.mem_cons, List.not_mem_nil, or_false]
              exact or_two _ m ma mb) (fun p hp => (by rw [hpp] at hp; exact (hpt p hp).1))
            have hkk : (t.kind == 3) = true ∨ ((t.kind == 3) = false ∧ (t.kind == 4) = true) := by
              rcases k34 with e | e
              · exact .inl (by rw [e]; rfl)
              · exact .inr ⟨by rw [e]; rfl, by rw [e]; rfl⟩
            have HQ : Hid _ := And.intro hm (h1.set mb true)
            clear hm h1 hpt hpp k34 ha hb hma hmb HJ hua hub
            rcases hkk with e3 | ⟨e3, e4⟩
            all_goals
              go_upto_region 11 with fail
              go_region
              go_wp2_with fail
              go_roundg n
              case measure => omega
              case rel => exact ⟨(n : Int) - 1, _, by omega, by omega, by omega, by go_num, HQ.out.1, HQ.out.2.below ((Below.refl _ _).drew)⟩
          have n3 : (t.kind == 3) = false := by rw [beq_eq_false_iff_ne]; omega
          have n4 : (t.kind == 4) = false := by rw [beq_eq_false_iff_ne]; omega
          by_cases k256 : t.kind = 2 ∨ t.kind = 5 ∨ t.kind = 6
          · have hpp : t.parts = [t.a] := by unfold Tm.parts; rw [if_pos k256]
            rw [hpp] at hpt
            have ha := hpt t.a (by simp)
            obtain ⟨ma, hma⟩ : ∃ ma : Nat, t.a = ma := ⟨t.a.toNat, by omega⟩
            obtain ⟨ua, hua⟩ : ∃ u, bs[ma]? = some u := ⟨bs[ma]'(by omega), List.getElem?_eq_getElem _⟩
            have cA := HX.out.1.cell hua
            have fA := HX.out.1.free ma
            rw [hma] at y2
            have p0 : (0 : Int) ≤ (ma : Int) := by omega
            have p1 : (ma : Int) < (id : Int) + 1 := by omega
            have hm : Nds L id ts (bs.set ma true) ((n : Int) - 1) := HJ.out.1.mark HS.out.2.2 HJ.out.2.1 HJ.out.2.2 (by simp) (fun m => by
              rw [set_true (by omega), hpp, hma]
              simp only [List.mem_cons, List.not_mem_nil, or_false]
              have e : (m = ma) ↔ ((m : Int) = (ma : Int)) := by omega
              rw [e]) (fun p hp => (by rw [hpp] at hp; exact (hpt p hp).1))
            have hkk : (t.kind == 2) = true ∨ ((t.kind == 2) = false ∧ (t.kind == 5) = true) ∨ ((t.kind == 2) = false ∧ (t.kind == 5) = false ∧ (t.kind == 6) = true) := by
              rcases k256 with e | e | e
              · exact .inl (by rw [e]; rfl)
              · exact .inr (.inl ⟨by rw [e]; rfl, by rw [e]; rfl⟩)
              · exact .inr (.inr ⟨by rw [e]; rfl, by rw [e]; rfl, by rw [e]; rfl⟩)
            have HQ : Hid _ := And.intro hm (HX.out.1.set ma true)
            clear hm hpt hpp k34 k256 ha hma HJ hua
            rcases hkk with e2 | ⟨e2, e5⟩ | ⟨e2, e5, e6⟩
            all_goals
              go_wp2_with fail
              go_roundg n
              case measure => omega
              case rel => exact ⟨(n : Int) - 1, _, by omega, by omega, by omega, by go_num, HQ.out.1, HQ.out.2⟩
          · have n2 : (t.kind == 2) = false := by rw [beq_eq_false_iff_ne]; omega
            have n5 : (t.kind == 5) = false := by rw [beq_eq_false_iff_ne]; omega
            have n6 : (t.kind == 6) = false := by rw [beq_eq_false_iff_ne]; omega
            have hpp : t.parts = [] := by unfold Tm.parts; rw [if_neg k256, if_neg k34]
            have hm : Nds L id ts bs ((n : Int) - 1) := HJ.out.1.mark HS.out.2.2 HJ.out.2.1 HJ.out.2.2 rfl (fun m => by rw [hpp]; simp) (fun p hp => (by rw [hpp] at hp; cases hp))
            have HQ : Hid _ := And.intro hm HX.out.1
            clear hm hpt hpp k34 k256 HJ
            go_wp2_with fail
            go_roundg n
            case measure => omega
            case rel => exact ⟨(n : Int) - 1, _, by omega, by omega, by omega, by go_num, HQ.out.1, HQ.out.2⟩
    · obtain rfl : i = -1 := by omega
      have HQ : Hid _ := And.intro hNd hRb
      clear hNd hRb
      go_wp2_with fail
      go_ret
      exact ⟨rfl, bs, HQ.out.2, HQ.out.1.len, HQ.out.1.fin HS.out.2.2⟩
end Go.Proofs.YthnenpncajpibaaGreatDoor
