/- Contract of the document's Weight. -/
import Derived.Test.YthnenpncajpibaaGreatDoorRtRa
namespace Go.Proofs.YthnenpncajpibaaGreatDoor
open Go.RowKit Go.Maps
attribute [local go_sem ↓] Go.wp_at_zero Go.wp_at_succ
/-- What is known of the weights so far. -/
def Wns (L : List Tm) (xs : List Int) (i : Nat) : Prop := ∀ q, q < i → xs[q]? = some ((Tm.wt L q : Nat) : Int)
theorem Wns.next {L : List Tm} {xs : List Int} {i : Nat} (h : Wns L xs i) (hi : i < xs.length) : Wns L (xs.set i ((Tm.wt L i : Nat) : Int)) (i + 1) := fun q hq => by
  rcases Nat.lt_or_ge q i with e | e
  · rw [List.getElem?_set_ne (by omega)]; exact h q e
  · obtain rfl : q = i := by omega
    rw [List.getElem?_set_self hi]
set_option maxRecDepth 100000 in
set_option maxHeartbeats 8000000 in
theorem rweight_any (b : Nat) (L : List Tm) (F : Nat → Prop) (id : Nat) (w : World) (hS : RStoB w b L F) (hG : Tm.Good L) (hid : id < L.length) :
    Calls Tryz.prog 13 #[.pointer (some ⟨b, 0, none⟩), .int .i64 id] w fun r w' => r = .returned (.int .i64 ((Tm.wt L id : Nat) : Int)) ∧ Below w.heap.size w w' := by
  have hbig := hS.big
  obtain ⟨ao, cap0, hc0⟩ := hS.cell
  have hH := rhas_any b ao L.length cap0 (id : Int) w hc0
  have hh1 : Tm.has L.length (id : Int) = true := by simp [Tm.has]; omega
  rw [hh1] at hH
  have hmk := make_ints (id + 1) (by omega) w
  have e1 : ((id + 1 : Nat) : Int) = (id : Int) + 1 := by omega
  rw [e1] at hmk
  have HS : Hid _ := And.intro hS hG
  have h0 : Ra w (w.alloc (.cells (madeI (id + 1)) 3)) w.heap.size (List.replicate (id + 1) 0) := ⟨(Below.refl _ _).alloc (Nat.le_refl _) _, ⟨_, (MapKept.heap_alloc w _).1, madeI_eq _⟩, Nat.le_refl _⟩
  have HR0 : Hid _ := h0
  have HH : Hid _ := hH
  clear hS hG h0 e1 hH hh1 hc0
  go_enter Tryz.func13, Tryz.ntmps13
  go_wp2_with fail
  refine Calls.mono HH.out ?_
  rintro r w1 ⟨rfl, hw⟩
  obtain rfl := hw.symm
  clear HH
  go_wp2_with fail
  clear hmk
  go_loopg [6] (id + 1) (fun q iv wr => ∃ (i : Nat) (xs : List Int), q = id + 1 - i ∧ i ≤ id + 1 ∧ iv = .int .i64 i ∧ xs.length = id + 1 ∧ Wns L xs i ∧ Ra w wr w.heap.size xs)
  case atStart => exact ⟨0, _, rfl, Nat.zero_le _, rfl, by simp, fun q h => by omega, HR0.out⟩
  case round =>
    obtain ⟨i, xs, rfl, hi, rfl, hxl, hNo, hRa⟩ := hrel
    clear HR0
    by_cases hlt : i ≤ id
    · obtain ⟨t, ht⟩ : ∃ t, L[i]? = some t := ⟨L[i]'(by omega), List.getElem?_eq_getElem _⟩
      obtain ⟨g, cap, vn, vp, hA⟩ := HS.out.1.at ht
      obtain ⟨c0, x0, x1, x2, x3, x4, x5, hn0, hp0⟩ := hA
      have c0 := cell_up c0 hRa.bl
      have x0 := cell_up x0 hRa.bl
      have x1 := cell_up x1 hRa.bl
      have x2 := cell_up x2 hRa.bl
      have x3 := cell_up x3 hRa.bl
      have x4 := cell_up x4 hRa.bl
      have x5 := cell_up x5 hRa.bl
      obtain ⟨an, cn, rfl, _⟩ := _root_.id hn0
      obtain ⟨ap, cp, rfl, _⟩ := _root_.id hp0
      have q0 : (0 : Int) ≤ (i : Int) := by omega
      have q1 : (i : Int) < (L.length : Int) := by omega
      have q2 : (i : Int) ≤ (id : Int) := by omega
      have q3 : (i : Int) < (id : Int) + 1 := by omega
      have hpt := good_parts HS.out.2 ht
      have hwt := wt_of HS.out.2 ht
      obtain ⟨W0, hW0⟩ : ∃ W0, W0 = wr.alloc (.cells #[.int .i64 t.kind, .int .i64 t.label, .int .i64 t.a, .int .i64 t.b, .slice an t.names.length cn, .slice ap t.pairs.length cp] 35) := ⟨_, rfl⟩
      have hb0 : Below wr.heap.size wr W0 := by rw [hW0]; exact (Below.refl _ _).alloc (Nat.le_refl _) _
      have hR0 := hRa.below hb0
      have hX0 : W0.heap[wr.heap.size]? = some (.cells #[.int .i64 t.kind, .int .i64 t.label, .int .i64 t.a, .int .i64 t.b, .slice an t.names.length cn, .slice ap t.pairs.length cp] 35 (0, 0)) := by rw [hW0]; exact (MapKept.heap_alloc wr _).1
      have cI := hR0.cell (i := i) (x := xs[i]'(by omega)) (List.getElem?_eq_getElem _)
      have cF := hR0.free i
      rw [hW0] at cI cF
      have hgl := hRa.lt
      have hR1 := hR0.set i 1
      have hX1 := (set_other W0 w.heap.size i wr.heap.size (.int .i64 1) (by omega)).trans hX0
      have HA : Hid (Wns L xs i ∧ Tm.wt L i = min (1 + ((t.parts.map fun p => Tm.wt L p.toNat).sum)) 65537) := ⟨hNo, hwt⟩
      have HX : Hid _ := And.intro hR1 (And.intro hX1 hW0)
      have HP : Hid _ := hpt
      clear hR0 hX0 hR1 hX1 hb0 hW0 hRa hNo hn0 hp0 hpt hwt ht
      go_upto_region 8 with fail
      rw [← HX.out.2.2] at cI cF ⊢
      go_upto_region 9 with fail
      obtain ⟨W6, hW6⟩ : ∃ W6, W6 = W0.setCell ⟨w.heap.size, i, none⟩ (.int .i64 1) := ⟨_, rfl⟩
      rw [← hW6]
      have hR6 := HX.out.1
      have hX6 := HX.out.2.1
      rw [← hW6] at hR6 hX6
      obtain ⟨y0, y1, y2, y3, y4, y5, yf⟩ := six6 hX6
      have H6 : Hid (Ra w W6 w.heap.size (xs.set i 1)) := hR6
      have c6 := hR6.cell (i := i) (x := 1) (by rw [List.getElem?_set_self (by omega)])
      have f6 := hR6.free i
      clear hR6 hX6 hW6 HX x0 x1 x2 x3 x4 x5 c0 cI cF yf
      by_cases k34 : t.kind = 3 ∨ t.kind = 4
      · have hpp : t.parts = [t.a, t.b] := by unfold Tm.parts; rw [if_neg (by omega), if_pos k34]
        have hpt := HP.out
        rw [hpp] at hpt
        have ha := hpt t.a (by simp)
        have hb := hpt t.b (by simp)
        obtain ⟨ma, hma⟩ : ∃ ma : Nat, t.a = ma := ⟨t.a.toNat, by omega⟩
        obtain ⟨mb, hmb⟩ : ∃ mb : Nat, t.b = mb := ⟨t.b.toNat, by omega⟩
        have cA := H6.out.cell (i := ma) (x := ((Tm.wt L ma : Nat) : Int)) (by rw [List.getElem?_set_ne (by omega)]; exact HA.out.1 ma (by omega))
        have cB := H6.out.cell (i := mb) (x := ((Tm.wt L mb : Nat) : Int)) (by rw [List.getElem?_set_ne (by omega)]; exact HA.out.1 mb (by omega))
        rw [hma] at y2
        rw [hmb] at y3
        have wa := wt_le L ma
        have wb := wt_le L mb
        have p0 : (0 : Int) ≤ (ma : Int) := by omega
        have p1 : (ma : Int) < (id : Int) + 1 := by omega
        have p2 : (0 : Int) ≤ (mb : Int) := by omega
        have p3 : (mb : Int) < (id : Int) + 1 := by omega
        have hkk : (t.kind == 3) = true ∨ ((t.kind == 3) = false ∧ (t.kind == 4) = true) := by
          rcases k34 with e | e
          · exact .inl (by rw [e]; rfl)
          · exact .inr ⟨by rw [e]; rfl, by rw [e]; rfl⟩
        have hwz : Tm.wt L i = min (1 + (Tm.wt L ma + Tm.wt L mb)) 65537 := by rw [HA.out.2, hpp]; simp [hma, hmb]
        have HQ : Hid _ := hwz
        clear hwz hpt hpp k34 ha hb hma hmb
        generalize Tm.wt L ma = za at *
        generalize Tm.wt L mb = zb at *
        have wr1 : IntKind.i64.wrap (1 + (za : Int)) = 1 + (za : Int) := by rw [IntKind.wrap_i64]; omega
        have wr2 : IntKind.i64.wrap (1 + (za : Int) + (zb : Int)) = 1 + (za : Int) + (zb : Int) := by rw [IntKind.wrap_i64]; omega
        rcases hkk with e3 | ⟨e3, e4⟩
        all_goals
          go_upto_region 12 with fail
          go_region
          go_upto_region 17 with fail
          obtain ⟨z, hz0⟩ : ∃ z : Nat, z = 1 + za + zb := ⟨_, rfl⟩
          obtain ⟨WB, hWB⟩ : ∃ WB, WB = (W6.setCell ⟨w.heap.size, i, none⟩ (.int .i64 (1 + (za : Int) + (zb : Int)))).drew := ⟨_, rfl⟩
          rw [← hWB]
          have hRb : Ra w WB w.heap.size (xs.set i (z : Int)) := by
            have h1 := H6.out.set i (z : Int)
            rw [List.set_set] at h1
            have e9 : (z : Int) = 1 + (za : Int) + (zb : Int) := by omega
            rw [hWB, ← e9]
            exact h1.below ((Below.refl _ _).drew)
          have HB : Hid (Ra w WB w.heap.size (xs.set i (z : Int)) ∧ Tm.wt L i = min z 65537) := ⟨hRb, by rw [HQ.out, hz0, Nat.add_assoc]⟩
          clear hRb hWB HQ H6 y0 y1 y2 y3 y4 y5 c6 f6 cA cB hz0 wr1 wr2 wa wb
          -- HB: the numbers, and what the round's number is (z)
          have cI := HB.out.1.cell (i := i) (x := (z : Int)) (by rw [List.getElem?_set_self (by omega)])
          have cF := HB.out.1.free i
          by_cases hz : 65537 < z
          · have h1 : (65537 : Int) < (z : Int) := by omega
            have HW : Hid (Tm.wt L i = 65537) := (by rw [HB.out.2]; omega : Tm.wt L i = 65537)
            go_wp2_with fail
            go_roundg (id + 1 - (i + 1))
            case measure => omega
            case rel => exact ⟨i + 1, xs.set i 65537, rfl, by omega, by go_num, by rw [List.length_set]; exact hxl, by have h9 := HA.out.1.next (by omega : i < xs.length); rw [HW.out] at h9; exact h9, by have h7 := HB.out.1.set i 65537; rw [List.set_set] at h7; exact h7⟩
          · have h1 : ¬ (65537 : Int) < (z : Int) := by omega
            have HW : Hid (Tm.wt L i = z) := (by rw [HB.out.2]; omega : Tm.wt L i = z)
            go_wp2_with fail
            go_roundg (id + 1 - (i + 1))
            case measure => omega
            case rel => exact ⟨i + 1, xs.set i (z : Int), rfl, by omega, by go_num, by rw [List.length_set]; exact hxl, by have h9 := HA.out.1.next (by omega : i < xs.length); rw [HW.out] at h9; exact h9, HB.out.1⟩
      have n3 : (t.kind == 3) = false := by rw [beq_eq_false_iff_ne]; omega
      have n4 : (t.kind == 4) = false := by rw [beq_eq_false_iff_ne]; omega
      by_cases k256 : t.kind = 2 ∨ t.kind = 5 ∨ t.kind = 6
      · have hpp : t.parts = [t.a] := by unfold Tm.parts; rw [if_pos k256]
        have hpt := HP.out
        rw [hpp] at hpt
        have ha := hpt t.a (by simp)
        obtain ⟨ma, hma⟩ : ∃ ma : Nat, t.a = ma := ⟨t.a.toNat, by omega⟩
        have cA := H6.out.cell (i := ma) (x := ((Tm.wt L ma : Nat) : Int)) (by rw [List.getElem?_set_ne (by omega)]; exact HA.out.1 ma (by omega))
        rw [hma] at y2
        have wa := wt_le L ma
        have p0 : (0 : Int) ≤ (ma : Int) := by omega
        have p1 : (ma : Int) < (id : Int) + 1 := by omega
        have hkk : (t.kind == 2) = true ∨ ((t.kind == 2) = false ∧ (t.kind == 5) = true) ∨ ((t.kind == 2) = false ∧ (t.kind == 5) = false ∧ (t.kind == 6) = true) := by
          rcases k256 with e | e | e
          · exact .inl (by rw [e]; rfl)
          · exact .inr (.inl ⟨by rw [e]; rfl, by rw [e]; rfl⟩)
          · exact .inr (.inr ⟨by rw [e]; rfl, by rw [e]; rfl, by rw [e]; rfl⟩)
        have hwz : Tm.wt L i = min (1 + Tm.wt L ma) 65537 := by rw [HA.out.2, hpp]; simp [hma]
        have HQ : Hid _ := hwz
        clear hwz hpt hpp k34 k256 ha hma
        generalize Tm.wt L ma = za at *
        have wr1 : IntKind.i64.wrap (1 + (za : Int)) = 1 + (za : Int) := by rw [IntKind.wrap_i64]; omega
        rcases hkk with e2 | ⟨e2, e5⟩ | ⟨e2, e5, e6⟩
        all_goals
          go_upto_region 17 with fail
          obtain ⟨z, hz0⟩ : ∃ z : Nat, z = 1 + za := ⟨_, rfl⟩
          obtain ⟨WB, hWB⟩ : ∃ WB, WB = W6.setCell ⟨w.heap.size, i, none⟩ (.int .i64 (1 + (za : Int))) := ⟨_, rfl⟩
          rw [← hWB]
          have hRb : Ra w WB w.heap.size (xs.set i (z : Int)) := by
            have h1 := H6.out.set i (z : Int)
            rw [List.set_set] at h1
            have e9 : (z : Int) = 1 + (za : Int) := by omega
            rw [hWB, ← e9]
            exact h1
          have HB : Hid (Ra w WB w.heap.size (xs.set i (z : Int)) ∧ Tm.wt L i = min z 65537) := ⟨hRb, by rw [HQ.out, hz0]⟩
          clear hRb hWB HQ H6 y0 y1 y2 y3 y4 y5 c6 f6 cA hz0 wr1 wa
          -- HB: the numbers, and what the round's number is (z)
          have cI := HB.out.1.cell (i := i) (x := (z : Int)) (by rw [List.getElem?_set_self (by omega)])
          have cF := HB.out.1.free i
          by_cases hz : 65537 < z
          · have h1 : (65537 : Int) < (z : Int) := by omega
            have HW : Hid (Tm.wt L i = 65537) := (by rw [HB.out.2]; omega : Tm.wt L i = 65537)
            go_wp2_with fail
            go_roundg (id + 1 - (i + 1))
            case measure => omega
            case rel => exact ⟨i + 1, xs.set i 65537, rfl, by omega, by go_num, by rw [List.length_set]; exact hxl, by have h9 := HA.out.1.next (by omega : i < xs.length); rw [HW.out] at h9; exact h9, by have h7 := HB.out.1.set i 65537; rw [List.set_set] at h7; exact h7⟩
          · have h1 : ¬ (65537 : Int) < (z : Int) := by omega
            have HW : Hid (Tm.wt L i = z) := (by rw [HB.out.2]; omega : Tm.wt L i = z)
            go_wp2_with fail
            go_roundg (id + 1 - (i + 1))
            case measure => omega
            case rel => exact ⟨i + 1, xs.set i (z : Int), rfl, by omega, by go_num, by rw [List.length_set]; exact hxl, by have h9 := HA.out.1.next (by omega : i < xs.length); rw [HW.out] at h9; exact h9, HB.out.1⟩
      · have n2 : (t.kind == 2) = false := by rw [beq_eq_false_iff_ne]; omega
        have n5 : (t.kind == 5) = false := by rw [beq_eq_false_iff_ne]; omega
        have n6 : (t.kind == 6) = false := by rw [beq_eq_false_iff_ne]; omega
        have hpp : t.parts = [] := by unfold Tm.parts; rw [if_neg k256, if_neg k34]
        have hwz : Tm.wt L i = min 1 65537 := by rw [HA.out.2, hpp]; simp
        obtain ⟨z, hz0⟩ : ∃ z : Nat, z = 1 := ⟨_, rfl⟩
        have HB : Hid (Ra w W6 w.heap.size (xs.set i (z : Int)) ∧ Tm.wt L i = min z 65537) := ⟨by rw [hz0]; exact H6.out, by rw [hz0]; exact hwz⟩
        clear hwz hpp k34 k256 H6 c6 f6
        go_upto_region 17 with fail
        clear y0 y1 y2 y3 y4 y5 hz0
        -- HB: the numbers, and what the round's number is (z)
        have cI := HB.out.1.cell (i := i) (x := (z : Int)) (by rw [List.getElem?_set_self (by omega)])
        have cF := HB.out.1.free i
        by_cases hz : 65537 < z
        · have h1 : (65537 : Int) < (z : Int) := by omega
          have HW : Hid (Tm.wt L i = 65537) := (by rw [HB.out.2]; omega : Tm.wt L i = 65537)
          go_wp2_with fail
          go_roundg (id + 1 - (i + 1))
          case measure => omega
          case rel => exact ⟨i + 1, xs.set i 65537, rfl, by omega, by go_num, by rw [List.length_set]; exact hxl, by have h9 := HA.out.1.next (by omega : i < xs.length); rw [HW.out] at h9; exact h9, by have h7 := HB.out.1.set i 65537; rw [List.set_set] at h7; exact h7⟩
        · have h1 : ¬ (65537 : Int) < (z : Int) := by omega
          have HW : Hid (Tm.wt L i = z) := (by rw [HB.out.2]; omega : Tm.wt L i = z)
          go_wp2_with fail
          go_roundg (id + 1 - (i + 1))
          case measure => omega
          case rel => exact ⟨i + 1, xs.set i (z : Int), rfl, by omega, by go_num, by rw [List.length_set]; exact hxl, by have h9 := HA.out.1.next (by omega : i < xs.length); rw [HW.out] at h9; exact h9, HB.out.1⟩
    · obtain rfl : i = id + 1 := by omega
      have q2 : ¬ (((id + 1 : Nat) : Int) ≤ (id : Int)) := by omega
      have cI := hRa.cell (hNo id (by omega))
      have q3 : (0 : Int) ≤ (id : Int) := by omega
      have q4 : (id : Int) < (id : Int) + 1 := by omega
      have HB : Hid _ := hRa.bl
      clear hRa hNo
      go_wp2_with fail
      go_ret
      exact ⟨rfl, HB.out⟩
end Go.Proofs.YthnenpncajpibaaGreatDoor
