/- Contract of Weight. -/
import Derived.Test.YthnenpncajpibaaGreatDoorTmWithin
namespace Go.Proofs.YthnenpncajpibaaGreatDoor
open Go.RowKit Go.Maps
attribute [local go_sem ↓] Go.wp_at_zero Go.wp_at_succ
namespace Tm
/-- The weights of the first n terms. -/
def wtl (L : List Tm) : Nat → List Nat
  | 0 => []
  | n + 1 => wtl L n ++ [match L[n]? with | some t => min (1 + ((t.parts.map fun p => (wtl L n).getD p.toNat 0).sum)) 65537 | none => 0]
def wt (L : List Tm) (z : Nat) : Nat := (wtl L (z + 1)).getD z 0
end Tm
theorem wtl_length (L : List Tm) : ∀ n, (Tm.wtl L n).length = n
  | 0 => rfl
  | n + 1 => by rw [Tm.wtl, List.length_append, wtl_length L n]; rfl
theorem wtl_get (L : List Tm) : ∀ n z, z < n → (Tm.wtl L n).getD z 0 = Tm.wt L z
  | 0, z, h => by omega
  | n + 1, z, h => by
    rcases Nat.lt_or_ge z n with h1 | h1
    · rw [Tm.wtl, List.getD_eq_getElem?_getD, List.getElem?_append_left (by rw [wtl_length]; exact h1), ← List.getD_eq_getElem?_getD]
      exact wtl_get L n z h1
    · obtain rfl : z = n := by omega
      rfl
theorem wt_of {L : List Tm} (hG : Tm.Good L) {m : Nat} {t : Tm} (h : L[m]? = some t) : Tm.wt L m = min (1 + ((t.parts.map fun p => Tm.wt L p.toNat).sum)) 65537 := by
  have e : t.parts.map (fun p => (Tm.wtl L m).getD p.toNat 0) = t.parts.map fun p => Tm.wt L p.toNat := List.map_congr_left fun p hp => wtl_get L m _ (by have := good_parts hG h p hp; omega)
  have hl := wtl_length L m
  unfold Tm.wt
  rw [Tm.wtl, h]
  simp only
  rw [e, List.getD_eq_getElem?_getD, List.getElem?_append_right (by omega), hl]
  simp [Tm.wt]
theorem wt_le (L : List Tm) (z : Nat) : Tm.wt L z ≤ 65537 := by
  unfold Tm.wt
  rw [Tm.wtl]
  rw [List.getD_eq_getElem?_getD, List.getElem?_append_right (by rw [wtl_length]; exact Nat.le_refl _), wtl_length]
  simp
  split
  · exact Nat.min_le_right _ _
  · omega
/-- The weights that are known. -/
def Wts (L : List Tm) (ts : List Int) (j : Nat) (D : DataW Unit) : Prop := ∀ (q : Nat) (z : Int), q < j → ts[q]? = some z → D.atKey (.int .i64 z) (.lit (.int .i64 0)) = .lit (.int .i64 (Tm.wt L z.toNat))
theorem Wts.next {L : List Tm} {ts : List Int} {j : Nat} {D : DataW Unit} (h : Wts L ts j D) (hD : IsMap D) {z : Int} (hz : ts[j]? = some z) (hr : ts.Pairwise (· < ·)) : Wts L ts (j + 1) (D.put (.int .i64 z) (.lit (.int .i64 (Tm.wt L z.toNat)))) := fun q y hq hy => by
  rcases Nat.lt_or_ge q j with h1 | h1
  · have hne : y ≠ z := by
      obtain ⟨hq', rfl⟩ := List.getElem?_eq_some_iff.1 hy
      obtain ⟨hj', rfl⟩ := List.getElem?_eq_some_iff.1 hz
      have := List.pairwise_iff_getElem.1 hr q j hq' hj' h1
      omega
    rw [atKey_put_other (fun e => hne (by injection e))]
    exact h q y h1 hy
  · obtain rfl : q = j := by omega
    rw [hz] at hy
    cases hy
    exact atKey_put_same hD (ikey _) _ _
/-- A part of a term that stands there is known. -/
theorem Wts.part {L : List Tm} {id : Int} {ts : List Int} {j : Nat} {D : DataW Unit} (h : Wts L ts j D) (hw : Withi L id ts) (hG : Tm.Good L) {m : Nat} {t : Tm} (hz : ts[j]? = some (m : Int)) (ht : L[m]? = some t) {p : Int} (hp : p ∈ t.parts) : D.atKey (.int .i64 p) (.lit (.int .i64 0)) = .lit (.int .i64 (Tm.wt L p.toNat)) := by
  have hc := hw.closed (m : Int) (List.mem_of_getElem? hz) p (by rw [partsAt_of ht]; exact hp)
  have hlt := good_parts hG ht p hp
  obtain ⟨q, hq, rfl⟩ := List.getElem_of_mem hc
  obtain ⟨hj, he⟩ := List.getElem?_eq_some_iff.1 hz
  refine h q _ ?_ (List.getElem?_eq_getElem hq)
  rcases Nat.lt_or_ge q j with h1 | h1
  · exact h1
  · exfalso
    rcases Nat.lt_or_ge j q with h2 | h2
    · have := List.pairwise_iff_getElem.1 hw.rise j q hj hq h2
      omega
    · obtain rfl : q = j := by omega
      omega
/-- The sum so far. -/
def wsum (L : List Tm) (ps : List Int) (k : Nat) : Nat := 1 + (((ps.take k).map fun p => Tm.wt L p.toNat).sum)
theorem wsum_next {L : List Tm} {ps : List Int} {k : Nat} {p : Int} (h : ps[k]? = some p) : wsum L ps (k + 1) = wsum L ps k + Tm.wt L p.toNat := by
  unfold wsum
  rw [take_succ_of h, List.map_append, List.sum_append]
  simp; omega
theorem sum_le : ∀ (l : List Nat), (∀ x ∈ l, x ≤ 65537) → l.sum ≤ l.length * 65537
  | [], _ => by simp
  | x :: r, h => by
    have h1 := sum_le r fun y hy => h y (by simp [hy])
    have h2 := h x (by simp)
    simp only [List.sum_cons, List.length_cons, Nat.succ_mul]
    omega
theorem wsum_le (L : List Tm) (ps : List Int) (k : Nat) (hl : ps.length ≤ 2) : wsum L ps k ≤ 200000 := by
  unfold wsum
  have h := sum_le ((ps.take k).map fun p => Tm.wt L p.toNat) fun x hx => by
    obtain ⟨p, _, rfl⟩ := List.mem_map.1 hx
    exact wt_le L _
  rw [List.length_map] at h
  have h2 : (ps.take k).length ≤ ps.length := List.length_take_le' _ _
  have h3 : (ps.take k).length * 65537 ≤ 2 * 65537 := Nat.mul_le_mul_right _ (by omega)
  omega
/-- The list, the weights. -/
structure QMem (w wr : World) (v : Value) (ts : List Int) (bm n : Nat) (D : DataW Unit) : Prop where
  bl : Below w.heap.size w wr
  row : OwnI wr w.heap.size v ts
  map : wr.ownsMap (H := Unit) Tryz.prog 3 (plainElem Tryz.prog 3) bm n D
  up : w.heap.size ≤ bm
theorem QMem.below {w wr w1 : World} {v : Value} {ts : List Int} {bm n : Nat} {D : DataW Unit} (h : QMem w wr v ts bm n D) (hb : Below wr.heap.size wr w1) : QMem w w1 v ts bm n D :=
  ⟨h.bl.trans (hb.mono h.bl.size), trow_at h.row fun i hi => hb.block i (h.row.lt i hi).2, map_at h.map (hb.block _ h.map.lt), h.up⟩
theorem QMem.put {w wr w2 : World} {v : Value} {ts : List Int} {bm n n' : Nat} {D E : DataW Unit} (h : QMem w wr v ts bm n D) (ho : w2.ownsMap (H := Unit) Tryz.prog 3 (plainElem Tryz.prog 3) bm n' E) (hg : wr.grownBy w2 (some bm)) : QMem w w2 v ts bm n' E := by
  refine ⟨h.bl.grown hg h.bl.size (fun k hk => by have := Option.some.inj hk; have := h.up; omega), trow_at h.row fun i hi => hg.block i (h.row.lt i hi).2 fun e => ?_, ho, h.up⟩
  obtain ⟨c, hc⟩ := row_cells h.row hi
  exact map_ne hc h.map (Option.some.inj e)
set_option maxRecDepth 100000 in
set_option maxHeartbeats 1600000 in
theorem weight_yes (b : Nat) (L : List Tm) (F : Nat → Prop) (id : Nat) (w : World) (hS : StoB w b L F) (hG : Tm.Good L) (hid : id < L.length) :
    Calls Tryz.prog 9 #[.pointer (some ⟨b, 0, none⟩), .int .i64 id] w fun r w' => r = .returned (.tuple #[.int .i64 (Tm.wt L id), .nilIface]) ∧ Below w.heap.size w w' := by
  have hbig := hS.big
  obtain ⟨ao, cap, hc⟩ := hS.cell
  have hl := lacks_no b ao L.length cap id w hc (by simp [Tm.has]; omega)
  have hb0 : Below w.heap.size w (w.alloc (.map #[] 0)) := (Below.refl _ _).alloc (Nat.le_refl _) _
  have hwi := within_any b L F id (w.alloc (.map #[] 0)) (hS.below hb0) hG hid
  have hmade := World.ownsMap_made (H := Unit) w Tryz.prog 3 (plainElem Tryz.prog 3)
  have hmm := @run_makeMap Tryz.prog
  have HL : Hid _ := And.intro hl (And.intro hwi (And.intro hmade hb0))
  have HS : Hid _ := And.intro hS hG
  clear hl hwi hmade hb0 hS hG hc
  go_enter Tryz.func9, Tryz.ntmps9
  go_wp2_with fail
  refine HL.out.1.mono ?_
  rintro r w1 ⟨rfl, hw⟩
  obtain rfl := hw.symm
  go_wp2_with fail
  refine HL.out.2.1.mono ?_
  rintro r w1 ⟨v, ts, rfl, hO, hWi, hb1⟩
  have hQ : QMem w w1 v ts w.heap.size 0 (.map []) := ⟨HL.out.2.2.2.trans (hb1.mono HL.out.2.2.2.size), row_base hO HL.out.2.2.2.size, map_at HL.out.2.2.1 (hb1.block _ HL.out.2.2.1.lt), Nat.le_refl _⟩
  obtain ⟨g, capt, rfl, hgB, htc⟩ := hQ.row.form (fun e => by have := hWi.head; rw [e] at this; simp at this)
  have htl : ts.length ≤ L.length := nodup_le _ _ (hWi.rise.imp fun h => by omega) hWi.range
  obtain ⟨n, hn⟩ : ∃ n, n = ts.length := ⟨_, rfl⟩
  rw [← hn] at htl htc ⊢
  have HQ : Hid _ := And.intro hQ (And.intro hWi hn)
  clear hQ hO hWi hb1 hn hmm
  go_wp2_with fail
  go_loopg [24] n (fun q iv wr => ∃ (j : Nat) (D : DataW Unit), q = n - j ∧ j ≤ n ∧ iv = .int .i64 j ∧ Wts L ts j D ∧ QMem w wr (.slice (some ⟨g, 0, none⟩) n capt) ts w.heap.size j D)
  case atStart => exact ⟨0, .map [], rfl, Nat.zero_le _, rfl, fun q z h => by omega, by rw [HQ.out.2.2]; exact HQ.out.1⟩
  case round =>
    obtain ⟨j, D, rfl, hj, rfl, hWt, hQ⟩ := hrel
    by_cases hlt : j < n
    · obtain ⟨z, hz⟩ : ∃ z, ts[j]? = some z := ⟨ts[j]'(by have := HQ.out.2.2; omega), List.getElem?_eq_getElem _⟩
      have hzr := HQ.out.2.1.range z (List.mem_of_getElem? hz)
      obtain ⟨m, rfl⟩ : ∃ m : Nat, z = m := ⟨z.toNat, by omega⟩
      obtain ⟨t, ht⟩ : ∃ t, L[m]? = some t := ⟨L[m]'(by omega), List.getElem?_eq_getElem _⟩
      obtain ⟨gt, ct, vn, vp, hA, _, _, _⟩ := (HS.out.1.below hQ.bl).at ht
      obtain ⟨an, cn, rfl, _⟩ := _root_.id hA.n
      obtain ⟨ap, cp, rfl, _⟩ := _root_.id hA.p
      obtain ⟨c0, x0, x1, x2, x3, x4, x5, _, _⟩ := hA
      have li := hQ.row.cell hz
      have q0 : (0 : Int) ≤ (j : Int) := by omega
      have q1 : (j : Int) < (n : Int) := by omega
      have q2 : (0 : Int) ≤ (m : Int) := by omega
      have q3 : (m : Int) < (L.length : Int) := by omega
      have HP : Hid (∀ W, Calls Tryz.prog 28 #[.agg #[.int .i64 t.kind, .int .i64 t.label, .int .i64 t.a, .int .i64 t.b, .slice an t.names.length cn, .slice ap t.pairs.length cp]] W fun r w' => ∃ v, r = .returned v ∧ OwnI w' W.heap.size v t.parts ∧ Below W.heap.size W w') := fun W => parts_any t _ _ W
      have HI : Hid _ := And.intro hWt (And.intro hQ (And.intro hz ht))
      clear hWt hQ hz ht
      go_wp2_with fail
      refine (HP.out _).mono ?_
      rintro r1 w2 ⟨vq, rfl, hq, hb2⟩
      obtain ⟨aoq, capq, rfl⟩ := row_shape hq
      obtain ⟨k2, hk2⟩ : ∃ k2, k2 = t.parts.length := ⟨_, rfl⟩
      have hk3 : k2 ≤ 2 := by rw [hk2]; exact parts_len t
      rw [← hk2]
      have H2 : Hid _ := And.intro (HI.out.2.1.below hb2) (And.intro hq hk2)
      clear hq hb2 hk2 HP c0 x0 x1 x2 x3 x4 x5 li
      go_wp2_with fail
      go_loopg [10, 37] k2 (fun q wv kv wr => ∃ k : Nat, q = k2 - k ∧ k ≤ k2 ∧ kv = .int .i64 k ∧ wv = .int .i64 (wsum L t.parts k) ∧ w2 = wr)
      case atStart => exact ⟨0, rfl, Nat.zero_le _, rfl, rfl, rfl⟩
      case round =>
        obtain ⟨k, rfl, hk, rfl, rfl, rfl⟩ := hrel
        have hws := wsum_le L t.parts k (by have := H2.out.2.2; omega)
        by_cases hlt2 : k < k2
        · obtain ⟨p, hp⟩ : ∃ p, t.parts[k]? = some p := ⟨t.parts[k]'(by have := H2.out.2.2; omega), List.getElem?_eq_getElem _⟩
          have hpm := List.mem_of_getElem? hp
          have hpr := good_parts HS.out.2 HI.out.2.2.2 p hpm
          have hq := H2.out.2.1
          rw [← H2.out.2.2] at hq
          obtain ⟨gq, capq', hqe, _, _⟩ := hq.form (fun e => by rw [e] at hpm; simp at hpm)
          injection hqe with e1 e2 e3
          subst e1
          have lq := hq.cell hp
          have q4 : (0 : Int) ≤ (k : Int) := by omega
          have q5 : (k : Int) < (k2 : Int) := by omega
          have pw : (Lit.int .i64 p).wf = true := WalkArith.wf_i64 (by omega)
          obtain ⟨c, hrun, hat, _⟩ := H2.out.1.map.lookup_int Tryz.lawI Tryz.underlying77 Tryz.underlying3 (Tryz.zeroI3 w2) (keyOf_int_mk (a := p) Tryz.underlying3 pw)
          rw [HI.out.1.part HQ.out.2.1 HS.out.2 HI.out.2.2.1 HI.out.2.2.2 hpm] at hat
          injection hat with hat
          injection hat with _ hat
          subst hat
          have hwl := wt_le L p.toNat
          have HN : Hid (wsum L t.parts (k + 1) = wsum L t.parts k + Tm.wt L p.toNat) := wsum_next hp
          clear e2 e3 hpm hq hp
          go_wp2_with fail
          go_roundg (k2 - (k + 1))
          case measure => omega
          case rel => exact ⟨k + 1, rfl, by omega, by go_num, by rw [HN.out]; go_num, rfl⟩
        · obtain rfl : k = k2 := by omega
          have q5 : ¬ (k : Int) < (k : Int) := by omega
          have hwt : min (wsum L t.parts k) 65537 = Tm.wt L m := by
            rw [wt_of HS.out.2 HI.out.2.2.2]
            unfold wsum
            rw [H2.out.2.2, List.take_length]
          have hwz : min ((wsum L t.parts k : Nat) : Int) 65537 = ((Tm.wt L m : Nat) : Int) := by rw [← hwt]; omega
          obtain ⟨w3, hrun, ho3, hg3⟩ := H2.out.1.map.update Tryz.lawI Tryz.underlying77 (by unfold maxLen; omega) (keyOf_int_mk (a := (m : Int)) Tryz.underlying3 (WalkArith.wf_i64 (by omega))) (plainElem_int (a := min ((wsum L t.parts k : Nat) : Int) 65537) Tryz.underlying3 (WalkArith.wf_i64 (by omega)))
          have HW : Hid _ := And.intro hwz (And.intro ho3 hg3)
          clear hwt hwz ho3 hg3
          go_wp2_with fail
          go_roundg (n - (j + 1))
          case measure => omega
          case rel =>
            have hN := HI.out.1.next H2.out.1.map.isMap HI.out.2.2.1 HQ.out.2.1.rise
            have hP := H2.out.1.put HW.out.2.1 HW.out.2.2
            rw [HW.out.1] at hP
            exact ⟨j + 1, _, rfl, by omega, by go_num, hN, by simpa using hP⟩
    · obtain rfl : j = n := by omega
      have q1 : ¬ (j : Int) < (j : Int) := by omega
      obtain ⟨q, hq, hqe⟩ := List.getElem_of_mem HQ.out.2.1.head
      obtain ⟨c, hrun, hat, _⟩ := hQ.map.lookup_int Tryz.lawI Tryz.underlying77 Tryz.underlying3 (Tryz.zeroI3 wr) (keyOf_int_mk (a := (id : Int)) Tryz.underlying3 (WalkArith.wf_i64 (by omega)))
      rw [hWt q (id : Int) (by have := HQ.out.2.2; omega) (by rw [List.getElem?_eq_getElem hq, hqe])] at hat
      injection hat with hat
      injection hat with _ hat
      subst hat
      have HB : Hid _ := hQ.bl
      clear hWt hQ hqe
      go_wp2_with fail
      go_ret2
      exact ⟨by simp, HB.out⟩
theorem weight_no (b : Nat) (L : List Tm) (F : Nat → Prop) (i : Int) (T : TypeId) (u : Value) (w : World) (hS : StoB w b L F) (hi : Tm.has L.length i = false) (hE : w.cell? ⟨1, 0, none⟩ = some (.iface T u)) :
    Calls Tryz.prog 9 #[.pointer (some ⟨b, 0, none⟩), .int .i64 i] w fun r w' => r = .returned (.tuple #[.int .i64 0, tFaultV w.heap.size]) ∧ TermFault w' w.heap.size (.iface T u) ∧ Below w.heap.size w w' := by
  obtain ⟨ao, cap, hc⟩ := hS.cell
  have hl := lacks_yes b ao L.length cap i T u w hc hi hE
  unfold tFaultV at hl ⊢
  have HL : Hid _ := hl
  clear hl
  go_enter Tryz.func9, Tryz.ntmps9
  go_wp2_with fail
  refine Calls.mono HL.out ?_
  rintro r w2 ⟨rfl, hF, hb2⟩
  go_wp2_with fail
  go_ret2
  exact ⟨rfl, hF, hb2⟩
end Go.Proofs.YthnenpncajpibaaGreatDoor
