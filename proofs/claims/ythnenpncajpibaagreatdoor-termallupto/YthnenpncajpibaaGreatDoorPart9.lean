/- Texts of this claim, joined: TmWeight, TmAlive, TmBack0, ToldTm, TmTwo. -/
import Derived.Test.YthnenpncajpibaaGreatDoorPart8
import Derived.Test.YthnenpncajpibaaGreatDoorPart3
import Derived.Laws.MakeOwn
import Derived.Deep.QuietTactic
import Derived.BigQuiet
import Derived.WalkSmall
/- Contract of Weight. -/
namespace Go.Proofs.YthnenpncajpibaaGreatDoor
open Go.RowKit Go.Maps
attribute [local go_sem ↓] Go.wp_at_zero Go.wp_at_succ
namespace Tm
/-- The weights of the first n terms. -/
def wtl (L : List Tm) : Nat → List Nat
  | 0 => []
  | n + 1 => wtl L n ++ [match L[n]? with | some t => min (1 + ((t.parts.map fun p => (wtl L n).getD p.toNat 0).sum)) 65537 | none => 0]
def wt (L : List Tm) (z : Nat) : Nat := (wtl L (z + 1)).getD z 0
end Tm
theorem wtl_length (L : List Tm) : ∀ n, (Tm.wtl L n).length = n
  | 0 => rfl
  | n + 1 => by rw [Tm.wtl, List.length_append, wtl_length L n]; rfl
theorem wtl_get (L : List Tm) : ∀ n z, z < n → (Tm.wtl L n).getD z 0 = Tm.wt L z
  | 0, z, h => by omega
  | n + 1, z, h => by
    rcases Nat.lt_or_ge z n with h1 | h1
    · rw [Tm.wtl, List.getD_eq_getElem?_getD, List.getElem?_append_left (by rw [wtl_length]; exact h1), ← List.getD_eq_getElem?_getD]
      exact wtl_get L n z h1
    · obtain rfl : z = n := by omega
      rfl
theorem wt_of {L : List Tm} (hG : Tm.Good L) {m : Nat} {t : Tm} (h : L[m]? = some t) : Tm.wt L m = min (1 + ((t.parts.map fun p => Tm.wt L p.toNat).sum)) 65537 := by
  have e : t.parts.map (fun p => (Tm.wtl L m).getD p.toNat 0) = t.parts.map fun p => Tm.wt L p.toNat := List.map_congr_left fun p hp => wtl_get L m _ (by have := good_parts hG h p hp; omega)
  have hl := wtl_length L m
  unfold Tm.wt
  rw [Tm.wtl, h]
  simp only
  rw [e, List.getD_eq_getElem?_getD, List.getElem?_append_right (by omega), hl]
  simp [Tm.wt]
theorem wt_le (L : List Tm) (z : Nat) : Tm.wt L z ≤ 65537 := by
  unfold Tm.wt
  rw [Tm.wtl]
  rw [List.getD_eq_getElem?_getD, List.getElem?_append_right (by rw [wtl_length]; exact Nat.le_refl _), wtl_length]
  simp
  split
  · exact Nat.min_le_right _ _
  · omega
/-- The weights that are known. -/
def Wts (L : List Tm) (ts : List Int) (j : Nat) (D : DataW Unit) : Prop := ∀ (q : Nat) (z : Int), q < j → ts[q]? = some z → D.atKey (.int .i64 z) (.lit (.int .i64 0)) = .lit (.int .i64 (Tm.wt L z.toNat))
theorem Wts.next {L : List Tm} {ts : List Int} {j : Nat} {D : DataW Unit} (h : Wts L ts j D) (hD : IsMap D) {z : Int} (hz : ts[j]? = some z) (hr : ts.Pairwise (· < ·)) : Wts L ts (j + 1) (D.put (.int .i64 z) (.lit (.int .i64 (Tm.wt L z.toNat)))) := fun q y hq hy => by
  rcases Nat.lt_or_ge q j with h1 | h1
  · have hne : y ≠ z := by
      obtain ⟨hq', rfl⟩ := List.getElem?_eq_some_iff.1 hy
      obtain ⟨hj', rfl⟩ := List.getElem?_eq_some_iff.1 hz
      have := List.pairwise_iff_getElem.1 hr q j hq' hj' h1
      omega
    rw [atKey_put_other (fun e => hne (by injection e))]
    exact h q y h1 hy
  · obtain rfl : q = j := by omega
    rw [hz] at hy
    cases hy
    exact atKey_put_same hD (ikey _) _ _
/-- A part of a term that stands there is known. -/
theorem Wts.part {L : List Tm} {id : Int} {ts : List Int} {j : Nat} {D : DataW Unit} (h : Wts L ts j D) (hw : Withi L id ts) (hG : Tm.Good L) {m : Nat} {t : Tm} (hz : ts[j]? = some (m : Int)) (ht : L[m]? = some t) {p : Int} (hp : p ∈ t.parts) : D.atKey (.int .i64 p) (.lit (.int .i64 0)) = .lit (.int .i64 (Tm.wt L p.toNat)) := by
  have hc := hw.closed (m : Int) (List.mem_of_getElem? hz) p (by rw [partsAt_of ht]; exact hp)
  have hlt := good_parts hG ht p hp
  obtain ⟨q, hq, rfl⟩ := List.getElem_of_mem hc
  obtain ⟨hj, he⟩ := List.getElem?_eq_some_iff.1 hz
  refine h q _ ?_ (List.getElem?_eq_getElem hq)
  rcases Nat.lt_or_ge q j with h1 | h1
  · exact h1
  · exfalso
    rcases Nat.lt_or_ge j q with h2 | h2
    · have := List.pairwise_iff_getElem.1 hw.rise j q hj hq h2
      omega
    · obtain rfl : q = j := by omega
      omega
/-- The sum so far. -/
def wsum (L : List Tm) (ps : List Int) (k : Nat) : Nat := 1 + (((ps.take k).map fun p => Tm.wt L p.toNat).sum)
theorem wsum_next {L : List Tm} {ps : List Int} {k : Nat} {p : Int} (h : ps[k]? = some p) : wsum L ps (k + 1) = wsum L ps k + Tm.wt L p.toNat := by
  unfold wsum
  rw [take_succ_of h, List.map_append, List.sum_append]
  simp; omega
theorem sum_le : ∀ (l : List Nat), (∀ x ∈ l, x ≤ 65537) → l.sum ≤ l.length * 65537
  | [], _ => by simp
  | x :: r, h => by
    have h1 := sum_le r fun y hy => h y (by simp [hy])
    have h2 := h x (by simp)
    simp only [List.sum_cons, List.length_cons, Nat.succ_mul]
    omega
theorem wsum_le (L : List Tm) (ps : List Int) (k : Nat) (hl : ps.length ≤ 2) : wsum L ps k ≤ 200000 := by
  unfold wsum
  have h := sum_le ((ps.take k).map fun p => Tm.wt L p.toNat) fun x hx => by
    obtain ⟨p, _, rfl⟩ := List.mem_map.1 hx
    exact wt_le L _
  rw [List.length_map] at h
  have h2 : (ps.take k).length ≤ ps.length := List.length_take_le' _ _
  have h3 : (ps.take k).length * 65537 ≤ 2 * 65537 := Nat.mul_le_mul_right _ (by omega)
  omega
/-- The list, the weights. -/
structure QMem (w wr : World) (v : Value) (ts : List Int) (bm n : Nat) (D : DataW Unit) : Prop where
  bl : Below w.heap.size w wr
  row : OwnI wr w.heap.size v ts
  map : wr.ownsMap (H := Unit) Tryz.prog 3 (plainElem Tryz.prog 3) bm n D
  up : w.heap.size ≤ bm
theorem QMem.below {w wr w1 : World} {v : Value} {ts : List Int} {bm n : Nat} {D : DataW Unit} (h : QMem w wr v ts bm n D) (hb : Below wr.heap.size wr w1) : QMem w w1 v ts bm n D :=
  ⟨h.bl.trans (hb.mono h.bl.size), trow_at h.row fun i hi => hb.block i (h.row.lt i hi).2, map_at h.map (hb.block _ h.map.lt), h.up⟩
theorem QMem.put {w wr w2 : World} {v : Value} {ts : List Int} {bm n n' : Nat} {D E : DataW Unit} (h : QMem w wr v ts bm n D) (ho : w2.ownsMap (H := Unit) Tryz.prog 3 (plainElem Tryz.prog 3) bm n' E) (hg : wr.grownBy w2 (some bm)) : QMem w w2 v ts bm n' E := by
  refine ⟨h.bl.grown hg h.bl.size (fun k hk => by have := Option.some.inj hk; have := h.up; omega), trow_at h.row fun i hi => hg.block i (h.row.lt i hi).2 fun e => ?_, ho, h.up⟩
  obtain ⟨c, hc⟩ := row_cells h.row hi
  exact map_ne hc h.map (Option.some.inj e)
set_option maxRecDepth 100000 in
set_option maxHeartbeats 1600000 in
theorem weight_yes (b : Nat) (L : List Tm) (F : Nat → Prop) (id : Nat) (w : World) (hS : StoB w b L F) (hG : Tm.Good L) (hid : id < L.length) :
    Calls Tryz.prog 9 #[.pointer (some ⟨b, 0, none⟩), .int .i64 id] w fun r w' => r = .returned (.tuple #[.int .i64 (Tm.wt L id), .nilIface]) ∧ Below w.heap.size w w' := by
  have hbig := hS.big
  obtain ⟨ao, cap, hc⟩ := hS.cell
  have hl := lacks_no b ao L.length cap id w hc (by simp [Tm.has]; omega)
  have hb0 : Below w.heap.size w (w.alloc (.map #[] 0)) := (Below.refl _ _).alloc (Nat.le_refl _) _
  have hwi := within_any b L F id (w.alloc (.map #[] 0)) (hS.below hb0) hG hid
  have hmade := World.ownsMap_made (H := Unit) w Tryz.prog 3 (plainElem Tryz.prog 3)
  have hmm := @run_makeMap Tryz.prog
  have HL : Hid _ := And.intro hl (And.intro hwi (And.intro hmade hb0))
  have HS : Hid _ := And.intro hS hG
  clear hl hwi hmade hb0 hS hG hc
  go_enter Tryz.func9, Tryz.ntmps9
  go_wp2_with fail
  refine HL.out.1.mono ?_
  rintro r w1 ⟨rfl, hw⟩
  obtain rfl := hw.symm
  go_wp2_with fail
  refine HL.out.2.1.mono ?_
  rintro r w1 ⟨v, ts, rfl, hO, hWi, hb1⟩
  have hQ : QMem w w1 v ts w.heap.size 0 (.map []) := ⟨HL.out.2.2.2.trans (hb1.mono HL.out.2.2.2.size), row_base hO HL.out.2.2.2.size, map_at HL.out.2.2.1 (hb1.block _ HL.out.2.2.1.lt), Nat.le_refl _⟩
  obtain ⟨g, capt, rfl, hgB, htc⟩ := hQ.row.form (fun e => by have := hWi.head; rw [e] at this; simp at this)
  have htl : ts.length ≤ L.length := nodup_le _ _ (hWi.rise.imp fun h => by omega) hWi.range
  obtain ⟨n, hn⟩ : ∃ n, n = ts.length := ⟨_, rfl⟩
  rw [← hn] at htl htc ⊢
  have HQ : Hid _ := And.intro hQ (And.intro hWi hn)
  clear hQ hO hWi hb1 hn hmm
  go_wp2_with fail
  go_loopg [24] n (fun q iv wr => ∃ (j : Nat) (D : DataW Unit), q = n - j ∧ j ≤ n ∧ iv = .int .i64 j ∧ Wts L ts j D ∧ QMem w wr (.slice (some ⟨g, 0, none⟩) n capt) ts w.heap.size j D)
  case atStart => exact ⟨0, .map [], rfl, Nat.zero_le _, rfl, fun q z h => by omega, by rw [HQ.out.2.2]; exact HQ.out.1⟩
  case round =>
    obtain ⟨j, D, rfl, hj, rfl, hWt, hQ⟩ := hrel
    by_cases hlt : j < n
    · obtain ⟨z, hz⟩ : ∃ z, ts[j]? = some z := ⟨ts[j]'(by have := HQ.out.2.2; omega), List.getElem?_eq_getElem _⟩
      have hzr := HQ.out.2.1.range z (List.mem_of_getElem? hz)
      obtain ⟨m, rfl⟩ : ∃ m : Nat, z = m := ⟨z.toNat, by omega⟩
      obtain ⟨t, ht⟩ : ∃ t, L[m]? = some t := ⟨L[m]'(by omega), List.getElem?_eq_getElem _⟩
      obtain ⟨gt, ct, vn, vp, hA, _, _, _⟩ := (HS.out.1.below hQ.bl).at ht
      obtain ⟨an, cn, rfl, _⟩ := _root_.id hA.n
      obtain ⟨ap, cp, rfl, _⟩ := _root_.id hA.p
      obtain ⟨c0, x0, x1, x2, x3, x4, x5, _, _⟩ := hA
      have li := hQ.row.cell hz
      have q0 : (0 : Int) ≤ (j : Int) := by omega
      have q1 : (j : Int) < (n : Int) := by omega
      have q2 : (0 : Int) ≤ (m : Int) := by omega
      have q3 : (m : Int) < (L.length : Int) := by omega
      have HP : Hid (∀ W, Calls Tryz.prog 28 #[.agg #[.int .i64 t.kind, .int .i64 t.label, .int .i64 t.a, .int .i64 t.b, .slice an t.names.length cn, .slice ap t.pairs.length cp]] W fun r w' => ∃ v, r = .returned v ∧ OwnI w' W.heap.size v t.parts ∧ Below W.heap.size W w') := fun W => parts_any t _ _ W
      have HI : Hid _ := And.intro hWt (And.intro hQ (And.intro hz ht))
      clear hWt hQ hz ht
      go_wp2_with fail
      refine (HP.out _).mono ?_
      rintro r1 w2 ⟨vq, rfl, hq, hb2⟩
      obtain ⟨aoq, capq, rfl⟩ := row_shape hq
      obtain ⟨k2, hk2⟩ : ∃ k2, k2 = t.parts.length := ⟨_, rfl⟩
      have hk3 : k2 ≤ 2 := by rw [hk2]; exact parts_len t
      rw [← hk2]
      have H2 : Hid _ := And.intro (HI.out.2.1.below hb2) (And.intro hq hk2)
      clear hq hb2 hk2 HP c0 x0 x1 x2 x3 x4 x5 li
      go_wp2_with fail
      go_loopg [10, 37] k2 (fun q wv kv wr => ∃ k : Nat, q = k2 - k ∧ k ≤ k2 ∧ kv = .int .i64 k ∧ wv = .int .i64 (wsum L t.parts k) ∧ w2 = wr)
      case atStart => exact ⟨0, rfl, Nat.zero_le _, rfl, rfl, rfl⟩
      case round =>
        obtain ⟨k, rfl, hk, rfl, rfl, rfl⟩ := hrel
        have hws := wsum_le L t.parts k (by have := H2.out.2.2; omega)
        by_cases hlt2 : k < k2
        · obtain ⟨p, hp⟩ : ∃ p, t.parts[k]? = some p := ⟨t.parts[k]'(by have := H2.out.2.2; omega), List.getElem?_eq_getElem _⟩
          have hpm := List.mem_of_getElem? hp
          have hpr := good_parts HS.out.2 HI.out.2.2.2 p hpm
          have hq := H2.out.2.1
          rw [← H2.out.2.2] at hq
          obtain ⟨gq, capq', hqe, _, _⟩ := hq.form (fun e => by rw [e] at hpm; simp at hpm)
          injection hqe with e1 e2 e3
          subst e1
          have lq := hq.cell hp
          have q4 : (0 : Int) ≤ (k : Int) := by omega
          have q5 : (k : Int) < (k2 : Int) := by omega
          have pw : (Lit.int .i64 p).wf = true := WalkArith.wf_i64 (by omega)
          obtain ⟨c, hrun, hat, _⟩ := H2.out.1.map.lookup_int Tryz.lawI Tryz.underlying77 Tryz.underlying3 (Tryz.zeroI3 w2) (keyOf_int_mk (a := p) Tryz.underlying3 pw)
          rw [HI.out.1.part HQ.out.2.1 HS.out.2 HI.out.2.2.1 HI.out.2.2.2 hpm] at hat
          injection hat with hat
          injection hat with _ hat
          subst hat
          have hwl := wt_le L p.toNat
          have HN : Hid (wsum L t.parts (k + 1) = wsum L t.parts k + Tm.wt L p.toNat) := wsum_next hp
          clear e2 e3 hpm hq hp
          go_wp2_with fail
          go_roundg (k2 - (k + 1))
          case measure => omega
          case rel => exact ⟨k + 1, rfl, by omega, by go_num, by rw [HN.out]; go_num, rfl⟩
        · obtain rfl : k = k2 := by omega
          have q5 : ¬ (k : Int) < (k : Int) := by omega
          have hwt : min (wsum L t.parts k) 65537 = Tm.wt L m := by
            rw [wt_of HS.out.2 HI.out.2.2.2]
            unfold wsum
            rw [H2.out.2.2, List.take_length]
          have hwz : min ((wsum L t.parts k : Nat) : Int) 65537 = ((Tm.wt L m : Nat) : Int) := by rw [← hwt]; omega
          obtain ⟨w3, hrun, ho3, hg3⟩ := H2.out.1.map.update Tryz.lawI Tryz.underlying77 (by unfold maxLen; omega) (keyOf_int_mk (a := (m : Int)) Tryz.underlying3 (WalkArith.wf_i64 (by omega))) (plainElem_int (a := min ((wsum L t.parts k : Nat) : Int) 65537) Tryz.underlying3 (WalkArith.wf_i64 (by omega)))
          have HW : Hid _ := And.intro hwz (And.intro ho3 hg3)
          clear hwt hwz ho3 hg3
          go_wp2_with fail
          go_roundg (n - (j + 1))
          case measure => omega
          case rel =>
            have hN := HI.out.1.next H2.out.1.map.isMap HI.out.2.2.1 HQ.out.2.1.rise
            have hP := H2.out.1.put HW.out.2.1 HW.out.2.2
            rw [HW.out.1] at hP
            exact ⟨j + 1, _, rfl, by omega, by go_num, hN, by simpa using hP⟩
    · obtain rfl : j = n := by omega
      have q1 : ¬ (j : Int) < (j : Int) := by omega
      obtain ⟨q, hq, hqe⟩ := List.getElem_of_mem HQ.out.2.1.head
      obtain ⟨c, hrun, hat, _⟩ := hQ.map.lookup_int Tryz.lawI Tryz.underlying77 Tryz.underlying3 (Tryz.zeroI3 wr) (keyOf_int_mk (a := (id : Int)) Tryz.underlying3 (WalkArith.wf_i64 (by omega)))
      rw [hWt q (id : Int) (by have := HQ.out.2.2; omega) (by rw [List.getElem?_eq_getElem hq, hqe])] at hat
      injection hat with hat
      injection hat with _ hat
      subst hat
      have HB : Hid _ := hQ.bl
      clear hWt hQ hqe
      go_wp2_with fail
      go_ret2
      exact ⟨by simp, HB.out⟩
theorem weight_no (b : Nat) (L : List Tm) (F : Nat → Prop) (i : Int) (T : TypeId) (u : Value) (w : World) (hS : StoB w b L F) (hi : Tm.has L.length i = false) (hE : w.cell? ⟨1, 0, none⟩ = some (.iface T u)) :
    Calls Tryz.prog 9 #[.pointer (some ⟨b, 0, none⟩), .int .i64 i] w fun r w' => r = .returned (.tuple #[.int .i64 0, tFaultV w.heap.size]) ∧ TermFault w' w.heap.size (.iface T u) ∧ Below w.heap.size w w' := by
  obtain ⟨ao, cap, hc⟩ := hS.cell
  have hl := lacks_yes b ao L.length cap i T u w hc hi hE
  unfold tFaultV at hl ⊢
  have HL : Hid _ := hl
  clear hl
  go_enter Tryz.func9, Tryz.ntmps9
  go_wp2_with fail
  refine Calls.mono HL.out ?_
  rintro r w2 ⟨rfl, hF, hb2⟩
  go_wp2_with fail
  go_ret2
  exact ⟨rfl, hF, hb2⟩
end Go.Proofs.YthnenpncajpibaaGreatDoor
/- A store of the call's own; alive of chapter 3. -/
namespace Go.Proofs.YthnenpncajpibaaGreatDoor
open Go.RowKit Go.Maps
/-- A store of the call's own: its blocks lie above what was there. -/
def StoA (w0 w : World) (b : Nat) (L : List Tm) : Prop := ∃ F, StoB w b L F ∧ (∀ i, F i → w0.heap.size ≤ i) ∧ Below w0.heap.size w0 w ∧ Tm.Good L
theorem StoA.put {w0 w w' : World} {b : Nat} {L : List Tm} {F F' : Nat → Prop} {t : Tm} (hF : ∀ i, F i → w0.heap.size ≤ i) (hb : Below w0.heap.size w0 w) (hG : Tm.Good L) (ht : t.may L.length = true) (h1 : StoB w' b (L ++ [t]) F') (h2 : Kept F w w') (h3 : ∀ i, F' i → F i ∨ w.heap.size ≤ i) : StoA w0 w' b (L ++ [t]) :=
  ⟨F', h1, fun i hi => by
    rcases h3 i hi with h | h
    · exact hF i h
    · have := hb.size; omega, hb.trans (h2.below hb.size hF), hG.snoc ht⟩
theorem hand_nil (w : World) (F : Nat → Prop) (k l a b : Int) : Hand w F ⟨k, l, a, b, [], []⟩ (.slice none 0 0) (.slice none 0 0) :=
  ⟨⟨none, 0, rfl, fun i z h => by simp at h⟩, ⟨none, 0, rfl, fun i z h => by simp at h⟩, fun h => absurd rfl h, fun h => absurd rfl h⟩
theorem good_nil : Tm.Good [⟨1, 0, 0, 0, [], []⟩] := fun i t h => by
  cases i with
  | zero => simp at h; subst h; decide
  | succ i => simp at h
theorem newA (w : World) : Calls Tryz.prog 6 #[] w fun r w' => r = .returned (.pointer (some ⟨w.heap.size, 0, none⟩)) ∧ StoA w w' w.heap.size [⟨1, 0, 0, 0, [], []⟩] := by
  refine (new_any3 w).mono ?_
  rintro r w' ⟨rfl, ⟨F, h1, h2⟩, h3⟩
  exact ⟨rfl, F, h1, h2, h3, good_nil⟩
set_option maxRecDepth 100000 in
set_option maxHeartbeats 1600000 in
theorem alive3 (w : World) : Calls Tryz.prog 5 #[] w fun r w' => r = .returned (.bool true) ∧ Below w.heap.size w w' := by
  go_enter Tryz.func5, Tryz.ntmps5
  go_wp2_with fail
  refine (newA w).mono ?_
  rintro r w1 ⟨rfl, F1, hS1, hF1, hb1, hG1⟩
  have hP := put_new w.heap.size [⟨1, 0, 0, 0, [], []⟩] F1 ⟨2, 1, 0, 0, [], []⟩ (.slice none 0 0) (.slice none 0 0) w1 hS1 (hand_nil _ _ _ _ _ _) (by decide) (by simp) (by decide)
  unfold tmV at hP
  have HP : Hid _ := And.intro hP (And.intro hF1 (And.intro hb1 hG1))
  clear hP hS1 hF1 hb1 hG1
  go_wp2_with fail
  refine HP.out.1.mono ?_
  rintro r w2 ⟨rfl, F2, g1, g2, g3⟩
  obtain ⟨F3, hS2, hF2, hb2, hG2⟩ := StoA.put HP.out.2.1 HP.out.2.2.1 HP.out.2.2.2 (by decide) g1 g2 g3
  have hP := put_new w.heap.size _ F3 ⟨3, 0, 1, 0, [], []⟩ (.slice none 0 0) (.slice none 0 0) w2 hS2 (hand_nil _ _ _ _ _ _) (by decide) (by simp) (by decide)
  unfold tmV at hP
  have HP2 : Hid _ := And.intro hP (And.intro hF2 (And.intro hb2 hG2))
  clear hP hS2 hF2 hb2 hG2 g1 g2 g3 HP
  go_wp2_with fail
  refine HP2.out.1.mono ?_
  rintro r w3 ⟨rfl, F4, g1, g2, g3⟩
  obtain ⟨F5, hS3, hF3, hb3, hG3⟩ := StoA.put HP2.out.2.1 HP2.out.2.2.1 HP2.out.2.2.2 (by decide) g1 g2 g3
  have hW := weight_yes w.heap.size _ F5 2 w3 hS3 hG3 (by decide)
  have hwt : Tm.wt ([⟨1, 0, 0, 0, [], []⟩] ++ [⟨2, 1, 0, 0, [], []⟩] ++ [⟨3, 0, 1, 0, [], []⟩]) 2 = 4 := by decide
  rw [hwt] at hW
  have HW : Hid _ := And.intro hW (And.intro hS3 hb3)
  clear hW hwt hS3 hF3 hb3 hG3 g1 g2 g3 HP2
  go_wp2_with fail
  refine HW.out.1.mono ?_
  rintro r w4 ⟨rfl, hb4⟩
  obtain ⟨ao, cap, hc⟩ := (HW.out.2.1.below hb4).cell
  have hZ := tsize_any w.heap.size ao _ cap w4 hc
  have HB : Hid _ := HW.out.2.2.trans (hb4.mono HW.out.2.2.size)
  have HZ : Hid _ := hZ
  clear hZ hb4 hc HW
  go_wp2_with fail
  refine Calls.mono HZ.out ?_
  rintro r w5 ⟨rfl, hw⟩
  obtain rfl := hw.symm
  go_wp2_with fail
  go_ret
  exact ⟨rfl, HB.out⟩
end Go.Proofs.YthnenpncajpibaaGreatDoor
/- What the statement TermBack keeps: the list that came in, a store of its own, the numbers that were told. -/
namespace Go.Proofs.YthnenpncajpibaaGreatDoor
open Go.RowKit Go.Maps
/-- A term as six cells. -/
structure Row6 (w : World) (g o : Nat) (t : Tm) (vn vp : Value) : Prop where
  x0 : w.cell? ⟨g, o, none⟩ = some (.int .i64 t.kind)
  x1 : w.cell? ⟨g, o + 1, none⟩ = some (.int .i64 t.label)
  x2 : w.cell? ⟨g, o + 2, none⟩ = some (.int .i64 t.a)
  x3 : w.cell? ⟨g, o + 3, none⟩ = some (.int .i64 t.b)
  x4 : w.cell? ⟨g, o + 4, none⟩ = some vn
  x5 : w.cell? ⟨g, o + 5, none⟩ = some vp
theorem Row6.below {w w' : World} {g o : Nat} {t : Tm} {vn vp : Value} (h : Row6 w g o t vn vp) (hb : Below w.heap.size w w') : Row6 w' g o t vn vp :=
  ⟨cell_up h.x0 hb, cell_up h.x1 hb, cell_up h.x2 hb, cell_up h.x3 hb, cell_up h.x4 hb, cell_up h.x5 hb⟩
theorem Row6.lt {w : World} {g o : Nat} {t : Tm} {vn vp : Value} (h : Row6 w g o t vn vp) : g < w.heap.size := World.block_lt_of_cell? w _ h.x0
/-- A term of the list that came in. -/
structure OneT (w : World) (ao : Option Addr) (i : Nat) (t : Tm) (g o : Nat) (vn vp : Value) : Prop where
  ad : ao = some ⟨g, o, none⟩
  row : Row6 w g (o + i * 6) t vn vp
  n : HasI w vn t.names
  p : HasP w vp t.pairs
  nl : t.names.length ≤ maxLen
  pl : t.pairs.length ≤ maxLen
theorem OneT.below {w w' : World} {ao : Option Addr} {i : Nat} {t : Tm} {g o : Nat} {vn vp : Value} (h : OneT w ao i t g o vn vp) (hb : Below w.heap.size w w') : OneT w' ao i t g o vn vp :=
  ⟨h.ad, h.row.below hb, h.n.below hb, h.p.below hb, h.nl, h.pl⟩
/-- The value is a list of these terms. -/
def HasT (w : World) (v : Value) (l : List Tm) : Prop := ∃ ao cap, v = .slice ao l.length cap ∧ ∀ (i : Nat) (t : Tm), l[i]? = some t → ∃ g o vn vp, OneT w ao i t g o vn vp
/-- What came in is apart from a store of the call's own. -/
theorem OneT.hand {w0 w : World} {ao : Option Addr} {i : Nat} {t : Tm} {g o : Nat} {vn vp : Value} (h : OneT w0 ao i t g o vn vp) {F : Nat → Prop} (hF : ∀ i, F i → w0.heap.size ≤ i) (hb : Below w0.heap.size w0 w) : Hand w F t vn vp :=
  ⟨h.n.below hb, h.p.below hb, fun hz i hi hf => by have h1 := made_far h.n hz hi; have h2 := hF i hf; omega, fun hz i hi hf => by have h1 := made_farP h.p hz hi; have h2 := hF i hf; omega⟩
/-- The state of the loop. -/
structure Bk (w0 w : World) (b gi : Nat) (L : List Tm) (F : Nat → Prop) (xs : List Int) : Prop where
  s : StoB w b L F
  up : ∀ i, F i → w0.heap.size ≤ i
  good : Tm.Good L
  ids : ∃ cs, w.heap[gi]? = some (.cells cs 3 (0, 0)) ∧ cs.toList = iC xs
  gu : w0.heap.size ≤ gi
  gf : ¬ F gi
  bl : Below w0.heap.size w0 w
theorem Bk.lt {w0 w : World} {b gi : Nat} {L : List Tm} {F : Nat → Prop} {xs : List Int} (h : Bk w0 w b gi L F xs) : gi < w.heap.size := by
  obtain ⟨cs, hc, _⟩ := h.ids
  exact t_lt hc
theorem Bk.below {w0 w w' : World} {b gi : Nat} {L : List Tm} {F : Nat → Prop} {xs : List Int} (h : Bk w0 w b gi L F xs) (hb : Below w.heap.size w w') : Bk w0 w' b gi L F xs := by
  obtain ⟨cs, hc, hx⟩ := h.ids
  exact ⟨h.s.below hb, h.up, h.good, ⟨cs, (hb.block _ (t_lt hc)).trans hc, hx⟩, h.gu, h.gf, h.bl.trans (hb.mono h.bl.size)⟩
theorem Bk.put {w0 w w' : World} {b gi : Nat} {L : List Tm} {F F' : Nat → Prop} {xs : List Int} {t : Tm} (h : Bk w0 w b gi L F xs) (ht : t.may L.length = true) (h1 : StoB w' b (L ++ [t]) F') (h2 : Kept F w w') (h3 : ∀ i, F' i → F i ∨ w.heap.size ≤ i) : Bk w0 w' b gi (L ++ [t]) F' xs := by
  obtain ⟨cs, hc, hx⟩ := h.ids
  have hlt := t_lt hc
  refine ⟨h1, fun i hi => ?_, h.good.snoc ht, ⟨cs, (h2.block _ hlt h.gf).trans hc, hx⟩, h.gu, fun hf => ?_, h.bl.trans (h2.below h.bl.size h.up)⟩
  · rcases h3 i hi with e | e
    · exact h.up i e
    · have := h.bl.size; omega
  · rcases h3 gi hf with e | e
    · exact h.gf e
    · omega
theorem Bk.cell {w0 w : World} {b gi : Nat} {L : List Tm} {F : Nat → Prop} {xs : List Int} (h : Bk w0 w b gi L F xs) {i : Nat} {x : Int} (hi : xs[i]? = some x) : w.cell? ⟨gi, i, none⟩ = some (.int .i64 x) := by
  obtain ⟨cs, hc, hx⟩ := h.ids
  rw [tb_cell hc, ← Array.getElem?_toList, hx]
  simp [iC, hi]
theorem Bk.free {w0 w : World} {b gi : Nat} {L : List Tm} {F : Nat → Prop} {xs : List Int} (h : Bk w0 w b gi L F xs) (i : Nat) : w.frozen? ⟨gi, i, none⟩ = false := by
  obtain ⟨cs, hc, hx⟩ := h.ids
  exact blk_free hc i
theorem Bk.set {w0 w : World} {b gi : Nat} {L : List Tm} {F : Nat → Prop} {xs : List Int} (h : Bk w0 w b gi L F xs) (i : Nat) (x : Int) : Bk w0 (w.setCell ⟨gi, i, none⟩ (.int .i64 x)) b gi L F (xs.set i x) := by
  obtain ⟨cs, hc, hx⟩ := h.ids
  refine ⟨h.s.kept (Kept.setCell w gi i _) (fun k hk e => h.gf (e ▸ hk)), h.up, h.good, ⟨_, heap_setCell_same w gi i cs _ _ hc, ?_⟩, h.gu, h.gf, h.bl.setCell h.gu _⟩
  rw [Array.toList_setIfInBounds, hx]
  unfold iC
  rw [List.map_set]
/-- What is known of the numbers that were told. -/
def Told3 (L l : List Tm) (xs : List Int) (i : Nat) : Prop := ∀ (q : Nat) (t : Tm), q < i → l[q]? = some t → xs[q]? = some (-1) ∨ ∃ k : Nat, xs[q]? = some (k : Int) ∧ L[k]? = some t
theorem Told3.mono {L l : List Tm} {xs : List Int} {i : Nat} (h : Told3 L l xs i) (t : Tm) : Told3 (L ++ [t]) l xs i := fun q s hq hs => by
  rcases h q s hq hs with e | ⟨k, e1, e2⟩
  · exact .inl e
  · exact .inr ⟨k, e1, by rw [List.getElem?_append_left (List.getElem?_eq_some_iff.1 e2).1]; exact e2⟩
theorem Told3.set {L l : List Tm} {xs : List Int} {i : Nat} (h : Told3 L l xs i) (x : Int) : Told3 L l (xs.set i x) i := fun q s hq hs => by
  have e : (xs.set i x)[q]? = xs[q]? := by rw [List.getElem?_set_ne (by omega)]
  rw [e]
  exact h q s hq hs
theorem Told3.next {L l : List Tm} {xs : List Int} {i : Nat} (h : Told3 L l xs i) (hn : ∀ t, l[i]? = some t → xs[i]? = some (-1) ∨ ∃ k : Nat, xs[i]? = some (k : Int) ∧ L[k]? = some t) : Told3 L l xs (i + 1) := fun q s hq hs => by
  rcases Nat.lt_or_ge q i with e | e
  · exact h q s e hs
  · obtain rfl : q = i := by omega
    exact hn s hs
theorem set_at {xs : List Int} {i : Nat} (h : i < xs.length) (x : Int) : (xs.set i x)[i]? = some x := by
  rw [List.getElem?_set_self h]
/-- The cells of a new list of n noughts. -/
def madeI (n : Nat) : Array Value := madeCells (Value.int .i64 0).cells (n * 1)
theorem madeI_eq (n : Nat) : (madeI n).toList = iC (List.replicate n 0) := by
  apply List.ext_getElem
  · simp [madeI, madeCells, iC]
  · intro i h1 h2
    simp [madeI, madeCells, iC, Value.cells, Nat.mod_one]
theorem make_ints (n : Nat) (hn : n ≤ 100000) (w : World) : (Instr.makeSlice 29 (.int .i64 (n : Int)) (.int .i64 (n : Int))).run Tryz.prog w = .ok (.slice (some ⟨w.heap.size, 0, none⟩) n n) (w.alloc (.cells (madeI n) 3)) := by
  obtain ⟨i0, hi0, hz0, hz1, hz2⟩ := info_parts Tryz.infoI3
  have h := run_makeSlice (P := Tryz.prog) w 29 3 i0 (.int .i64 0) Tryz.underlying29 hi0 hz0 .i64 .i64 (n : Int) (n : Int) (by omega) (Int.le_refl _) (by rw [hz1]; omega) (by rw [hz2]; omega) (by omega)
  rw [h, hz1]
  simp [madeI]
theorem bk_start {w0 w : World} {b : Nat} {L : List Tm} {F : Nat → Prop} (n : Nat) (hs : StoB w b L F) (hu : ∀ i, F i → w0.heap.size ≤ i) (hg : Tm.Good L) (hb : Below w0.heap.size w0 w) : Bk w0 (w.alloc (.cells (madeI n) 3)) b w.heap.size L F (List.replicate n 0) := by
  have h1 : Below w.heap.size w (w.alloc (.cells (madeI n) 3)) := (Below.refl _ _).alloc (Nat.le_refl _) _
  exact ⟨hs.below h1, hu, hg, ⟨_, (MapKept.heap_alloc w _).1, madeI_eq n⟩, hb.size, fun hf => by have := hs.foot_lt hf; omega, hb.trans (h1.mono hb.size)⟩
/-- Put of a term that may be put, there already or new. -/
theorem put_ok (b : Nat) (L : List Tm) (F : Nat → Prop) (t : Tm) (vn vp : Value) (w : World) (hS : StoB w b L F) (hh : Hand w F t vn vp) (hmay : t.may L.length = true) (hlen : L.length < 100000) :
    Calls Tryz.prog 20 #[.pointer (some ⟨b, 0, none⟩), tmV t vn vp] w fun r w' => ∃ (k : Nat) (L' : List Tm) (F' : Nat → Prop), r = .returned (.tuple #[.int .i64 k, .nilIface]) ∧ L'[k]? = some t ∧ k ≤ L.length ∧ L'.length = max L.length (k + 1) ∧ (L' = L ∨ L' = L ++ [t]) ∧ StoB w' b L' F' ∧ Kept F w w' ∧ (∀ i, F' i → F i ∨ w.heap.size ≤ i) := by
  by_cases hin : t ∈ L
  · obtain ⟨k, hk, rfl⟩ := List.getElem_of_mem hin
    refine (put_old b L F _ vn vp w hS hh hmay k (List.getElem?_eq_getElem hk)).mono ?_
    rintro r w' ⟨rfl, hb⟩
    exact ⟨k, L, F, rfl, List.getElem?_eq_getElem hk, by omega, by omega, .inl rfl, hS.below hb, .of_below hb, fun i hi => .inl hi⟩
  · refine (put_new b L F t vn vp w hS hh hmay hin hlen).mono ?_
    rintro r w' ⟨rfl, F', h1, h2, h3⟩
    exact ⟨L.length, L ++ [t], F', rfl, by simp, Nat.le_refl _, by rw [List.length_append, List.length_singleton]; omega, .inr rfl, h1, h2, h3⟩
theorem Bk.putok {w0 w w' : World} {b gi : Nat} {L L' : List Tm} {F F' : Nat → Prop} {xs : List Int} {t : Tm} (h : Bk w0 w b gi L F xs) (ht : t.may L.length = true) (hL : L' = L ∨ L' = L ++ [t]) (h1 : StoB w' b L' F') (h2 : Kept F w w') (h3 : ∀ i, F' i → F i ∨ w.heap.size ≤ i) : Bk w0 w' b gi L' F' xs := by
  obtain ⟨cs, hc, hx⟩ := h.ids
  have hlt := t_lt hc
  refine ⟨h1, fun i hi => ?_, ?_, ⟨cs, (h2.block _ hlt h.gf).trans hc, hx⟩, h.gu, fun hf => ?_, h.bl.trans (h2.below h.bl.size h.up)⟩
  · rcases h3 i hi with e | e
    · exact h.up i e
    · have := h.bl.size; omega
  · rcases hL with rfl | rfl
    · exact h.good
    · exact h.good.snoc ht
  · rcases h3 gi hf with e | e
    · exact h.gf e
    · omega
theorem Told3.ok {L L' l : List Tm} {xs : List Int} {i : Nat} {t : Tm} (h : Told3 L l xs i) (hL : L' = L ∨ L' = L ++ [t]) : Told3 L' l xs i := by
  rcases hL with rfl | rfl
  · exact h
  · exact h.mono t
end Go.Proofs.YthnenpncajpibaaGreatDoor
/- Contract of the book's Told at a fault of term; told of chapter 3; api.Code at ErrArg and ErrIndex, wrapped and bare. -/
namespace Go.Proofs.YthnenpncajpibaaGreatDoor
open Go.RowKit Go.Extern.Stop Go.Stop Go.Extern
set_option maxHeartbeats 1000000 in
theorem is_bare_same (a : Addr) (w : World) :
    Calls Tryz.prog 126 #[.iface 201 (.pointer (some a)), .iface 201 (.pointer (some a))] w fun e w' => e = .returned (.bool true) ∧ w' = w := by
  obtain ⟨i, hi, hcmp⟩ := Option.map_eq_some_iff.1 Tryz.isComp
  obtain ⟨j, hj, hjs⟩ := Option.map_eq_some_iff.1 Tryz.isSize
  have h8 := @run_callFunc_extern Tryz.prog 135 _ Extern.ReflectliteType.typeOf Tryz.func135 (by kernel_rfl) (by kernel_rfl) (by kernel_rfl) (by kernel_rfl)
  have h32 := @run_callFunc_extern Tryz.prog 159 _ cmpEntry Tryz.func159 (by kernel_rfl) (by kernel_rfl) (by kernel_rfl) (by kernel_rfl)
  have tT := Tryz.isTypeOf
  have cT := Tryz.isComparable
  have mR := Tryz.isMethodComparable
  have nE := Tryz.noIsE
  have uE := Tryz.noUnwrapE
  have vE := Tryz.noUnwrapsE
  have nW := Tryz.noIsW
  have uW := Tryz.hasUnwrapW
  have mU := Tryz.methodUnwrap
  have heq := run_eql_iface_ptr_same (P := Tryz.prog) w a Tryz.underlying51 Tryz.underlying201 hi hcmp hj
  go_enter Tryz.func126, Tryz.ntmps126
  go_wp2
  refine wp_loop_rounds 1 ?_
  rw [rounds_succ]
  go_wp2
  go_ret
  exact ⟨rfl, rfl⟩
set_option maxHeartbeats 1000000 in
theorem is_bare_other (b a : Addr) (ca cb : Array Value) (ta tb : TypeId) (w : World) (hne : a ≠ b) (ha : w.heap[a.block]? = some (.cells ca ta (0, 0))) (hb : w.heap[b.block]? = some (.cells cb tb (0, 0))) :
    Calls Tryz.prog 126 #[.iface 201 (.pointer (some a)), .iface 201 (.pointer (some b))] w fun e w' => e = .returned (.bool false) ∧ w' = w := by
  obtain ⟨i, hi, hcmp⟩ := Option.map_eq_some_iff.1 Tryz.isComp
  obtain ⟨j, hj, hjs⟩ := Option.map_eq_some_iff.1 Tryz.isSize
  have h8 := @run_callFunc_extern Tryz.prog 135 _ Extern.ReflectliteType.typeOf Tryz.func135 (by kernel_rfl) (by kernel_rfl) (by kernel_rfl) (by kernel_rfl)
  have h32 := @run_callFunc_extern Tryz.prog 159 _ cmpEntry Tryz.func159 (by kernel_rfl) (by kernel_rfl) (by kernel_rfl) (by kernel_rfl)
  have tT := Tryz.isTypeOf
  have cT := Tryz.isComparable
  have mR := Tryz.isMethodComparable
  have nE := Tryz.noIsE
  have uE := Tryz.noUnwrapE
  have vE := Tryz.noUnwrapsE
  have nW := Tryz.noIsW
  have uW := Tryz.hasUnwrapW
  have mU := Tryz.methodUnwrap
  have heq := run_eql_iface_ptr_other (P := Tryz.prog) w Tryz.underlying51 Tryz.underlying201 hi hcmp hj (by rw [hjs]; decide) hne ha hb
  go_enter Tryz.func126, Tryz.ntmps126
  go_wp2
  refine wp_loop_rounds 1 ?_
  rw [rounds_succ]
  go_wp2
  go_ret
  exact ⟨rfl, rfl⟩
theorem cast_yes (v : Value) (w : World) : (Instr.typeAssert (.iface 124 v) 51 124 true).run Tryz.prog w = .ok (.tuple #[v, .bool true]) w := by kernel_rfl
theorem cast_no (v : Value) (w : World) : (Instr.typeAssert (.iface 201 v) 51 124 true).run Tryz.prog w = .ok (.tuple #[.pointer none, .bool false]) w := by kernel_rfl
def termB : ByteArray := ⟨#[116, 101, 114, 109, 32]⟩
def errV (a : Addr) : Value := .iface 201 (.pointer (some a))
theorem blk_cell {w : World} {B : Nat} {cs : Array Value} {t : TypeId} (h : w.heap[B]? = some (.cells cs t (0, 0))) (k : Nat) : w.cell? ⟨B, k, none⟩ = cs[k]? := by
  simp [World.cell?, h]
/-- The fault and the document's error lie in memory. -/
def TT (b E : Nat) (k : Int) (a : Addr) (w : World) : Prop :=
  TermFault w b (.iface 201 (.pointer (some a))) ∧ w.heap[E]? = some (.cells #[.int .i64 k, .int .i64 0, .int .i64 0, .string termB] 81 (0, 0))
theorem TT.draws {b E : Nat} {k : Int} {a : Addr} {w : World} (h : TT b E k a w) (n : Nat) : TT b E k a (w.drewN n) := h
theorem TT.cells {b E : Nat} {k : Int} {a : Addr} {w : World} (h : TT b E k a w) :
    w.cell? ⟨b, 0, none⟩ = some (.string ⟨#[116, 101, 114, 109]⟩) ∧ w.cell? ⟨b, 1, none⟩ = some (.int .i64 0) ∧ w.cell? ⟨b, 2, none⟩ = some (.int .i64 0) ∧ w.cell? ⟨b, 3, none⟩ = some (.iface 201 (.pointer (some a))) ∧
    w.cell? ⟨E, 0, none⟩ = some (.int .i64 k) ∧ w.cell? ⟨E, 1, none⟩ = some (.int .i64 0) ∧ w.cell? ⟨E, 2, none⟩ = some (.int .i64 0) ∧ w.cell? ⟨E, 3, none⟩ = some (.string termB) := by
  unfold TT TermFault at h
  refine ⟨?_, ?_, ?_, ?_, ?_, ?_, ?_, ?_⟩
  · rw [blk_cell h.1]; rfl
  · rw [blk_cell h.1]; rfl
  · rw [blk_cell h.1]; rfl
  · rw [blk_cell h.1]; rfl
  · rw [blk_cell h.2]; rfl
  · rw [blk_cell h.2]; rfl
  · rw [blk_cell h.2]; rfl
  · rw [blk_cell h.2]; rfl
set_option maxRecDepth 100000 in
set_option maxHeartbeats 4000000 in
theorem told_tm (b : Nat) (k : Int) (a : Addr) (P : World → Prop) (hst : ∀ W W', P W → Below W.heap.size W W' → P W') (hk : k ≠ 0)
    (hcode : ∀ W, P W → W.cell? ⟨b, 3, none⟩ = some (.iface 201 (.pointer (some a))) → Calls Tryz.prog 89 #[.iface 124 (.pointer (some ⟨b, 0, none⟩))] W fun e w' => e = .returned (.int .i64 k) ∧ w' = W)
    (hbare : ∀ W, P W → Calls Tryz.prog 89 #[.iface 201 (.pointer (some a))] W fun e w' => e = .returned (.int .i64 k) ∧ w' = W)
    (w : World) (hP : P w) (hB : TermFault w b (.iface 201 (.pointer (some a)))) :
    Calls Tryz.prog 30 #[.iface 124 (.pointer (some ⟨b, 0, none⟩)), .agg #[.int .i64 k, .int .i64 0, .int .i64 0, .string termB]] w fun e w' => e = .returned (.bool true) ∧ Below w.heap.size w w' := by
  have y := cast_yes
  have n := cast_no
  have zs : (⟨#[]⟩ ++ ⟨#[116, 101, 114, 109]⟩ ++ ⟨#[32]⟩ : ByteArray) = termB := by decide
  have z0 : (k == 0) = false := by simpa using hk
  have z3 : (k != k) = false := by simp
  have z4 : (k == k) = true := by simp
  have hPd : ∀ W m, P W → P (W.drewN m) := fun W m h => hst W _ h (below_drewN (Below.refl _ _) m)
  have HE : Hid (P w ∧ TermFault w b (.iface 201 (.pointer (some a)))) := ⟨hP, hB⟩
  clear hP hB hk
  go_enter Tryz.func30, Tryz.ntmps30
  go_wp2_with fail
  obtain ⟨w1, hw1⟩ : ∃ w1, w1 = w.alloc (.cells #[.int .i64 k, .int .i64 0, .int .i64 0, .string termB] 81) := ⟨_, rfl⟩
  rw [← hw1]
  have Hw1 : Hid (TT b w.heap.size k a w1 ∧ P w1 ∧ Below w.heap.size w w1) := (by
    have hb : Below w.heap.size w w1 := by rw [hw1]; exact (Below.refl _ _).alloc (Nat.le_refl _) _
    exact ⟨⟨(hb.block b (t_lt HE.out.2)).trans HE.out.2, by rw [hw1]; exact (MapKept.heap_alloc w _).1⟩, hst _ _ HE.out.1 hb, hb⟩ : TT b w.heap.size k a w1 ∧ P w1 ∧ Below w.heap.size w w1)
  clear hw1 HE
  obtain ⟨c0, c1, c2, c3, e0, e1, e2, e3⟩ := Hw1.out.1.cells
  go_quiet ((go_at_call 89; exact Calls.quiet_of_same (hcode _ (hPd _ _ Hw1.out.2.1) (by exact c3))))
  obtain ⟨w2, hw2⟩ : ∃ w2, w2 = w1.drewN nq := ⟨_, rfl⟩
  rw [← hw2]
  have Hw2 : Hid (TT b w.heap.size k a w2 ∧ P w2 ∧ Below w.heap.size w w2) := (by rw [hw2]; exact ⟨Hw1.out.1.draws _, hPd _ _ Hw1.out.2.1, below_drewN Hw1.out.2.2 _⟩ : TT b w.heap.size k a w2 ∧ P w2 ∧ Below w.heap.size w w2)
  clear hw2 c0 c1 c2 c3 e0 e1 e2 e3
  obtain ⟨c0, c1, c2, c3, e0, e1, e2, e3⟩ := Hw2.out.1.cells
  go_wp2_with fail
  refine wp_loop_rounds 2 ?_
  rw [rounds_succ]
  go_wp2_with fail
  go_quiet (fail)
  obtain ⟨w3, hw3⟩ : ∃ w3, w3 = w2.drewN nq := ⟨_, rfl⟩
  rw [← hw3]
  have Hw3 : Hid (TT b w.heap.size k a w3 ∧ P w3 ∧ Below w.heap.size w w3) := (by rw [hw3]; exact ⟨Hw2.out.1.draws _, hPd _ _ Hw2.out.2.1, below_drewN Hw2.out.2.2 _⟩ : TT b w.heap.size k a w3 ∧ P w3 ∧ Below w.heap.size w w3)
  clear hw3 c0 c1 c2 c3 e0 e1 e2 e3
  obtain ⟨c0, c1, c2, c3, e0, e1, e2, e3⟩ := Hw3.out.1.cells
  go_wp2_with fail
  rw [rounds_succ]
  go_wp2_with fail
  go_quiet ((go_at_call 89; exact Calls.quiet_of_same (hbare _ (hPd _ _ Hw3.out.2.1))))
  go_wp2
  go_ret
  exact ⟨rfl, below_drewN Hw3.out.2.2 _⟩
/-- The errors that a fault of term is held against. -/
structure ErrT (w : World) (aA aI aL : Addr) : Prop where
  a : Sent w 0 aA
  i : Sent w 1 aI
  l : Sent w 2 aL
  ia : aI ≠ aA
  il : aI ≠ aL
theorem ErrT.below {w w' : World} {aA aI aL : Addr} (h : ErrT w aA aI aL) (hb : Below w.heap.size w w') : ErrT w' aA aI aL := ⟨h.a.below hb, h.i.below hb, h.l.below hb, h.ia, h.il⟩
set_option maxHeartbeats 1000000 in
theorem bare_arg3 (aA : Addr) (w : World) (hE : w.cell? ⟨0, 0, none⟩ = some (.iface 201 (.pointer (some aA)))) :
    Calls Tryz.prog 89 #[.iface 201 (.pointer (some aA))] w fun e w' => e = .returned (.int .i64 1) ∧ w' = w := by
  go_enter Tryz.func89, Tryz.ntmps89
  go_wp2_with fail
  refine (is_bare_same aA _).mono ?_
  rintro e w' ⟨rfl, rfl⟩
  go_wp2_with fail
  go_ret
  exact ⟨rfl, rfl⟩
set_option maxHeartbeats 1000000 in
theorem code_index3 (pb : Nat) (aA aI aL : Addr) (w : World) (hE : ErrT w aA aI aL) (h1 : w.cell? ⟨pb, 3, none⟩ = some (.iface 201 (.pointer (some aI)))) :
    Calls Tryz.prog 89 #[.iface 124 (.pointer (some ⟨pb, 0, none⟩))] w fun e w' => e = .returned (.int .i64 3) ∧ w' = w := by
  obtain ⟨⟨gA, cA, tA, bA⟩, ⟨gI, cI, tI, bI⟩, ⟨gL, cL, tL, bL⟩, n1, n2⟩ := hE
  go_enter Tryz.func89, Tryz.ntmps89
  go_wp2_with fail
  refine (is_fault_other pb aA aI cI cA tI tA _ h1 n1 bI bA).mono ?_
  rintro e w' ⟨rfl, rfl⟩
  go_wp2_with fail
  refine (is_fault_other pb aL aI cI cL tI tL _ h1 n2 bI bL).mono ?_
  rintro e w' ⟨rfl, rfl⟩
  go_wp2_with fail
  refine (is_fault_same pb aI _ h1).mono ?_
  rintro e w' ⟨rfl, rfl⟩
  go_wp2_with fail
  go_ret
  exact ⟨rfl, rfl⟩
set_option maxHeartbeats 1000000 in
theorem bare_index3 (aA aI aL : Addr) (w : World) (hE : ErrT w aA aI aL) :
    Calls Tryz.prog 89 #[.iface 201 (.pointer (some aI))] w fun e w' => e = .returned (.int .i64 3) ∧ w' = w := by
  obtain ⟨⟨gA, cA, tA, bA⟩, ⟨gI, cI, tI, bI⟩, ⟨gL, cL, tL, bL⟩, n1, n2⟩ := hE
  go_enter Tryz.func89, Tryz.ntmps89
  go_wp2_with fail
  refine (is_bare_other aA aI cI cA tI tA _ n1 bI bA).mono ?_
  rintro e w' ⟨rfl, rfl⟩
  go_wp2_with fail
  refine (is_bare_other aL aI cI cL tI tL _ n2 bI bL).mono ?_
  rintro e w' ⟨rfl, rfl⟩
  go_wp2_with fail
  refine (is_bare_same aI _).mono ?_
  rintro e w' ⟨rfl, rfl⟩
  go_wp2_with fail
  go_ret
  exact ⟨rfl, rfl⟩
set_option maxHeartbeats 1000000 in
theorem bad_tm (k : Int) (w : World) : Calls Tryz.prog 31 #[.string ⟨#[116, 101, 114, 109]⟩, .int .i64 k] w fun e w' => e = .returned (.agg #[.int .i64 k, .int .i64 0, .int .i64 0, .string termB]) ∧ Below w.heap.size w w' := by
  have zs : (⟨#[116, 101, 114, 109]⟩ ++ ⟨#[32]⟩ : ByteArray) = termB := by decide
  go_enter Tryz.func31, Tryz.ntmps31
  go_wp2
  exact bodyPost_ret (v := .agg #[.int .i64 k, .int .i64 0, .int .i64 0, .string termB]) (by simp [results, Tryz.results31, go_sem]) rfl ⟨rfl, (Below.refl _ _).alloc (Nat.le_refl _) _⟩
set_option maxRecDepth 100000 in
theorem told3_arg (b : Nat) (aA : Addr) (w : World) (hE : Sent w 0 aA) (hF : TermFault w b (errV aA)) :
    Calls Tryz.prog 12 #[tFaultV b, .int .i64 1] w fun e w' => e = .returned (.bool true) ∧ Below w.heap.size w w' := by
  unfold tFaultV
  have HE : Hid _ := And.intro hE hF
  clear hE hF
  go_enter Tryz.func12, Tryz.ntmps12
  go_wp2_with fail
  refine (bad_tm 1 w).mono ?_
  rintro r w1 ⟨rfl, hb1⟩
  have hT := told_tm b 1 aA (fun W => Sent W 0 aA) (fun W W' h hb => h.below hb) (by decide) (fun W h h3 => code_arg3 b aA W h.1 h3) (fun W h => bare_arg3 aA W h.1) w1 (HE.out.1.below hb1) ((hb1.block _ (t_lt HE.out.2)).trans HE.out.2)
  have HT : Hid _ := And.intro hT hb1
  clear hT hb1
  go_wp2_with fail
  refine HT.out.1.mono ?_
  rintro r w2 ⟨rfl, hb2⟩
  have HB : Hid _ := HT.out.2.trans (hb2.mono HT.out.2.size)
  clear hb2
  go_wp2_with fail
  go_ret
  exact ⟨rfl, HB.out⟩
set_option maxRecDepth 100000 in
theorem told3_index (b : Nat) (aA aI aL : Addr) (w : World) (hE : ErrT w aA aI aL) (hF : TermFault w b (errV aI)) :
    Calls Tryz.prog 12 #[tFaultV b, .int .i64 3] w fun e w' => e = .returned (.bool true) ∧ Below w.heap.size w w' := by
  unfold tFaultV
  have HE : Hid _ := And.intro hE hF
  clear hE hF
  go_enter Tryz.func12, Tryz.ntmps12
  go_wp2_with fail
  refine (bad_tm 3 w).mono ?_
  rintro r w1 ⟨rfl, hb1⟩
  have hT := told_tm b 3 aI (fun W => ErrT W aA aI aL) (fun W W' h hb => h.below hb) (by decide) (fun W h h3 => code_index3 b aA aI aL W h h3) (fun W h => bare_index3 aA aI aL W h) w1 (HE.out.1.below hb1) ((hb1.block _ (t_lt HE.out.2)).trans HE.out.2)
  have HT : Hid _ := And.intro hT hb1
  clear hT hb1
  go_wp2_with fail
  refine HT.out.1.mono ?_
  rintro r w2 ⟨rfl, hb2⟩
  have HB : Hid _ := HT.out.2.trans (hb2.mono HT.out.2.size)
  clear hb2
  go_wp2_with fail
  go_ret
  exact ⟨rfl, HB.out⟩
end Go.Proofs.YthnenpncajpibaaGreatDoor
/- A store of the program and one of the document beside each other, and a list that came in. -/
namespace Go.Proofs.YthnenpncajpibaaGreatDoor
open Go.RowKit Go.Maps
/-- A list of these terms that stands while only blocks of F turn. -/
def Lst (w : World) (F : Nat → Prop) (v : Value) (l : List Tm) : Prop := ∃ ao cap, v = .slice ao l.length cap ∧ ∀ (i : Nat) (t : Tm), l[i]? = some t → ∃ g o vn vp, ∀ w', Kept F w w' → OneT w' ao i t g o vn vp
/-- Lengths that memory has room for. -/
def Room (t : Tm) : Prop := t.names.length * 8 ≤ 140737488351232 ∧ t.pairs.length * 16 ≤ 140737488351232
/-- The two stores, told from where the call began. -/
structure Two (w w' : World) (b c : Nat) (L M : List Tm) (F G F' G' : Nat → Prop) : Prop where
  s : StoB w' b L F'
  r : RStoB w' c M G'
  ap : ∀ i, F' i → ¬ G' i
  k : Kept (fun i => F i ∨ G i) w w'
  f : ∀ i, F' i → F i ∨ w.heap.size ≤ i
  g : ∀ i, G' i → G i ∨ w.heap.size ≤ i
theorem Two.start {w : World} {b c : Nat} {L M : List Tm} {F G : Nat → Prop} (h : StoB w b L F) (k : RStoB w c M G) (hd : ∀ i, F i → ¬ G i) : Two w w b c L M F G F G :=
  ⟨h, k, hd, Kept.refl _ _, fun _ h => .inl h, fun _ h => .inl h⟩
theorem Two.below {w w1 w2 : World} {b c : Nat} {L M : List Tm} {F G F' G' : Nat → Prop} (h : Two w w1 b c L M F G F' G') (hb : Below w1.heap.size w1 w2) : Two w w2 b c L M F G F' G' :=
  ⟨h.s.below hb, h.r.below hb, h.ap, h.k.trans (.of_below hb), h.f, h.g⟩
theorem Two.sput {w w1 w2 : World} {b c : Nat} {L L' M : List Tm} {F G F' G' F2 : Nat → Prop} (h : Two w w1 b c L M F G F' G') (hs : StoB w2 b L' F2) (hk : Kept F' w1 w2) (hf : ∀ i, F2 i → F' i ∨ w1.heap.size ≤ i) : Two w w2 b c L' M F G F2 G' := by
  refine ⟨hs, h.r.kept hk fun i hi hf => h.ap i hf hi, fun i hi hg => ?_, h.k.trans2 hk fun i hi => ?_, fun i hi => ?_, h.g⟩
  · rcases hf i hi with e | e
    · exact h.ap i e hg
    · have := h.r.foot_lt hg; omega
  · rcases h.f i hi with e | e
    · exact .inl (.inl e)
    · exact .inr e
  · rcases hf i hi with e | e
    · exact h.f i e
    · have := h.k.size; exact .inr (by omega)
theorem Two.rput {w w1 w2 : World} {b c : Nat} {L M M' : List Tm} {F G F' G' G2 : Nat → Prop} (h : Two w w1 b c L M F G F' G') (hs : RStoB w2 c M' G2) (hk : Kept G' w1 w2) (hf : ∀ i, G2 i → G' i ∨ w1.heap.size ≤ i) : Two w w2 b c L M' F G F' G2 := by
  refine ⟨h.s.kept hk fun i hi hf => h.ap i hi hf, hs, fun i hi hg => ?_, h.k.trans2 hk fun i hi => ?_, h.f, fun i hi => ?_⟩
  · rcases hf i hg with e | e
    · exact h.ap i hi e
    · have := h.s.foot_lt hi; omega
  · rcases h.g i hi with e | e
    · exact .inl (.inr e)
    · exact .inr e
  · rcases hf i hi with e | e
    · exact h.g i e
    · have := h.k.size; exact .inr (by omega)
/-- A block that was laid since and is none of the stores'. -/
theorem Two.other {w w1 w2 : World} {b c : Nat} {L M : List Tm} {F G F' G' H : Nat → Prop} (h : Two w w1 b c L M F G F' G') (hk : Kept H w1 w2) (hH : ∀ i, H i → w.heap.size ≤ i ∧ ¬ F' i ∧ ¬ G' i) : Two w w2 b c L M F G F' G' :=
  ⟨h.s.kept hk fun i hi hf => (hH i hf).2.1 hi, h.r.kept hk fun i hi hf => (hH i hf).2.2 hi, h.ap, h.k.trans2 hk fun i hi => .inr (hH i hi).1, h.f, h.g⟩
/-- The document's Put of a term that may be put. -/
theorem rput_ok (b : Nat) (L : List Tm) (F : Nat → Prop) (t : Tm) (vn vp : Value) (w : World) (hS : RStoB w b L F) (hn : HasI w vn t.names) (hp : HasP w vp t.pairs) (hmay : t.may L.length = true) (hlen : L.length < 100000) :
    Calls Tryz.prog 23 #[.pointer (some ⟨b, 0, none⟩), tmV t vn vp] w fun r w' => ∃ (k : Nat) (L' : List Tm) (F' : Nat → Prop), r = .returned (.int .i64 k) ∧ L'[k]? = some t ∧ ((t ∈ L ∧ L' = L) ∨ (t ∉ L ∧ L' = L ++ [t])) ∧ RStoB w' b L' F' ∧ Kept F w w' ∧ (∀ i, F' i → F i ∨ w.heap.size ≤ i) := by
  by_cases hin : t ∈ L
  · refine (rput_old b L F t vn vp w hS hn hp hmay hin).mono ?_
    rintro r w' ⟨⟨k, rfl, hk⟩, hb⟩
    exact ⟨k, L, F, rfl, hk, .inl ⟨hin, rfl⟩, hS.below hb, .of_below hb, fun i hi => .inl hi⟩
  · refine (rput_new b L F t vn vp w hS hn hp hmay hin hlen).mono ?_
    rintro r w' ⟨rfl, F', h1, h2, h3⟩
    exact ⟨L.length, L ++ [t], F', rfl, by simp, .inr ⟨hin, rfl⟩, h1, h2, h3⟩
/-- The program's Put likewise, and which of the two it was. -/
theorem put_ok2 (b : Nat) (L : List Tm) (F : Nat → Prop) (t : Tm) (vn vp : Value) (w : World) (hS : StoB w b L F) (hh : Hand w F t vn vp) (hmay : t.may L.length = true) (hlen : L.length < 100000) :
    Calls Tryz.prog 20 #[.pointer (some ⟨b, 0, none⟩), tmV t vn vp] w fun r w' => ∃ (k : Nat) (L' : List Tm) (F' : Nat → Prop), r = .returned (.tuple #[.int .i64 k, .nilIface]) ∧ L'[k]? = some t ∧ ((t ∈ L ∧ L' = L) ∨ (t ∉ L ∧ L' = L ++ [t])) ∧ StoB w' b L' F' ∧ Kept F w w' ∧ (∀ i, F' i → F i ∨ w.heap.size ≤ i) := by
  by_cases hin : t ∈ L
  · obtain ⟨k, hk, rfl⟩ := List.getElem_of_mem hin
    refine (put_old b L F _ vn vp w hS hh hmay k (List.getElem?_eq_getElem hk)).mono ?_
    rintro r w' ⟨rfl, hb⟩
    exact ⟨k, L, F, rfl, List.getElem?_eq_getElem hk, .inl ⟨hin, rfl⟩, hS.below hb, .of_below hb, fun i hi => .inl hi⟩
  · refine (put_new b L F t vn vp w hS hh hmay hin hlen).mono ?_
    rintro r w' ⟨rfl, F', h1, h2, h3⟩
    exact ⟨L.length, L ++ [t], F', rfl, by simp, .inr ⟨hin, rfl⟩, h1, h2, h3⟩
theorem both_same {L A B : List Tm} {t : Tm} (ha : (t ∈ L ∧ A = L) ∨ (t ∉ L ∧ A = L ++ [t])) (hb : (t ∈ L ∧ B = L) ∨ (t ∉ L ∧ B = L ++ [t])) : A = B := by
  rcases ha with ⟨h1, rfl⟩ | ⟨h1, rfl⟩ <;> rcases hb with ⟨h2, rfl⟩ | ⟨h2, rfl⟩ <;> first | rfl | exact absurd h1 h2 | exact absurd h2 h1
end Go.Proofs.YthnenpncajpibaaGreatDoor
