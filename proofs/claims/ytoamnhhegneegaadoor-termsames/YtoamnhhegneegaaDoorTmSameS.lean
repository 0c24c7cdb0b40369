/- Contract of the store's Same. -/
import Derived.Test.YtoamnhhegneegaaDoorTmMoved
import Derived.Test.YtoamnhhegneegaaDoorTmSameT
namespace Go.Proofs.YtoamnhhegneegaaDoor
open Go.RowKit Go.Maps
attribute [local go_sem ↓] Go.wp_at_zero Go.wp_at_succ
namespace Tm
/-- Where a term stands. -/
def find (M : List Tm) (t : Tm) : Option Nat := M.findIdx? fun s => s.same t
def val (o : Option Nat) : Int := ((o.getD 0 : Nat) : Int)
/-- The numbers of the first n terms of L in M. -/
def numl (L M : List Tm) : Nat → List (Option Nat)
  | 0 => []
  | n + 1 => numl L M n ++ [match L[n]? with | some t => if t.parts.all (fun p => ((numl L M n).getD p.toNat none).isSome) then find M (t.moved fun p => val ((numl L M n).getD p.toNat none)) else none | none => none]
def num (L M : List Tm) (z : Nat) : Option Nat := (numl L M (z + 1)).getD z none
end Tm
theorem find_yes {M : List Tm} {t : Tm} {k : Nat} (nd : ∀ i j : Nat, M[i]? = some t → M[j]? = some t → i = j) (h : M[k]? = some t) : Tm.find M t = some k := by
  obtain ⟨hk, rfl⟩ := List.getElem?_eq_some_iff.1 h
  unfold Tm.find
  rw [List.findIdx?_eq_some_iff_getElem]
  refine ⟨hk, same_self _, fun j hj => ?_⟩
  rw [same_ne (fun e => by have := nd j k (by rw [List.getElem?_eq_getElem (by omega), e]) h; omega)]
  simp
theorem find_no {M : List Tm} {t : Tm} (h : t ∉ M) : Tm.find M t = none := by
  unfold Tm.find
  rw [List.findIdx?_eq_none_iff]
  intro x hx
  exact same_ne fun e => h (e ▸ hx)
theorem find_at {M : List Tm} {t : Tm} {k : Nat} (h : Tm.find M t = some k) : M[k]? = some t := by
  unfold Tm.find at h
  rw [List.findIdx?_eq_some_iff_getElem] at h
  obtain ⟨hk, h1, _⟩ := h
  rw [List.getElem?_eq_getElem hk, (same_iff _ _).1 h1]
theorem numl_length (L M : List Tm) : ∀ n, (Tm.numl L M n).length = n
  | 0 => rfl
  | n + 1 => by rw [Tm.numl, List.length_append, numl_length L M n]; rfl
theorem numl_get (L M : List Tm) : ∀ n z, z < n → (Tm.numl L M n).getD z none = Tm.num L M z
  | 0, z, h => by omega
  | n + 1, z, h => by
    rcases Nat.lt_or_ge z n with h1 | h1
    · rw [Tm.numl, List.getD_eq_getElem?_getD, List.getElem?_append_left (by rw [numl_length]; exact h1), ← List.getD_eq_getElem?_getD]
      exact numl_get L M n z h1
    · obtain rfl : z = n := by omega
      rfl
theorem num_of {L M : List Tm} (hG : Tm.Good L) {m : Nat} {t : Tm} (h : L[m]? = some t) : Tm.num L M m = if t.parts.all (fun p => (Tm.num L M p.toNat).isSome) then Tm.find M (t.moved fun p => Tm.val (Tm.num L M p.toNat)) else none := by
  have hp : ∀ p ∈ t.parts, (Tm.numl L M m).getD p.toNat none = Tm.num L M p.toNat := fun p hp => numl_get L M m _ (by have := good_parts hG h p hp; omega)
  have e1 : t.parts.all (fun p => ((Tm.numl L M m).getD p.toNat none).isSome) = t.parts.all (fun p => (Tm.num L M p.toNat).isSome) := by
    rw [Bool.eq_iff_iff]
    simp only [List.all_eq_true]
    exact ⟨fun h p hq => by rw [← hp p hq]; exact h p hq, fun h p hq => by rw [hp p hq]; exact h p hq⟩
  have e2 : t.moved (fun p => Tm.val ((Tm.numl L M m).getD p.toNat none)) = t.moved fun p => Tm.val (Tm.num L M p.toNat) := moved_congr fun p hq => by simp only [hp p hq]
  have hl := numl_length L M m
  have e3 : Tm.num L M m = (match L[m]? with | some t => if t.parts.all (fun p => ((Tm.numl L M m).getD p.toNat none).isSome) then Tm.find M (t.moved fun p => Tm.val ((Tm.numl L M m).getD p.toNat none)) else none | none => none) := by
    unfold Tm.num
    rw [Tm.numl, List.getD_eq_getElem?_getD, List.getElem?_append_right (by omega), hl]
    simp
  rw [e3, h]
  simp only
  rw [e1, e2]
theorem num_lt {L M : List Tm} (hG : Tm.Good L) {m : Nat} {t : Tm} (h : L[m]? = some t) {k : Nat} (hk : Tm.num L M m = some k) : k < M.length := by
  rw [num_of hG h] at hk
  split at hk
  · exact (List.getElem?_eq_some_iff.1 (find_at hk)).1
  · cases hk
/-- A part without a number leaves the whole without one. -/
theorem num_up {L M : List Tm} (hG : Tm.Good L) {id : Nat} {ts : List Int} (hw : Withi L id ts) : ∀ (d z : Nat), (z : Int) ∈ ts → L.length - z ≤ d → Tm.num L M z = none → Tm.num L M id = none := by
  intro d
  induction d with
  | zero => intro z hz hd; have := hw.range z hz; omega
  | succ d ih =>
    intro z hz hd hn
    rcases hw.frm z hz with e | ⟨y, hy, e⟩
    · obtain rfl : z = id := by omega
      exact hn
    · have hyr := hw.range y hy
      obtain ⟨m, rfl⟩ : ∃ m : Nat, y = m := ⟨y.toNat, by omega⟩
      obtain ⟨t, ht⟩ : ∃ t, L[m]? = some t := ⟨L[m]'(by omega), List.getElem?_eq_getElem _⟩
      rw [partsAt_of ht] at e
      have hlt := good_parts hG ht _ e
      refine ih m hy (by omega) ?_
      rw [num_of hG ht, if_neg]
      simp only [List.all_eq_true]
      intro h
      have := h (z : Int) e
      simp [hn] at this
/-- The numbers that are known. -/
def Nums (L M : List Tm) (ts : List Int) (j : Nat) (D : DataW Unit) : Prop := ∀ (q : Nat) (z : Int), q < j → ts[q]? = some z → (Tm.num L M z.toNat).isSome = true ∧ D.atKey (.int .i64 z) (.lit (.int .i64 0)) = .lit (.int .i64 (Tm.val (Tm.num L M z.toNat)))
theorem Nums.next {L M : List Tm} {ts : List Int} {j : Nat} {D : DataW Unit} (h : Nums L M ts j D) (hD : IsMap D) {m k : Nat} (hz : ts[j]? = some (m : Int)) (hk : Tm.num L M m = some k) (hr : ts.Pairwise (· < ·)) : Nums L M ts (j + 1) (D.put (.int .i64 (m : Int)) (.lit (.int .i64 (k : Int)))) := fun q y hq hy => by
  rcases Nat.lt_or_ge q j with h1 | h1
  · have hne : y ≠ (m : Int) := by
      obtain ⟨hq', rfl⟩ := List.getElem?_eq_some_iff.1 hy
      obtain ⟨hj', he⟩ := List.getElem?_eq_some_iff.1 hz
      have := List.pairwise_iff_getElem.1 hr q j hq' hj' h1
      omega
    rw [atKey_put_other (fun e => hne (by injection e))]
    exact h q y h1 hy
  · obtain rfl : q = j := by omega
    rw [hz] at hy
    cases hy
    rw [Int.toNat_natCast, hk]
    exact ⟨rfl, atKey_put_same hD (ikey _) _ _⟩
theorem Nums.part {L M : List Tm} {id : Int} {ts : List Int} {j : Nat} {D : DataW Unit} (h : Nums L M ts j D) (hw : Withi L id ts) (hG : Tm.Good L) {m : Nat} {t : Tm} (hz : ts[j]? = some (m : Int)) (ht : L[m]? = some t) {p : Int} (hp : p ∈ t.parts) : (Tm.num L M p.toNat).isSome = true ∧ D.atKey (.int .i64 p) (.lit (.int .i64 0)) = .lit (.int .i64 (Tm.val (Tm.num L M p.toNat))) := by
  have hc := hw.closed (m : Int) (List.mem_of_getElem? hz) p (by rw [partsAt_of ht]; exact hp)
  have hlt := good_parts hG ht p hp
  obtain ⟨q, hq, rfl⟩ := List.getElem_of_mem hc
  obtain ⟨hj, he⟩ := List.getElem?_eq_some_iff.1 hz
  refine h q _ ?_ (List.getElem?_eq_getElem hq)
  rcases Nat.lt_or_ge q j with h1 | h1
  · exact h1
  · exfalso
    rcases Nat.lt_or_ge j q with h2 | h2
    · have := List.pairwise_iff_getElem.1 hw.rise j q hj hq h2
      omega
    · obtain rfl : q = j := by omega
      omega
theorem num_small {L M : List Tm} (hG : Tm.Good L) (hM : M.length ≤ 100000) {m : Nat} {t : Tm} (ht : L[m]? = some t) {p : Int} (hp : p ∈ t.parts) : 0 ≤ Tm.val (Tm.num L M p.toNat) ∧ Tm.val (Tm.num L M p.toNat) ≤ 1000000 := by
  unfold Tm.val
  cases e : Tm.num L M p.toNat with
  | none => simp
  | some k =>
    have hlt := good_parts hG ht p hp
    have hml := (List.getElem?_eq_some_iff.1 ht).1
    have := num_lt hG (m := p.toNat) (t := L[p.toNat]'(by omega)) (List.getElem?_eq_getElem _) e
    simp
    omega
set_option maxRecDepth 100000 in
theorem QMem.looks {w wr : World} {v : Value} {ts : List Int} {bm n : Nat} {D : DataW Unit} (h : QMem w wr v ts bm n D) {p q : Int} (hp : (Lit.int .i64 p).wf = true) (hat : D.atKey (.int .i64 p) (.lit (.int .i64 0)) = .lit (.int .i64 q)) : ∀ W, Below wr.heap.size wr W → Looks W bm p q := fun W hb => by
  obtain ⟨c, hrun, hc, _⟩ := (h.below hb).map.lookup_int Tryd.lawI Tryd.underlying66 Tryd.underlying3 (Tryd.zeroI3 W) (keyOf_int_mk (a := p) Tryd.underlying3 hp)
  rw [hat] at hc
  injection hc with hc
  injection hc with _ hc
  subst hc
  exact hrun
set_option maxRecDepth 100000 in
set_option maxHeartbeats 4000000 in
theorem same_yes (b b2 : Nat) (L M : List Tm) (F F2 : Nat → Prop) (id other : Nat) (w : World) (hS : StoB w b L F) (hS2 : StoB w b2 M F2) (hG : Tm.Good L) (hid : id < L.length) (ho : other < M.length) :
    Calls Tryd.prog 13 #[.pointer (some ⟨b, 0, none⟩), .int .i64 id, .pointer (some ⟨b2, 0, none⟩), .int .i64 other] w fun r w' => r = .returned (.tuple #[.bool (Tm.num L M id == some other), .nilIface]) ∧ Below w.heap.size w w' := by
  have hbig := hS.big
  have hbig2 := hS2.big
  obtain ⟨ao, cap, hc⟩ := hS.cell
  obtain ⟨ao2, cap2, hc2⟩ := hS2.cell
  have hl := lacks_no b ao L.length cap id w hc (by simp [Tm.has]; omega)
  have hl2 := lacks_no b2 ao2 M.length cap2 other w hc2 (by simp [Tm.has]; omega)
  have hb0 : Below w.heap.size w (w.alloc (.map #[] 0)) := (Below.refl _ _).alloc (Nat.le_refl _) _
  have hwi := within_any b L F id (w.alloc (.map #[] 0)) (hS.below hb0) hG hid
  have hmade := World.ownsMap_made (H := Unit) w Tryd.prog 3 (plainElem Tryd.prog 3)
  have hmm := @run_makeMap Tryd.prog
  have HL : Hid _ := And.intro hl (And.intro hl2 (And.intro hwi (And.intro hmade hb0)))
  have HS : Hid _ := And.intro hS (And.intro hS2 hG)
  clear hl hl2 hwi hmade hb0 hS hS2 hG hc hc2
  go_enter Tryd.func13, Tryd.ntmps13
  go_wp2_with fail
  refine HL.out.1.mono ?_
  rintro r w1 ⟨rfl, hw⟩
  obtain rfl := hw.symm
  go_wp2_with fail
  refine HL.out.2.1.mono ?_
  rintro r w1 ⟨rfl, hw⟩
  obtain rfl := hw.symm
  go_wp2_with fail
  refine HL.out.2.2.1.mono ?_
  rintro r w1 ⟨v, ts, rfl, hO, hWi, hb1⟩
  have hQ : QMem w w1 v ts w.heap.size 0 (.map []) := ⟨HL.out.2.2.2.2.trans (hb1.mono HL.out.2.2.2.2.size), row_base hO HL.out.2.2.2.2.size, map_at HL.out.2.2.2.1 (hb1.block _ HL.out.2.2.2.1.lt), Nat.le_refl _⟩
  obtain ⟨g, capt, rfl, hgB, htc⟩ := hQ.row.form (fun e => by have := hWi.head; rw [e] at this; simp at this)
  have htl : ts.length ≤ L.length := nodup_le _ _ (hWi.rise.imp fun h => by omega) hWi.range
  obtain ⟨n, hn⟩ : ∃ n, n = ts.length := ⟨_, rfl⟩
  rw [← hn] at htl htc ⊢
  have HQ : Hid _ := And.intro hQ (And.intro hWi hn)
  clear hQ hO hWi hb1 hn hmm HL
  go_wp2_with fail
  go_loopg [34] n (fun q iv wr => ∃ (j : Nat) (D : DataW Unit), q = n - j ∧ j ≤ n ∧ iv = .int .i64 j ∧ Nums L M ts j D ∧ QMem w wr (.slice (some ⟨g, 0, none⟩) n capt) ts w.heap.size j D)
  case atStart => exact ⟨0, .map [], rfl, Nat.zero_le _, rfl, fun q z h => by omega, by rw [HQ.out.2.2]; exact HQ.out.1⟩
  case round =>
    obtain ⟨j, D, rfl, hj, rfl, hNu, hQ⟩ := hrel
    by_cases hlt : j < n
    · obtain ⟨z, hz⟩ : ∃ z, ts[j]? = some z := ⟨ts[j]'(by have := HQ.out.2.2; omega), List.getElem?_eq_getElem _⟩
      have hzr := HQ.out.2.1.range z (List.mem_of_getElem? hz)
      obtain ⟨m, rfl⟩ : ∃ m : Nat, z = m := ⟨z.toNat, by omega⟩
      obtain ⟨t, ht⟩ : ∃ t, L[m]? = some t := ⟨L[m]'(by omega), List.getElem?_eq_getElem _⟩
      have twf := HS.out.1.wf t (List.mem_of_getElem? ht)
      obtain ⟨gt, ct, vn, vp, hA, _, _, _⟩ := (HS.out.1.below hQ.bl).at ht
      have hnA := hA.n
      have hpA := hA.p
      have hMv := moved_any t (fun p => Tm.val (Tm.num L M p.toNat)) vn vp w.heap.size wr hnA hpA
      have hpn : ∀ p ∈ t.parts, (Lit.int .i64 p).wf = true := fun p hp => WalkArith.wf_i64 (by have := good_parts HS.out.2.2 ht p hp; omega)
      have hMv := fun W (hb : Below wr.heap.size wr W) => moved_any t (fun p => Tm.val (Tm.num L M p.toNat)) vn vp w.heap.size W (hnA.below hb) (hpA.below hb) (fun p hp W' hb' => hQ.looks (hpn p hp) (hNu.part HQ.out.2.1 HS.out.2.2 hz ht hp).2 W' (hb.trans (hb'.mono hb.size)))
      have mwf := moved_wf twf (f := fun p => Tm.val (Tm.num L M p.toNat)) (fun p hp => num_small HS.out.2.2 hbig2 ht hp)
      have hKy := fun W (hb : Below wr.heap.size wr W) => keyOf_any (t.moved fun p => Tm.val (Tm.num L M p.toNat)) vn vp W (hnA.below hb) (hpA.below hb) (by have := mwf.nl; omega) (by have := mwf.pl; omega) mwf.nb mwf.pb
      obtain ⟨vt2, vm2, vs2, hS2, hF2⟩ := HS.out.2.1.below hQ.bl
      obtain ⟨an, cn, rfl, _⟩ := _root_.id hA.n
      obtain ⟨ap, cp, rfl, _⟩ := _root_.id hA.p
      obtain ⟨c0, x0, x1, x2, x3, x4, x5, _, _⟩ := hA
      have li := hQ.row.cell hz
      obtain ⟨e0, e1⟩ := t_cells hS2.cell
      have q0 : (0 : Int) ≤ (j : Int) := by omega
      have q1 : (j : Int) < (n : Int) := by omega
      have q2 : (0 : Int) ≤ (m : Int) := by omega
      have q3 : (m : Int) < (L.length : Int) := by omega
      have hnum : Tm.num L M m = Tm.find M (t.moved fun p => Tm.val (Tm.num L M p.toNat)) := by
        rw [num_of HS.out.2.2 ht, if_pos]
        rw [List.all_eq_true]
        exact fun p hp => (hNu.part HQ.out.2.1 HS.out.2.2 hz ht hp).1
      unfold tmV at hMv hKy
      have HV : Hid _ := And.intro hMv hKy
      have HI : Hid _ := And.intro hNu (And.intro hQ (And.intro hz (And.intro ht (And.intro hS2 (And.intro mwf hnum)))))
      clear hNu hQ hz ht hMv hKy hS2 mwf hnum hF2 hpn hnA hpA twf e0
      generalize (t.moved fun p => Tm.val (Tm.num L M p.toNat)) = s at HV HI
      by_cases hin : s ∈ M
      · obtain ⟨k, hk⟩ : ∃ k : Nat, M[k]? = some s := by
          obtain ⟨k, hk, he⟩ := List.getElem_of_mem hin
          exact ⟨k, by rw [List.getElem?_eq_getElem hk, he]⟩
        have hkl := (List.getElem?_eq_some_iff.1 hk).1
        have hnk : Tm.num L M m = some k := by rw [HI.out.2.2.2.2.2.2]; exact find_yes (fun i j h1 h2 => HS.out.2.1.nodup h1 h2) hk
        have HN : Hid _ := hnk
        clear hnk hin
        go_wp2_with fail
        go_region_law
          ((first
            | (go_simp; go_at_call 30; refine (HV.out.1 _ (by repeat (first | exact Below.refl _ _ | assumption | refine Below.drew ?_ | refine Below.setCell ?_ (by simp) _ | refine Below.alloc ?_ (by simp) _))).mono ?_; rintro r2 w2 ⟨rfl, hb2'⟩; have hb2 := below_of_drew3 hb2'; clear c0 x0 x1 x2 x3 x4 x5 e1; obtain ⟨e0, e1⟩ := t_cells (HI.out.2.2.2.2.1.below hb2).cell; have H2 : Hid _ := hb2; clear hb2 hb2' e0)
            | (go_simp; go_at_call 29; refine (HV.out.2 _ H2.out).mono ?_; rintro r3 w3 ⟨rfl, hb3⟩; have hb9 : Below wr.heap.size wr w3 := H2.out.trans (hb3.mono H2.out.size); have hS3 := HI.out.2.2.2.2.1.below hb9; have hrun := hS3.look_yes hk; obtain ⟨w4, hrun4, ho4, hg4⟩ := (HI.out.2.1.below hb9).map.update Tryd.lawI Tryd.underlying66 (by unfold maxLen; omega) (keyOf_int_mk (a := (m : Int)) Tryd.underlying3 (WalkArith.wf_i64 (by omega))) (plainElem_int (a := (k : Int)) Tryd.underlying3 (WalkArith.wf_i64 (by omega))); have H4 : Hid _ := (HI.out.2.1.below hb9).put ho4 hg4; clear ho4 hg4; clear e1; obtain ⟨e0, e1⟩ := t_cells hS3.cell; have H3 : Hid _ := hb9; clear hb9 hb3 hS3 e0 H2)))
        all_goals
          (try go_simp)
          go_wp2_with fail
          go_roundg (n - (j + 1))
          case measure => omega
          case rel => exact ⟨j + 1, _, rfl, by omega, by go_num, HI.out.1.next HI.out.2.1.map.isMap HI.out.2.2.1 HN.out HQ.out.2.1.rise, H4.out⟩
      · have hnk : Tm.num L M m = none := by rw [HI.out.2.2.2.2.2.2]; exact find_no hin
        have HN : Hid ((Tm.num L M id == some other) = false) := (by rw [num_up HS.out.2.2 HQ.out.2.1 _ m (List.mem_of_getElem? HI.out.2.2.1) (Nat.le_refl _) hnk]; rfl : (Tm.num L M id == some other) = false)
        clear hnk
        go_wp2_with fail
        go_region_law
          ((first
            | (go_simp; go_at_call 30; refine (HV.out.1 _ (by repeat (first | exact Below.refl _ _ | assumption | refine Below.drew ?_ | refine Below.setCell ?_ (by simp) _ | refine Below.alloc ?_ (by simp) _))).mono ?_; rintro r2 w2 ⟨rfl, hb2'⟩; have hb2 := below_of_drew3 hb2'; clear c0 x0 x1 x2 x3 x4 x5 e1; obtain ⟨e0, e1⟩ := t_cells (HI.out.2.2.2.2.1.below hb2).cell; have H2 : Hid _ := hb2; clear hb2 hb2' e0)
            | (go_simp; go_at_call 29; refine (HV.out.2 _ H2.out).mono ?_; rintro r3 w3 ⟨rfl, hb3⟩; have hb9 : Below wr.heap.size wr w3 := H2.out.trans (hb3.mono H2.out.size); have hS3 := HI.out.2.2.2.2.1.below hb9; obtain ⟨c9, hrun⟩ := hS3.look_no HI.out.2.2.2.2.2.1 hin; clear e1; obtain ⟨e0, e1⟩ := t_cells hS3.cell; have H3 : Hid _ := hb9; clear hb9 hb3 hS3 e0 H2)))
        all_goals
          (try go_simp)
          go_wp2_with fail
          go_ret2
          exact ⟨by rw [HN.out]; rfl, HI.out.2.1.bl.trans (H3.out.mono HI.out.2.1.bl.size)⟩
    · obtain rfl : j = n := by omega
      have q1 : ¬ (j : Int) < (j : Int) := by omega
      obtain ⟨q, hq, hqe⟩ := List.getElem_of_mem HQ.out.2.1.head
      obtain ⟨hsome, hat⟩ := hNu q (id : Int) (by have := HQ.out.2.2; omega) (by rw [List.getElem?_eq_getElem hq, hqe])
      have hrun := hQ.looks (WalkArith.wf_i64 (by omega)) hat wr (Below.refl _ _)
      unfold Looks at hrun
      have HB : Hid _ := hQ.bl
      rw [Int.toNat_natCast] at hsome hrun
      obtain ⟨k, hk⟩ := Option.isSome_iff_exists.1 hsome
      rw [hk] at hrun
      have hv : Tm.val (some k) = (k : Int) := rfl
      rw [hv] at hrun
      have HK : Hid (((k : Int) == (other : Int)) = (Tm.num L M id == some other)) := (by rw [hk, Bool.eq_iff_iff]; simp only [beq_iff_eq, Option.some.injEq]; omega : ((k : Int) == (other : Int)) = (Tm.num L M id == some other))
      clear hNu hQ hqe hsome hat hk hv
      go_wp2_with fail
      go_ret2
      exact ⟨by rw [← HK.out]; rfl, HB.out⟩
end Go.Proofs.YtoamnhhegneegaaDoor
