/- SystemOneForm, out of contracts of the program's own functions. -/
import Derived.Test.YtcjeijmphgpecaaDoorSyProg
import Derived.Test.YtcjeijmphgpecaaDoorSyOne0
import Derived.Test.YtcjeijmphgpecaaDoorBSame
import Derived.Deep.QuietTactic
import Derived.BigQuiet
namespace Go.Proofs.YtcjeijmphgpecaaDoor
open Go.RowKit Go.Maps
attribute [local go_sem ↓] Go.wp_at_zero Go.wp_at_succ
/-- All pairs ahead of (i, k) say the same together. -/
def Sy.Pr (a b : List Int) (i k : Nat) : Prop := ∀ (i' k' : Nat) (x y u v : Int), (i' < i ∧ k' < i' ∨ i' = i ∧ k' < k) → a[i']? = some x → a[k']? = some y → b[i']? = some u → b[k']? = some v → (x = y ↔ u = v)
theorem Sy.Pr.zero (a b : List Int) : Sy.Pr a b 0 0 := fun i' k' _ _ _ _ h => by omega
theorem Sy.Pr.row {a b : List Int} {i : Nat} : Sy.Pr a b (i + 1) 0 ↔ Sy.Pr a b i i :=
  ⟨fun h i' k' x y u v hh => h i' k' x y u v (by omega), fun h i' k' x y u v hh => h i' k' x y u v (by omega)⟩
theorem Sy.Pr.next {a b : List Int} {i k : Nat} {x y u v : Int} (hx : a[i]? = some x) (hy : a[k]? = some y) (hu : b[i]? = some u) (hv : b[k]? = some v) : Sy.Pr a b i (k + 1) ↔ Sy.Pr a b i k ∧ (x = y ↔ u = v) := by
  constructor
  · intro h
    exact ⟨fun i' k' p q r s hh => h i' k' p q r s (by omega), h i k x y u v (.inr ⟨rfl, by omega⟩) hx hy hu hv⟩
  · rintro ⟨h, h2⟩ i' k' p q r s hh hp hq hr hs
    by_cases e : i' = i ∧ k' = k
    · obtain ⟨rfl, rfl⟩ := e
      rw [hx] at hp; rw [hy] at hq; rw [hu] at hr; rw [hv] at hs
      cases hp; cases hq; cases hr; cases hs
      exact h2
    · exact h i' k' p q r s (by omega) hp hq hr hs
theorem Sy.Pr.all {a b : List Int} (hl : a.length = b.length) : Sy.Pr a b a.length 0 ↔ Sy.canon a = Sy.canon b := by
  rw [Sy.canon_iff hl]
  constructor
  · intro h i k x y u v hx hy hu hv
    have h1 := (List.getElem?_eq_some_iff.1 hx).1
    have h2 := (List.getElem?_eq_some_iff.1 hy).1
    by_cases e : k < i
    · exact h i k x y u v (.inl ⟨h1, e⟩) hx hy hu hv
    · by_cases e2 : i = k
      · subst e2
        rw [hx] at hy; rw [hu] at hv
        cases hy; cases hv
        simp
      · have h3 := h k i y x v u (.inl ⟨h2, by omega⟩) hy hx hv hu
        exact ⟨fun h4 => (h3.1 h4.symm).symm, fun h4 => (h3.2 h4.symm).symm⟩
  · intro h i k x y u v _ hx hy hu hv
    exact h i k x y u v hx hy hu hv
theorem natI_inj {a b : List Nat} (h : natI a = natI b) : a = b := by
  unfold natI at h
  exact List.map_inj_right (fun x y e => Int.ofNat.inj e) |>.1 h
theorem i64_canon (l : List Int) (hl : l.length ≤ 100000) : I64s (natI (Sy.canon l)) := fun z hz => by
  unfold natI at hz
  obtain ⟨q, hq, rfl⟩ := List.mem_map.1 hz
  have := Sy.canon_lt l q hq
  exact WalkArith.wf_i64 (by omega)
set_option maxRecDepth 100000 in
set_option maxHeartbeats 4000000 in
theorem lawOne_off (va vb : Value) (a b : List Int) (w : World) (hA : PAlive w) (ha : HasI w va a) (hb : HasI w vb b) (hoff : 60 < a.length ∨ a.length ≠ b.length) :
    Calls Tryd.prog 5 #[va, vb] w fun r w' => r = .returned (.bool true) ∧ Below w.heap.size w w' := by
  obtain ⟨ao, ca, rfl, _⟩ := ha
  obtain ⟨bo, cb, rfl, _⟩ := hb
  obtain ⟨m, hm⟩ : ∃ m, m = a.length := ⟨_, rfl⟩
  obtain ⟨p, hp⟩ : ∃ p, p = b.length := ⟨_, rfl⟩
  rw [← hm, ← hp] at hoff ⊢
  have HP : Hid _ := hA
  clear hm hp hA
  by_cases h1 : 60 < m
  · have q1 : (60 : Int) < (m : Int) := by omega
    clear hoff
    go_enter Tryd.func5, Tryd.ntmps5
    go_wp2_with fail
    refine Calls.mono (HP.out _ (Below.refl _ _)) ?_
    rintro r w1 ⟨rfl, hb1⟩
    have HB : Hid _ := hb1
    clear hb1
    go_wp2_with fail
    go_ret
    exact ⟨rfl, HB.out⟩
  · have q1 : ¬ (60 : Int) < (m : Int) := by omega
    have q2 : ((m : Int) != (p : Int)) = true := by simp; omega
    clear hoff
    go_enter Tryd.func5, Tryd.ntmps5
    go_wp2_with fail
    refine Calls.mono (HP.out _ (Below.refl _ _)) ?_
    rintro r w1 ⟨rfl, hb1⟩
    have HB : Hid _ := hb1
    clear hb1
    go_wp2_with fail
    go_ret
    exact ⟨rfl, HB.out⟩
theorem hasI_at {w : World} {ao : Option Addr} {n cap : Nat} {zs : List Int} (h : HasI w (.slice ao n cap) zs) {i : Nat} {z : Int} (hz : zs[i]? = some z) : ∃ a, ao = some a ∧ w.cell? (a.add i) = some (.int .i64 z) := by
  obtain ⟨ao', cap', hv, hc⟩ := h
  injection hv with e1 e2 e3
  subst e1
  exact hc i z hz
set_option maxRecDepth 100000 in
set_option maxHeartbeats 8000000 in
theorem lawOne_on (hCa : PCanon) (hCl : PClasses) (va vb : Value) (a b : List Int) (w : World) (hA : PAlive w) (ha : HasI w va a) (hb : HasI w vb b) (hwa : I64s a) (hwb : I64s b) (hn : a.length ≤ 60) (hab : a.length = b.length) :
    Calls Tryd.prog 5 #[va, vb] w fun r w' => r = .returned (.bool true) ∧ Below w.heap.size w w' := by
  obtain ⟨ca, hca⟩ : ∃ ca, ca = natI (Sy.canon a) := ⟨_, rfl⟩
  obtain ⟨cb, hcb⟩ : ∃ cb, cb = natI (Sy.canon b) := ⟨_, rfl⟩
  have hla : ca.length = a.length := by rw [hca, Sy.natI_map, List.length_map]
  have hlb : cb.length = a.length := by rw [hcb, Sy.natI_map, List.length_map, hab]
  have h1 := hCa va a w ha (by omega) hwa
  rw [← hca] at h1
  have hC2 : ∀ W, Below w.heap.size w W → Calls Tryd.prog 16 #[vb] W fun r w' => ∃ u, r = .returned u ∧ OwnI w' W.heap.size u cb ∧ Below W.heap.size W w' := fun W h => by rw [hcb]; exact hCa vb b W (hb.below h) (by omega) hwb
  have hC3 : ∀ (v : Value) (W : World), HasI W v ca → Calls Tryd.prog 16 #[v] W fun r w' => ∃ u, r = .returned u ∧ OwnI w' W.heap.size u ca ∧ Below W.heap.size W w' := fun v W h => by
    have h2 := hCa v ca W h (by omega) (by rw [hca]; exact i64_canon a (by omega))
    have e : Sy.canon ca = Sy.canon a := by rw [hca]; exact Sy.canon_idem a
    rw [e, ← hca] at h2
    exact h2
  have hC4 : ∀ (v : Value) (W : World), HasI W v ca → Calls Tryd.prog 19 #[sysV (a.length : Nat) 0 0 (.slice none 0 0), v] W fun r w' => r = .returned (.bool true) ∧ Below W.heap.size W w' := fun v W h => by
    have h2 := hCl (a.length : Nat) 0 0 (.slice none 0 0) v ca W h (by omega) (by rw [hca]; exact i64_canon a (by omega))
    have e : Sy.classes (a.length : Nat) ca = true := by rw [hca]; exact Sy.classes_canon a _ rfl
    rw [e] at h2
    exact h2
  have hE : ∀ (i k : Nat) (x y u v : Int), a[i]? = some x → a[k]? = some y → ca[i]? = some u → ca[k]? = some v → (u = v ↔ x = y) := fun i k x y u v hx hy hu hv => by
    rw [hca] at hu hv
    exact Sy.canon_eq hx hy hu hv
  have hF : (ca == cb) = true ↔ Sy.Pr a b a.length 0 := by
    rw [Sy.Pr.all hab, beq_iff_eq, hca, hcb]
    exact ⟨natI_inj, fun h => by rw [h]⟩
  obtain ⟨ao, cap, rfl, _⟩ := id ha
  obtain ⟨bo, cbp, rfl, _⟩ := id hb
  obtain ⟨m, hm⟩ : ∃ m, m = a.length := ⟨_, rfl⟩
  rw [← hab, ← hm] at hC2 ⊢
  rw [← hab] at hb
  rw [← hm] at hla hlb h1 hC4 hF hn ha hb
  have q1 : ¬ (60 : Int) < (m : Int) := by omega
  have q2 : ((m : Int) != (m : Int)) = false := by simp
  have H1 : Hid _ := h1
  have HC : Hid _ := And.intro hC2 (And.intro hC3 hC4)
  have HE : Hid _ := And.intro hE (And.intro hF (And.intro hm (hm.trans hab)))
  have HP : Hid _ := And.intro hA (And.intro ha hb)
  have HL : Hid _ := And.intro hla hlb
  clear h1 hC2 hC3 hC4 hE hF hA ha hb hm hab hCa hCl hca hcb hla hlb hwa hwb
  unfold sysV at HC
  go_enter Tryd.func5, Tryd.ntmps5
  go_wp2_with fail
  refine Calls.mono H1.out ?_
  rintro r w1 ⟨u1, rfl, hO1, hb1⟩
  obtain ⟨a1, c1, hu1⟩ := row_shape hO1
  rw [HL.out.1] at hu1
  obtain rfl := hu1
  have HO1 : Hid _ := And.intro hO1 hb1
  clear hO1 hb1 H1
  go_wp2_with fail
  refine Calls.mono (HC.out.1 _ HO1.out.2) ?_
  rintro r w2 ⟨u2, rfl, hO2, hb2⟩
  obtain ⟨a2, c2, hu2⟩ := row_shape hO2
  rw [HL.out.2] at hu2
  obtain rfl := hu2
  have HO2 : Hid (OwnI w2 w1.heap.size (.slice a2 m c2) cb ∧ OwnI w2 w.heap.size (.slice a1 m c1) ca ∧ Below w.heap.size w w2) := (⟨hO2, trow_at HO1.out.1 fun b hb => hb2.block b (HO1.out.1.lt b hb).2, HO1.out.2.trans (hb2.mono HO1.out.2.size)⟩ : OwnI w2 w1.heap.size (.slice a2 m c2) cb ∧ OwnI w2 w.heap.size (.slice a1 m c1) ca ∧ Below w.heap.size w w2)
  clear hO2 hb2 HO1
  go_wp2_with fail
  refine Calls.mono (HC.out.2.1 _ _ (OwnI.has HO2.out.2.1)) ?_
  rintro r w3 ⟨u3, rfl, hO3, hb3⟩
  obtain ⟨a3, c3, hu3⟩ := row_shape hO3
  rw [HL.out.1] at hu3
  obtain rfl := hu3
  have HO3 : Hid _ := And.intro hO3 hb3
  clear hO3 hb3
  go_wp2_with fail
  have hS := sameInts_b _ _ ca ca w3 (by have := HL.out.1; omega) (by have := HL.out.1; omega) (OwnI.has HO3.out.1) ((OwnI.has HO2.out.2.1).below HO3.out.2)
  rw [beq_self_eq_true] at hS
  refine Calls.mono hS ?_
  rintro r w4 ⟨rfl, hb4⟩
  have hb24 : Below w2.heap.size w2 w4 := HO3.out.2.trans (hb4.mono HO3.out.2.size)
  have HO4 : Hid (HasI w4 (.slice a2 m c2) cb ∧ HasI w4 (.slice a1 m c1) ca ∧ HasI w4 (.slice ao m cap) a ∧ HasI w4 (.slice bo m cbp) b ∧ Below w.heap.size w w4) := (⟨(OwnI.has HO2.out.1).below hb24, (OwnI.has HO2.out.2.1).below hb24, HP.out.2.1.below (HO2.out.2.2.trans (hb24.mono HO2.out.2.2.size)), HP.out.2.2.below (HO2.out.2.2.trans (hb24.mono HO2.out.2.2.size)), HO2.out.2.2.trans (hb24.mono HO2.out.2.2.size)⟩ : HasI w4 (.slice a2 m c2) cb ∧ HasI w4 (.slice a1 m c1) ca ∧ HasI w4 (.slice ao m cap) a ∧ HasI w4 (.slice bo m cbp) b ∧ Below w.heap.size w w4)
  clear hS hb4 hb24 HO3 HO2
  go_wp2_with fail
  go_loopg [7, 8] m (fun q sv iv wr => ∃ (i d : Nat) (f : Bool), q = m - i ∧ i ≤ m ∧ iv = .int .i64 i ∧ sv = .bool f ∧ (f = true ↔ Sy.Pr a b i 0) ∧ wr = w4.drewN d)
  case atStart => exact ⟨0, 0, true, rfl, Nat.zero_le _, rfl, rfl, ⟨fun _ => Sy.Pr.zero a b, fun _ => rfl⟩, rfl⟩
  case round =>
    obtain ⟨i, d, f, rfl, hi, rfl, rfl, hf, rfl⟩ := hrel
    by_cases hlt : i < m
    · have q0 : (0 : Int) ≤ (i : Int) := by omega
      have q3 : (i : Int) < (m : Int) := by omega
      have HF0 : Hid (f = true ↔ Sy.Pr a b i 0) := hf
      clear hf
      go_wp2_with fail
      go_loopg [7, 9] i (fun q sv kv wr => ∃ (k d : Nat) (f : Bool), q = i - k ∧ k ≤ i ∧ kv = .int .i64 k ∧ sv = .bool f ∧ (f = true ↔ Sy.Pr a b i k) ∧ wr = w4.drewN d)
      case atStart => exact ⟨0, d, f, rfl, Nat.zero_le _, rfl, rfl, HF0.out, rfl⟩
      case round =>
        obtain ⟨k, d, f, rfl, hk, rfl, rfl, hf, rfl⟩ := hrel
        by_cases hki : k < i
        · obtain ⟨x, hx⟩ : ∃ x, a[i]? = some x := ⟨a[i]'(by have := HE.out.2.2.1; omega), List.getElem?_eq_getElem _⟩
          obtain ⟨y, hy⟩ : ∃ y, a[k]? = some y := ⟨a[k]'(by have := HE.out.2.2.1; omega), List.getElem?_eq_getElem _⟩
          obtain ⟨p, hp⟩ : ∃ p, ca[i]? = some p := ⟨ca[i]'(by have := HL.out.1; omega), List.getElem?_eq_getElem _⟩
          obtain ⟨r, hr⟩ : ∃ r, ca[k]? = some r := ⟨ca[k]'(by have := HL.out.1; omega), List.getElem?_eq_getElem _⟩
          obtain ⟨s, hs⟩ : ∃ s, b[i]? = some s := ⟨b[i]'(by have := HE.out.2.2.2; omega), List.getElem?_eq_getElem _⟩
          obtain ⟨t, ht⟩ : ∃ t, b[k]? = some t := ⟨b[k]'(by have := HE.out.2.2.2; omega), List.getElem?_eq_getElem _⟩
          obtain ⟨aa, hao, x0⟩ := hasI_at HO4.out.2.2.1 hx
          obtain ⟨aa', hao', y0⟩ := hasI_at HO4.out.2.2.1 hy
          obtain ⟨ba, hbo, s0⟩ := hasI_at HO4.out.2.2.2.1 hs
          obtain ⟨ba', hbo', t0⟩ := hasI_at HO4.out.2.2.2.1 ht
          obtain ⟨ga, hgo, p0⟩ := hasI_at HO4.out.2.1 hp
          obtain ⟨ga', hgo', r0⟩ := hasI_at HO4.out.2.1 hr
          obtain rfl : aa = aa' := Option.some.inj (hao.symm.trans hao')
          obtain rfl : ba = ba' := Option.some.inj (hbo.symm.trans hbo')
          obtain rfl : ga = ga' := Option.some.inj (hgo.symm.trans hgo')
          subst hao; subst hbo; subst hgo
          have k0 : (0 : Int) ≤ (k : Int) := by omega
          have k1 : (k : Int) < (i : Int) := by omega
          have k2 : (k : Int) < (m : Int) := by omega
          have hpr : (p == r) = (x == y) := by
            have h9 := HE.out.1 i k x y p r hx hy hp hr
            rw [Bool.eq_iff_iff, beq_iff_eq, beq_iff_eq]
            exact h9
          have hnx := Sy.Pr.next hx hy hs ht
          have HX : Hid _ := And.intro hnx hf
          clear hx hy hp hr hs ht hnx hf hao' hbo' hgo'
          rcases Bool.eq_false_or_eq_true (x == y) with e1 | e1 <;> rcases Bool.eq_false_or_eq_true (s == t) with e3 | e3
          all_goals
            have e2 := hpr.trans e1
            have HY : Hid _ := And.intro e1 e3
            clear hpr
            cases f with
            | false =>
              go_wp2_with fail
              go_quiet (fail)
              rw [World.drewN_drewN]
              go_wp2_with fail
              go_quiet (fail)
              rw [World.drewN_drewN]
              go_wp2
              go_roundg (i - (k + 1))
              case measure => omega
              case rel => exact ⟨k + 1, _, false, rfl, by omega, by go_num, rfl, ⟨fun h => by simp at h, fun h => HX.out.2.2 (HX.out.1.1 h).1⟩, rfl⟩
            | true =>
              go_wp2_with fail
              go_quiet (fail)
              rw [World.drewN_drewN]
              go_wp2_with fail
              go_quiet (fail)
              rw [World.drewN_drewN]
              go_wp2
              go_roundg (i - (k + 1))
              case measure => omega
              case rel =>
                refine ⟨k + 1, _, (x == y) == (s == t), rfl, by omega, by go_num, by rw [HY.out.1, HY.out.2]; rfl, ?_, rfl⟩
                rw [HX.out.1]
                have h9 := HX.out.2.1 (by first | rfl | trivial)
                refine ⟨fun h => ⟨h9, ?_⟩, fun h => ?_⟩
                · rw [beq_iff_eq, Bool.eq_iff_iff, beq_iff_eq, beq_iff_eq] at h
                  exact h
                · rw [beq_iff_eq, Bool.eq_iff_iff, beq_iff_eq, beq_iff_eq]
                  exact h.2
        · obtain rfl : k = i := by omega
          have k1 : ¬ (k : Int) < (k : Int) := by omega
          have HX : Hid _ := hf
          clear hf
          go_wp2_with fail
          go_roundg (m - (k + 1))
          case measure => omega
          case rel => exact ⟨k + 1, _, f, rfl, by omega, by go_num, rfl, HX.out.trans Sy.Pr.row.symm, rfl⟩
    · obtain rfl : i = m := by omega
      have q3 : ¬ (i : Int) < (i : Int) := by omega
      have hfb : f = (ca == cb) := by rw [Bool.eq_iff_iff, hf, HE.out.2.1]
      have hbd : Below w4.heap.size w4 (w4.drewN d) := below_drewN (Below.refl _ _) _
      have hb5 : Below w.heap.size w (w4.drewN d) := HO4.out.2.2.2.2.trans (hbd.mono HO4.out.2.2.2.2.size)
      have h2 := HP.out.1 _ hb5
      have HG : Hid _ := And.intro h2 (And.intro hbd (And.intro hb5 hfb))
      clear h2 hbd hb5 hfb hf
      go_wp2_with fail
      refine Calls.mono HG.out.1 ?_
      rintro r w5 ⟨rfl, hb5⟩
      have hb45 : Below w4.heap.size w4 w5 := HG.out.2.1.trans (hb5.mono HG.out.2.1.size)
      have H5 : Hid _ := And.intro hb45 (HO4.out.2.2.2.2.trans (hb45.mono HO4.out.2.2.2.2.size))
      clear hb5 hb45
      go_wp2_with fail
      have hS := sameInts_b _ _ ca cb w5 (by have := HL.out.1; omega) (by have := HL.out.2; omega) (HO4.out.2.1.below H5.out.1) (HO4.out.1.below H5.out.1)
      rw [← HG.out.2.2.2] at hS
      refine Calls.mono hS ?_
      rintro r w6 ⟨rfl, hb6⟩
      have ff : (f == f) = true := by simp
      have H6 : Hid _ := And.intro (H5.out.1.trans (hb6.mono H5.out.1.size)) (H5.out.2.trans (hb6.mono H5.out.2.size))
      clear hb6 hS
      go_wp2_with fail
      refine Calls.mono (HC.out.2.2 _ _ (HO4.out.2.1.below H6.out.1)) ?_
      rintro r w7 ⟨rfl, hb7⟩
      have H7 : Hid _ := H6.out.2.trans (hb7.mono H6.out.2.size)
      clear hb7
      go_wp2_with fail
      go_ret
      exact ⟨rfl, H7.out⟩
theorem lawOne_of (hCa : PCanon) (hCl : PClasses) (va vb : Value) (a b : List Int) (w : World) (hA : PAlive w) (ha : HasI w va a) (hb : HasI w vb b) (hwa : I64s a) (hwb : I64s b) :
    Calls Tryd.prog 5 #[va, vb] w fun r w' => r = .returned (.bool true) ∧ Below w.heap.size w w' := by
  by_cases h : 60 < a.length ∨ a.length ≠ b.length
  · exact lawOne_off va vb a b w hA ha hb h
  · exact lawOne_on hCa hCl va vb a b w hA ha hb hwa hwb (by omega) (by omega)
end Go.Proofs.YtcjeijmphgpecaaDoor
