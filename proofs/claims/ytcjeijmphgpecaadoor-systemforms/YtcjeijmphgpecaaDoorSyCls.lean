/- Contracts of slices.Equal of numbers, and of the program's Canon, Together and Classes. -/
import Derived.Test.YtcjeijmphgpecaaDoorSyNum
import Derived.Test.YtcjeijmphgpecaaDoorBSame
namespace Go.Proofs.YtcjeijmphgpecaaDoor
open Go.RowKit Go.Maps
set_option maxRecDepth 100000 in
set_option maxHeartbeats 1000000 in
theorem slEqual_any (va vb : Value) (za zb : List Int) (w : World) (hn : za.length ≤ 1000000000000000) (hm : zb.length ≤ 1000000000000000) (hA : HasI w va za) (hB : HasI w vb zb) :
    Calls Tryd.prog 41 #[va, vb] w fun e w' => e = .returned (.bool (za == zb)) ∧ Below w.heap.size w w' := by
  obtain ⟨ao, cap, rfl, hcA⟩ := hA
  obtain ⟨ao', cap', rfl, hcB⟩ := hB
  by_cases hlen : za.length = zb.length
  · obtain ⟨n, hN⟩ : ∃ n, n = za.length := ⟨_, rfl⟩
    have HH : Hid _ := And.intro hcA (And.intro hcB (And.intro hN (hN.trans hlen)))
    rw [← hlen, ← hN]
    rw [← hN] at hn
    clear hcA hcB hN hlen hm
    have q : ((n : Int) != (n : Int)) = false := by simp
    go_enter Tryd.func41, Tryd.ntmps41
    go_wp2
    go_loopg [13] n (fun g i wr => ∃ j m : Nat, g = n - j ∧ j ≤ n ∧ i = .int .i64 j ∧ za.take j = zb.take j ∧ wr = w.drewN m)
    case atStart => exact ⟨0, 0, rfl, Nat.zero_le _, rfl, rfl, rfl⟩
    case round =>
      obtain ⟨j, m, rfl, hj, rfl, heq, rfl⟩ := hrel
      have HQ : Hid _ := heq
      clear heq
      by_cases hlt : j < n
      · obtain ⟨x, hx⟩ : ∃ z, za[j]? = some z := ⟨za[j]'(by have := HH.out.2.2.1; omega), List.getElem?_eq_getElem _⟩
        obtain ⟨y, hy⟩ : ∃ z, zb[j]? = some z := ⟨zb[j]'(by have := HH.out.2.2.2; omega), List.getElem?_eq_getElem _⟩
        obtain ⟨a, rfl, c0⟩ := HH.out.1 j x hx
        obtain ⟨b, rfl, d0⟩ := HH.out.2.1 j y hy
        have q0 : (0 : Int) ≤ (j : Int) := by omega
        have q1 : (j : Int) < (n : Int) := by omega
        by_cases hxy : x = y
        · subst hxy
          have HT : Hid _ := take_both hx hy HQ.out
          clear hx hy
          go_wp2_with fail
          go_quiet (fail)
          go_wp2
          go_roundg (n - (j + 1))
          case measure => omega
          case rel => exact ⟨j + 1, _, rfl, by omega, by go_num, HT.out, by first | rfl | exact World.drewN_drewN _ _ _⟩
        · have e1 : (x == y) = false := by simpa using hxy
          have HF : Hid ((za == zb) = false) := (by
            rw [beq_eq_false_iff_ne]
            rintro rfl
            rw [hx] at hy
            exact hxy (Option.some.inj hy) : (za == zb) = false)
          clear hx hy hxy
          go_wp2_with fail
          go_quiet (fail)
          go_wp2
          go_ret
          exact ⟨by rw [HF.out]; rfl, by first | exact below_drewN (below_drewN (Below.refl _ _) _) _ | exact below_drewN (Below.refl _ _) _⟩
      · obtain rfl : j = n := by omega
        have q1 : ¬ (j : Int) < (j : Int) := by omega
        have HF : Hid ((za == zb) = true) := (by
          rw [beq_iff_eq]
          exact eq_len HH.out.2.2.1.symm HH.out.2.2.2.symm HQ.out : (za == zb) = true)
        go_wp2
        go_ret
        exact ⟨by rw [HF.out]; rfl, below_drewN (Below.refl _ _) _⟩
  · have q : ((za.length : Int) != (zb.length : Int)) = true := by rw [bne_iff_ne]; omega
    have HF : Hid ((za == zb) = false) := (by rw [beq_eq_false_iff_ne]; rintro rfl; exact hlen rfl : (za == zb) = false)
    clear hcA hcB hlen
    go_enter Tryd.func41, Tryd.ntmps41
    go_wp2
    go_ret
    exact ⟨by rw [HF.out]; rfl, Below.refl _ _⟩
namespace Sy
theorem natI_range_len (k : Nat) : (natI (List.range k)).length = k := by simp [natI]
theorem place_range (k : Nat) (c : Int) (h0 : 0 ≤ c) (h1 : c ≤ k) : ((place c (natI (List.range k)) : Nat) : Int) = c := by
  obtain ⟨m, rfl⟩ : ∃ m : Nat, c = (m : Int) := ⟨c.toNat, by omega⟩
  by_cases h : m < k
  · have hm : (m : Int) ∈ natI (List.range k) := by
      unfold natI
      exact List.mem_map.2 ⟨m, List.mem_range.2 h, rfl⟩
    have h2 := place_at hm
    obtain ⟨hl, h3⟩ := List.getElem?_eq_some_iff.1 h2
    simp only [natI, List.getElem_map, List.getElem_range] at h3
    exact h3
  · obtain rfl : m = k := by omega
    rw [place_not, natI_range_len]
    intro hm
    unfold natI at hm
    obtain ⟨x, hx, e⟩ := List.mem_map.1 hm
    have := List.mem_range.1 hx
    omega
theorem formG_own (l : List Int) : ∀ k : Nat, formG k l = true → natI (canonG (natI (List.range k)) l) = l := by
  induction l with
  | nil => intro k _; rfl
  | cons c r ih =>
    intro k h
    simp only [formG, Bool.and_eq_true, decide_eq_true_eq] at h
    obtain ⟨⟨h0, h1⟩, h2⟩ := h
    have hp := place_range k c h0 h1
    show ((place c (natI (List.range k)) : Nat) : Int) :: natI (canonG (if place c (natI (List.range k)) < (natI (List.range k)).length then natI (List.range k) else natI (List.range k) ++ [c]) r) = c :: r
    rw [hp]
    congr 1
    rw [natI_range_len]
    by_cases e : c = (k : Int)
    · rw [if_pos e] at h2
      rw [if_neg (by omega)]
      have h3 := ih (k + 1) h2
      rw [List.range_succ] at h3
      subst e
      simpa [natI] using h3
    · rw [if_neg e] at h2
      rw [if_pos (by omega)]
      exact ih k h2
theorem formG_iff (l : List Int) : formG 0 l = (l == natI (canon l)) := by
  cases h : formG 0 l with
  | true =>
    have h1 := formG_own l 0 h
    symm
    rw [beq_iff_eq]
    exact h1.symm
  | false =>
    symm
    rw [beq_eq_false_iff_ne]
    intro e
    have h1 := formG_canon l []
    rw [show canonG [] l = canon l from rfl, ← e] at h1
    rw [show ([] : List Int).length = 0 from rfl, h] at h1
    cases h1
end Sy
set_option maxRecDepth 100000 in
theorem pCanon : PCanon := fun v zs W hv hn hw => by
  have hC := numbered_any v zs W hv hn hw
  go_enter Tryd.func16, Tryd.ntmps16
  go_wp2_with (go_at_call 40; refine hC.mono ?_; rintro r w1 ⟨u, rfl, hO, hb⟩; have HO : Hid _ := And.intro hO hb; clear hO hb)
  go_ret
  exact ⟨u, rfl, HO.out.1, HO.out.2⟩
set_option maxRecDepth 100000 in
theorem pTogether : PTogether := fun v zs W hv hn hw => by
  have hC := numbered_any v zs W hv hn hw
  go_enter Tryd.func21, Tryd.ntmps21
  go_wp2_with (go_at_call 40; refine hC.mono ?_; rintro r w1 ⟨u, rfl, hO, hb⟩; have HO : Hid _ := And.intro hO hb; clear hO hb)
  go_ret
  exact ⟨rfl, HO.out.2⟩
set_option maxRecDepth 100000 in
set_option maxHeartbeats 1000000 in
theorem pClasses : PClasses := fun n k s ve v zs W hv hn hw => by
  unfold sysV Sy.classes
  rw [Sy.formG_iff]
  have hv0 := hv
  obtain ⟨ao, cap, rfl, _⟩ := hv0
  obtain ⟨m, hm⟩ : ∃ m, m = zs.length := ⟨_, rfl⟩
  have hl : (natI (Sy.canon zs)).length = zs.length := by simp [natI, Sy.canon, Sy.canonG_len]
  have hC : ∀ W', Below W.heap.size W W' → Calls Tryd.prog 16 #[.slice ao zs.length cap] W' fun r w' => ∃ u, r = .returned u ∧ OwnI w' W'.heap.size u (natI (Sy.canon zs)) ∧ Below W'.heap.size W' w' := fun W' hb => pCanon _ zs W' (hv.below hb) hn hw
  have hE : ∀ W' u B, Below W.heap.size W W' → OwnI W' B u (natI (Sy.canon zs)) → Calls Tryd.prog 41 #[.slice ao zs.length cap, u] W' fun r w' => r = .returned (.bool (zs == natI (Sy.canon zs))) ∧ Below W'.heap.size W' w' := fun W' u B hb hu => slEqual_any _ _ _ _ W' (by omega) (by omega) (hv.below hb) hu.has
  have HC : Hid _ := hC
  have HE : Hid _ := hE
  rw [← hm] at HC HE ⊢
  generalize (zs == natI (Sy.canon zs)) = ans at HE ⊢
  clear hC hE hl hm hv hw hn
  by_cases he : (m : Int) = n
  · have e1 : ((m : Int) == n) = true := by simp [he]
    have e2 : decide ((m : Int) = n) = true := by simp [he]
    rw [e2, Bool.true_and]
    clear he e2
    go_enter Tryd.func19, Tryd.ntmps19
    go_wp2_with (first
      | (go_at_call 16; refine (HC.out _ (by repeat (first | exact Below.refl _ _ | assumption | refine Below.drew ?_ | refine Below.setCell ?_ (by simp) _ | refine Below.alloc ?_ (by simp) _))).mono ?_; rintro r w1 ⟨u, rfl, hO, hb⟩; have HO : Hid _ := And.intro hO hb; clear hO hb)
      | (go_at_call 41; refine (HE.out _ u _ (((Below.refl _ W).alloc (Nat.le_refl _) _).trans (HO.out.2.mono (by simp))) HO.out.1).mono ?_; rintro r w2 ⟨rfl, hb2⟩))
    go_ret
    exact ⟨rfl, (((Below.refl _ W).alloc (Nat.le_refl _) _).trans (HO.out.2.mono (by simp))).trans (hb2.mono (by have := HO.out.2.size; simp at this; omega))⟩
  · have e1 : ((m : Int) == n) = false := by simp [he]
    have e2 : decide ((m : Int) = n) = false := by simp [he]
    rw [e2, Bool.false_and]
    clear he e2
    go_enter Tryd.func19, Tryd.ntmps19
    go_wp2
    go_ret
    exact ⟨rfl, (Below.refl _ W).alloc (Nat.le_refl _) _⟩
end Go.Proofs.YtcjeijmphgpecaaDoor
