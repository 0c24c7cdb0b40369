/- Contracts of the document's Together and Classes. -/
import Derived.Test.YtcjeijmphgpecaaDoorSyCanon
import Derived.Test.YtcjeijmphgpecaaDoorSyRight
namespace Go.Proofs.YtcjeijmphgpecaaDoor
open Go.RowKit Go.Maps
attribute [local go_sem ↓] Go.wp_at_zero Go.wp_at_succ
theorem Sy.top_snoc (l : List Nat) (k : Nat) : Sy.top (l ++ [k]) = max (Sy.top l) (k + 1) := by
  induction l with
  | nil => simp [Sy.top]
  | cons a r ih => simp only [List.cons_append, Sy.top, ih]; omega
theorem Sy.top_le (l : List Nat) (m : Nat) (h : ∀ k ∈ l, k < m) : Sy.top l ≤ m := by
  induction l with
  | nil => simp [Sy.top]
  | cons a r ih =>
    have h1 := h a List.mem_cons_self
    have h2 := ih fun k hk => h k (List.mem_cons_of_mem _ hk)
    simp only [Sy.top]; omega
theorem Sy.canon_lt (zs : List Int) : ∀ k ∈ Sy.canon zs, k < zs.length := fun k hk => by
  have h1 := Sy.canonG_bound zs [] k hk
  have h2 := Sy.seenG_len zs []
  simp at h2; omega
set_option maxRecDepth 100000 in
set_option maxHeartbeats 4000000 in
theorem refTogether_any (v : Value) (zs : List Int) (w : World) (hv : HasI w v zs) (hn : zs.length ≤ 100000) :
    Calls Tryd.prog 22 #[v] w fun e w' => e = .returned (.int .i64 (Sy.together zs : Nat)) ∧ Below w.heap.size w w' := by
  have HC : Hid _ := refCanon_any v zs w hv hn
  obtain ⟨cs, hcs⟩ : ∃ cs, cs = Sy.canon zs := ⟨_, rfl⟩
  have hlen : cs.length = zs.length := by rw [hcs]; exact Sy.canonG_len zs []
  have HL : Hid _ := And.intro hcs (And.intro hlen (Sy.canon_lt zs))
  unfold Sy.together
  rw [← hcs] at HC ⊢
  obtain ⟨n, hN⟩ : ∃ n, n = cs.length := ⟨_, rfl⟩
  have HN : Hid (n = cs.length) := hN
  have hn2 : n ≤ 100000 := by omega
  clear hv hcs hlen hN
  go_enter Tryd.func22, Tryd.ntmps22
  go_wp2_with fail
  refine Calls.mono HC.out ?_
  rintro e w1 ⟨u, rfl, hO, hb1⟩
  have hI := hO.has
  obtain ⟨ao, cap, hu, hcells⟩ := hI
  have hnl : (natI cs).length = n := by unfold natI; rw [List.length_map]; exact HN.out.symm
  rw [hnl] at hu
  subst hu
  have H1 : Hid _ := And.intro hcells hb1
  clear hO hcells hb1 hnl HC
  go_wp2_with fail
  go_loopg [4, 5] n (fun q nv iv wr => ∃ i : Nat, q = n - i ∧ i ≤ n ∧ iv = .int .i64 i ∧ nv = .int .i64 (Sy.top (cs.take i) : Nat) ∧ wr = w1)
  case atStart => exact ⟨0, rfl, Nat.zero_le _, rfl, rfl, rfl⟩
  case round =>
    obtain ⟨i, rfl, hi, rfl, rfl, rfl⟩ := hrel
    by_cases hlt : i < n
    · obtain ⟨c, hc⟩ : ∃ c, cs[i]? = some c := ⟨cs[i]'(by have := HN.out; omega), List.getElem?_eq_getElem _⟩
      obtain ⟨a, rfl, c0⟩ := H1.out.1 i (c : Int) (by unfold natI; rw [List.getElem?_map, hc]; rfl)
      have hcb := HL.out.2.2 c (by rw [← HL.out.1]; exact List.mem_of_getElem? hc)
      have htop : Sy.top (cs.take (i + 1)) = max (Sy.top (cs.take i)) (c + 1) := by rw [take_succ_of hc, Sy.top_snoc]
      obtain ⟨t, ht⟩ : ∃ t, t = Sy.top (cs.take i) := ⟨_, rfl⟩
      rw [← ht] at htop ⊢
      have q0 : (0 : Int) ≤ (i : Int) := by omega
      have q1 : (i : Int) < (n : Int) := by omega
      have HT : Hid _ := htop
      clear hc htop ht
      by_cases hge : t ≤ c
      · have g1 : (t : Int) ≤ (c : Int) := by omega
        have g2 : IntKind.i64.wrap ((c : Int) + 1) = (c : Int) + 1 := by rw [IntKind.wrap_i64]; have := HL.out.2.1; omega
        go_wp2_with fail
        go_roundg (n - (i + 1))
        case measure => omega
        case rel => exact ⟨i + 1, rfl, by omega, by go_num, by rw [HT.out, Nat.max_eq_right (by omega)]; first | rfl | go_num, rfl⟩
      · have g1 : ¬ (t : Int) ≤ (c : Int) := by omega
        go_wp2_with fail
        go_roundg (n - (i + 1))
        case measure => omega
        case rel => exact ⟨i + 1, rfl, by omega, by go_num, by rw [HT.out, Nat.max_eq_left (by omega)], rfl⟩
    · obtain rfl : i = n := by omega
      have q1 : ¬ (i : Int) < (i : Int) := by omega
      go_wp2_with fail
      go_ret
      exact ⟨by rw [List.take_of_length_le (by have := HN.out; omega)]; rfl, H1.out.2⟩
/-- Are there as many as states, in their one form? -/
def Sy.classes (n : Int) (zs : List Int) : Bool := decide ((zs.length : Int) = n) && Sy.formG 0 zs
set_option maxRecDepth 100000 in
set_option maxHeartbeats 4000000 in
theorem refClasses_any (n k s : Int) (ve v : Value) (zs : List Int) (w : World) (hv : HasI w v zs) (hn : zs.length ≤ 100000) :
    Calls Tryd.prog 20 #[sysV n k s ve, v] w fun e w' => e = .returned (.bool (Sy.classes n zs)) ∧ Below w.heap.size w w' := by
  unfold sysV Sy.classes
  obtain ⟨ao, cap, rfl, hcells⟩ := hv
  obtain ⟨m, hm⟩ : ∃ m, m = zs.length := ⟨_, rfl⟩
  have HH : Hid _ := And.intro hcells hm
  rw [← hm] at hn ⊢
  clear hcells hm
  by_cases he : (m : Int) = n
  · have e1 : ((m : Int) != n) = false := by simpa using he
    rw [decide_eq_true he, Bool.true_and]
    obtain ⟨R, hR⟩ : ∃ R, R = Sy.formG 0 zs := ⟨_, rfl⟩
    have HR : Hid _ := hR
    rw [← hR]
    clear he hR
    go_enter Tryd.func20, Tryd.ntmps20
    go_wp2_with fail
    obtain ⟨w1, hw1⟩ : ∃ w1, w1 = w.alloc (.cells #[.int .i64 n, .int .i64 k, .int .i64 s, ve] 24) := ⟨_, rfl⟩
    have hb1 : Below w.heap.size w w1 := by rw [hw1]; exact (Below.refl _ _).alloc (Nat.le_refl _) _
    rw [← hw1]
    have H1 : Hid _ := hb1
    clear hw1 hb1
    go_loopg [5, 6] m (fun q nv iv wr => ∃ i c : Nat, q = m - i ∧ i ≤ m ∧ iv = .int .i64 i ∧ nv = .int .i64 c ∧ c ≤ i ∧ R = Sy.formG c (zs.drop i) ∧ wr = w1)
    case atStart => exact ⟨0, 0, rfl, Nat.zero_le _, rfl, rfl, Nat.le_refl _, HR.out, rfl⟩
    case round =>
      obtain ⟨i, c, rfl, hi, rfl, rfl, hci, hRi, rfl⟩ := hrel
      clear HR
      by_cases hlt : i < m
      · obtain ⟨z, hz⟩ : ∃ z, zs[i]? = some z := ⟨zs[i]'(by have := HH.out.2; omega), List.getElem?_eq_getElem _⟩
        obtain ⟨a, rfl, c0'⟩ := HH.out.1 i z hz
        have c0 := (H1.out.cell (World.block_lt_of_cell? w _ c0')).trans c0'
        have hdr : zs.drop i = z :: zs.drop (i + 1) := by
          obtain ⟨hl, rfl⟩ := List.getElem?_eq_some_iff.1 hz
          exact List.drop_eq_getElem_cons hl
        rw [hdr] at hRi
        have q0 : (0 : Int) ≤ (i : Int) := by omega
        have q1 : (i : Int) < (m : Int) := by omega
        have HRi : Hid _ := hRi
        clear hRi hdr hz c0'
        by_cases hz0 : z < 0
        · go_wp2_with fail
          go_ret
          refine ⟨?_, H1.out⟩
          rw [HRi.out]
          unfold Sy.formG
          rw [decide_eq_false (by omega)]
          rfl
        · by_cases hzc : (c : Int) < z
          · go_wp2_with fail
            go_ret
            refine ⟨?_, H1.out⟩
            rw [HRi.out]
            unfold Sy.formG
            rw [decide_eq_false (by omega)]
            rfl
          · by_cases hzn : z = (c : Int)
            · have g1 : (z == (c : Int)) = true := by simpa using hzn
              have HZ : Hid _ := hzn
              have g2 : IntKind.i64.wrap ((c : Int) + 1) = (c : Int) + 1 := by rw [IntKind.wrap_i64]; omega
              clear hzn
              go_wp2_with fail
              go_roundg (m - (i + 1))
              case measure => omega
              case rel => exact ⟨i + 1, c + 1, rfl, by omega, by go_num, by first | rfl | go_num, by omega, by
                rw [HRi.out]
                conv => lhs; unfold Sy.formG
                rw [decide_eq_true (by omega), if_pos HZ.out]
                rfl, rfl⟩
            · have g1 : (z == (c : Int)) = false := by simpa using hzn
              have HZ : Hid (¬ z = (c : Int)) := hzn
              clear hzn
              go_wp2_with fail
              go_roundg (m - (i + 1))
              case measure => omega
              case rel => exact ⟨i + 1, c, rfl, by omega, by go_num, rfl, by omega, by
                rw [HRi.out]
                conv => lhs; unfold Sy.formG
                rw [decide_eq_true (by omega), if_neg HZ.out]
                rfl, rfl⟩
      · obtain rfl : i = m := by omega
        have q1 : ¬ (i : Int) < (i : Int) := by omega
        have HRi : Hid _ := hRi
        clear hRi
        go_wp2_with fail
        go_ret
        refine ⟨?_, H1.out⟩
        rw [HRi.out, List.drop_eq_nil_of_le (by have := HH.out.2; omega)]
        rfl
  · have e1 : ((m : Int) != n) = true := by simpa using he
    rw [decide_eq_false he, Bool.false_and]
    clear he
    go_enter Tryd.func20, Tryd.ntmps20
    go_wp2_with fail
    go_ret
    exact ⟨rfl, (Below.refl _ _).alloc (Nat.le_refl _) _⟩
end Go.Proofs.YtcjeijmphgpecaaDoor
