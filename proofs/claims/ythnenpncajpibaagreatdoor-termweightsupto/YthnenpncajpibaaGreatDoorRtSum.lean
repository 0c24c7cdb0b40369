/- The document's store, plain: sums; contract of its sum. -/
import Derived.Test.YthnenpncajpibaaGreatDoorTmGet
import Derived.WalkSmall
import Derived.Deep.LoopGhost
namespace Go.Proofs.YthnenpncajpibaaGreatDoor
open Go.RowKit Go.Maps
namespace Tm
def s0 (t : Tm) : Int := t.kind + 31 * t.a + 17 * t.b + 7 * t.label
def s1 (ns : List Int) (v : Int) : Int := ns.foldl (fun v z => v + 3 * z) v
def s2 (ps : List (Int × Int)) (v : Int) : Int := ps.foldl (fun v p => v + 5 * p.1 + 11 * p.2) v
/-- The sum of all fields, and the row in which the term is. -/
def sumV (t : Tm) : Int := s2 t.pairs (s1 t.names t.s0)
def hash (t : Tm) : Nat := (t.sumV % 512).toNat
theorem s1_bd : ∀ (ns : List Int) (v : Int), (∀ z ∈ ns, 0 ≤ z ∧ z ≤ 255) → v ≤ s1 ns v ∧ s1 ns v ≤ v + 765 * ns.length
  | [], v, _ => by simp [s1]
  | z :: r, v, h => by
    have h1 := h z (by simp)
    have := s1_bd r (v + 3 * z) fun y hy => h y (by simp [hy])
    simp only [s1, List.foldl_cons, List.length_cons] at this ⊢
    omega
theorem s2_bd : ∀ (ps : List (Int × Int)) (v : Int), (∀ p ∈ ps, (0 ≤ p.1 ∧ p.1 ≤ 255) ∧ (0 ≤ p.2 ∧ p.2 ≤ 255)) → v ≤ s2 ps v ∧ s2 ps v ≤ v + 4080 * ps.length
  | [], v, _ => by simp [s2]
  | p :: r, v, h => by
    have h1 := h p (by simp)
    have := s2_bd r (v + 5 * p.1 + 11 * p.2) fun y hy => h y (by simp [hy])
    simp only [s2, List.foldl_cons, List.length_cons] at this ⊢
    omega
theorem s1_snoc (ns : List Int) (z v : Int) : s1 (ns ++ [z]) v = s1 ns v + 3 * z := by simp [s1]
theorem s2_snoc (ps : List (Int × Int)) (p : Int × Int) (v : Int) : s2 (ps ++ [p]) v = s2 ps v + 5 * p.1 + 11 * p.2 := by simp [s2]
/-- Small fields. -/
structure Bd (t : Tm) : Prop where
  k : 0 ≤ t.kind ∧ t.kind ≤ 7
  l : 0 ≤ t.label ∧ t.label ≤ 1000
  a : 0 ≤ t.a ∧ t.a ≤ 1000000
  b : 0 ≤ t.b ∧ t.b ≤ 1000000
  nb : ∀ z ∈ t.names, 0 ≤ z ∧ z ≤ 255
  pb : ∀ p ∈ t.pairs, (0 ≤ p.1 ∧ p.1 ≤ 255) ∧ (0 ≤ p.2 ∧ p.2 ≤ 255)
  nl : t.names.length ≤ 100
  pl : t.pairs.length ≤ 100
theorem Bd.s0 {t : Tm} (h : t.Bd) : 0 ≤ t.s0 ∧ t.s0 ≤ 100000000 := by
  have := h.k; have := h.l; have := h.a; have := h.b
  simp only [Tm.s0]; omega
theorem mem_take {α : Type} {l : List α} {j : Nat} {x : α} (h : x ∈ l.take j) : x ∈ l := List.mem_of_mem_take h
theorem Bd.s1 {t : Tm} (h : t.Bd) (j : Nat) : 0 ≤ Tm.s1 (t.names.take j) t.s0 ∧ Tm.s1 (t.names.take j) t.s0 ≤ 101000000 := by
  have h1 := s1_bd (t.names.take j) t.s0 fun z hz => h.nb z (mem_take hz)
  have h2 := h.s0
  have h3 := h.nl
  have h4 : (t.names.take j).length ≤ t.names.length := by rw [List.length_take]; omega
  omega
theorem Bd.s2 {t : Tm} (h : t.Bd) (j : Nat) : 0 ≤ Tm.s2 (t.pairs.take j) (Tm.s1 t.names t.s0) ∧ Tm.s2 (t.pairs.take j) (Tm.s1 t.names t.s0) ≤ 102000000 := by
  have h1 := s2_bd (t.pairs.take j) (Tm.s1 t.names t.s0) fun z hz => h.pb z (mem_take hz)
  have h2 := h.s1 t.names.length
  rw [List.take_length] at h2
  have h3 := h.pl
  have h4 : (t.pairs.take j).length ≤ t.pairs.length := by rw [List.length_take]; omega
  omega
theorem hash_lt (t : Tm) : t.hash < 512 := by unfold hash; omega
end Tm
theorem may_bd {n : Nat} {t : Tm} (hn : n ≤ 1000000) (h : t.may n = true) : t.Bd := by
  have hw := may_wf hn h
  obtain ⟨k, l, a, b, ns, ps⟩ := t
  simp only [Tm.may, Bool.and_eq_true] at h
  obtain ⟨hr, hz⟩ := h
  simp only [Tm.rest, Bool.and_eq_true, Bool.or_eq_true, beq_iff_eq, bne_iff_ne, List.length_eq_zero_iff] at hz
  obtain ⟨⟨⟨⟨z1, z2⟩, z3⟩, z4⟩, z5⟩ := hz
  unfold Tm.right at hr
  simp only at hr
  have core : (0 ≤ k ∧ k ≤ 7) ∧ (0 ≤ l ∧ l ≤ 1000) ∧ (0 ≤ a ∧ a ≤ 1000000) ∧ (0 ≤ b ∧ b ≤ 1000000) := by
    split at hr
    · rename_i hk; subst hk
      simp at z1 z2 z3
      refine ⟨?_, ?_, ?_, ?_⟩ <;> omega
    split at hr
    · rename_i hk; subst hk
      simp at z3
      simp only [Bool.and_eq_true, decide_eq_true_eq, has_iff] at hr
      refine ⟨?_, ?_, ?_, ?_⟩ <;> omega
    split at hr
    · rename_i hk
      simp only [Bool.and_eq_true, has_iff] at hr
      refine ⟨?_, ?_, ?_, ?_⟩ <;> omega
    split at hr
    · rename_i hk; subst hk
      simp at z1 z3
      simp only [Bool.and_eq_true, has_iff] at hr
      refine ⟨?_, ?_, ?_, ?_⟩ <;> omega
    split at hr
    · rename_i hk; subst hk
      simp at z1 z3
      simp only [Bool.and_eq_true, has_iff] at hr
      refine ⟨?_, ?_, ?_, ?_⟩ <;> omega
    split at hr
    · rename_i hk; subst hk
      simp at z1 z3
      simp only [decide_eq_true_eq] at hr
      refine ⟨?_, ?_, ?_, ?_⟩ <;> omega
    · cases hr
  exact ⟨core.1, core.2.1, core.2.2.1, core.2.2.2, hw.nb, hw.pb, hw.nl, hw.pl⟩
theorem take_next {α : Type} {l : List α} {j : Nat} {x : α} (h : l[j]? = some x) : l.take (j + 1) = l.take j ++ [x] := by rw [List.take_add_one, h]; rfl
set_option maxRecDepth 100000 in
set_option maxHeartbeats 1600000 in
theorem rsum_any (t : Tm) (vn vp : Value) (w : World) (hn : HasI w vn t.names) (hp : HasP w vp t.pairs) (hB : t.Bd) :
    Calls Tryz.prog 85 #[tmV t vn vp] w fun r w' => r = .returned (.int .i64 t.hash) ∧ Below w.heap.size w w' := by
  obtain ⟨W, hW⟩ : ∃ W, W = w.alloc (.cells #[.int .i64 t.kind, .int .i64 t.label, .int .i64 t.a, .int .i64 t.b, vn, vp] 35) := ⟨_, rfl⟩
  have hb : Below w.heap.size w W := by rw [hW]; exact (Below.refl _ _).alloc (Nat.le_refl _) _
  have hX : W.heap[w.heap.size]? = some (.cells #[.int .i64 t.kind, .int .i64 t.label, .int .i64 t.a, .int .i64 t.b, vn, vp] 35 (0, 0)) := by rw [hW]; exact (MapKept.heap_alloc w _).1
  obtain ⟨an, cn, rfl, hcn⟩ := hn.below hb
  obtain ⟨ap, cp, rfl, hcp⟩ := hp.below hb
  obtain ⟨x0, x1, x2, x3, x4, x5, xf⟩ := six6 hX
  obtain ⟨k, l, a, b, ns, ps⟩ := t
  have b1 := hB.k; have b2 := hB.l; have b3 := hB.a; have b4 := hB.b; have b5 := hB.nl; have b6 := hB.pl
  simp only at b1 b2 b3 b4 b5 b6 hcn hcp x0 x1 x2 x3 x4 x5
  obtain ⟨n, hN⟩ : ∃ n, n = ns.length := ⟨_, rfl⟩
  obtain ⟨m, hM⟩ : ∃ m, m = ps.length := ⟨_, rfl⟩
  obtain ⟨s, hs⟩ : ∃ s, s = k + 31 * a + 17 * b + 7 * l := ⟨_, rfl⟩
  simp only at hW
  rw [← hN, ← hM] at hW
  have HH : Hid _ := And.intro hB (And.intro hcn (And.intro hcp (And.intro hN (And.intro hM (And.intro hb (And.intro hW hs))))))
  unfold tmV
  simp only
  rw [← hN] at b5 x4 ⊢
  rw [← hM] at b6 x5 ⊢
  clear hB hcn hcp hN hM hX hb hs hn hp hW
  go_enter Tryz.func85, Tryz.ntmps85
  go_wp2_with fail
  rw [← HH.out.2.2.2.2.2.2.1]
  go_loopg [3, 4] n (fun g v i wr => ∃ j : Nat, g = n - j ∧ j ≤ n ∧ i = .int .i64 j ∧ v = .int .i64 (Tm.s1 (ns.take j) (k + 31 * a + 17 * b + 7 * l)) ∧ W = wr)
  case atStart => exact ⟨0, rfl, Nat.zero_le _, rfl, rfl, rfl⟩
  case round =>
    obtain ⟨j, rfl, hj, rfl, rfl, rfl⟩ := hrel
    have hbd := HH.out.1.s1 j
    obtain ⟨v, hv⟩ : ∃ v, v = Tm.s1 (ns.take j) (k + 31 * a + 17 * b + 7 * l) := ⟨_, rfl⟩
    have hbd' : 0 ≤ v ∧ v ≤ 101000000 := by rw [hv]; exact hbd
    rw [← hv]
    have HV : Hid _ := hv
    clear hv hbd
    by_cases hlt : j < n
    · obtain ⟨z, hz⟩ : ∃ z, ns[j]? = some z := ⟨ns[j]'(by have := HH.out.2.2.2.1; omega), List.getElem?_eq_getElem _⟩
      obtain ⟨aa, rfl, c0⟩ := HH.out.2.1 j z hz
      have q0 : (0 : Int) ≤ (j : Int) := by omega
      have q1 : (j : Int) < (n : Int) := by omega
      have hzb := HH.out.1.nb z (List.mem_of_getElem? hz)
      have HZ : Hid (Tm.s1 (ns.take (j + 1)) (k + 31 * a + 17 * b + 7 * l) = v + 3 * z) := (by rw [take_next hz, Tm.s1_snoc, HV.out] : Tm.s1 (ns.take (j + 1)) (k + 31 * a + 17 * b + 7 * l) = v + 3 * z)
      clear hz
      go_wp2_with fail
      go_roundg (n - (j + 1))
      case measure => omega
      case rel => exact ⟨j + 1, rfl, by omega, by go_num, by rw [HZ.out], rfl⟩
    · obtain rfl : j = n := by omega
      have q1 : ¬ (j : Int) < (j : Int) := by omega
      go_wp2_with fail
      have HV2 : Hid (v = Tm.s1 ns (k + 31 * a + 17 * b + 7 * l)) := (by rw [HV.out, List.take_of_length_le (by have := HH.out.2.2.2.1; omega)] : v = Tm.s1 ns (k + 31 * a + 17 * b + 7 * l))
      go_loopg [3, 5] m (fun g u i wr => ∃ (p q : Nat), g = m - p ∧ p ≤ m ∧ i = .int .i64 p ∧ u = .int .i64 (Tm.s2 (ps.take p) (Tm.s1 ns (k + 31 * a + 17 * b + 7 * l))) ∧ wr = W.drewN q)
      case atStart => exact ⟨0, 0, rfl, Nat.zero_le _, rfl, by rw [HV2.out]; rfl, rfl⟩
      case round =>
        obtain ⟨p, q, rfl, hp, rfl, rfl, rfl⟩ := hrel
        have hbd := HH.out.1.s2 p
        obtain ⟨y, hy⟩ : ∃ y, y = Tm.s2 (ps.take p) (Tm.s1 ns (k + 31 * a + 17 * b + 7 * l)) := ⟨_, rfl⟩
        have hbe : 0 ≤ y ∧ y ≤ 102000000 := by rw [hy]; exact hbd
        rw [← hy]
        have HY : Hid _ := hy
        clear hy hbd
        by_cases hpt : p < m
        · obtain ⟨⟨zo, zn⟩, hz⟩ : ∃ z, ps[p]? = some z := ⟨ps[p]'(by have := HH.out.2.2.2.2.1; omega), List.getElem?_eq_getElem _⟩
          obtain ⟨aa, rfl, c0, c1⟩ := HH.out.2.2.1 p _ hz
          have r0 : (0 : Int) ≤ (p : Int) := by omega
          have r1 : (p : Int) < (m : Int) := by omega
          have hzb := HH.out.1.pb _ (List.mem_of_getElem? hz)
          simp only at c0 c1 hzb
          have d2 : W.cell? ((aa.add (p * 2)).add 1) = some (.int .i64 zn) := by rw [add_two]; exact c1
          have d3 : W.cell? ⟨(aa.add (p * 2)).block, (aa.add (p * 2)).off + 1, none⟩ = some (.int .i64 zn) := by rw [← d2]; rfl
          have HZ : Hid (Tm.s2 (ps.take (p + 1)) (Tm.s1 ns (k + 31 * a + 17 * b + 7 * l)) = y + 5 * zo + 11 * zn) := (by rw [take_next hz, Tm.s2_snoc, HY.out] : Tm.s2 (ps.take (p + 1)) (Tm.s1 ns (k + 31 * a + 17 * b + 7 * l)) = y + 5 * zo + 11 * zn)
          clear hz
          go_wp2_with fail
          go_quiet (fail)
          go_wp2
          go_roundg (m - (p + 1))
          case measure => omega
          case rel => exact ⟨p + 1, _, rfl, by omega, by go_num, by rw [HZ.out], by first | rfl | exact World.drewN_drewN _ _ _⟩
        · obtain rfl : p = m := by omega
          have r1 : ¬ (p : Int) < (p : Int) := by omega
          have HF : Hid ((y % 512).toNat = (⟨k, l, a, b, ns, ps⟩ : Tm).hash) := (by
            rw [HY.out, List.take_of_length_le (by have := HH.out.2.2.2.2.1; omega)]; rfl : (y % 512).toNat = (⟨k, l, a, b, ns, ps⟩ : Tm).hash)
          have e9 : y.tmod 512 = (((y % 512).toNat : Nat) : Int) := by rw [Int.tmod_eq_emod_of_nonneg hbe.1]; omega
          go_wp2_with fail
          go_ret
          exact ⟨by rw [← HF.out]; have e : max (y % 512) 0 = (((y % 512).toNat : Nat) : Int) := (by omega); show Ending.returned (.int .i64 (max (y % 512) 0)) = _; rw [e], below_drewN HH.out.2.2.2.2.2.1 _⟩
end Go.Proofs.YthnenpncajpibaaGreatDoor
