/- Contract of the document's SameTerm. -/
import Derived.Test.YthnenpncajpibaaGreatDoorRtSum
import Derived.Test.YthnenpncajpibaaGreatDoorTmSameT
namespace Go.Proofs.YthnenpncajpibaaGreatDoor
open Go.RowKit Go.Maps
/-- Two boxes with a term each. -/
def bxW (s t : Tm) (vn vp un up : Value) (w : World) : World := (w.alloc (.cells #[.int .i64 s.kind, .int .i64 s.label, .int .i64 s.a, .int .i64 s.b, vn, vp] 35)).alloc (.cells #[.int .i64 t.kind, .int .i64 t.label, .int .i64 t.a, .int .i64 t.b, un, up] 35)
theorem bxW_below (s t : Tm) (vn vp un up : Value) (w : World) : Below w.heap.size w (bxW s t vn vp un up w) := by unfold bxW; exact (by repeat (first | exact Below.refl _ _ | assumption | refine Below.drew ?_ | refine Below.setCell ?_ (by simp) _ | refine Below.alloc ?_ (by simp) _))
theorem bxW_0 (s t : Tm) (vn vp un up : Value) (w : World) : (bxW s t vn vp un up w).heap[w.heap.size]? = some (.cells #[.int .i64 s.kind, .int .i64 s.label, .int .i64 s.a, .int .i64 s.b, vn, vp] 35 (0, 0)) := by
  unfold bxW
  rw [Below.heap_alloc _ _ _ (by simp)]
  exact (MapKept.heap_alloc w _).1
theorem bxW_1 (s t : Tm) (vn vp un up : Value) (w : World) : (bxW s t vn vp un up w).heap[w.heap.size + 1]? = some (.cells #[.int .i64 t.kind, .int .i64 t.label, .int .i64 t.a, .int .i64 t.b, un, up] 35 (0, 0)) := by
  unfold bxW
  have h := (MapKept.heap_alloc (w.alloc (.cells #[.int .i64 s.kind, .int .i64 s.label, .int .i64 s.a, .int .i64 s.b, vn, vp] 35)) (.cells #[.int .i64 t.kind, .int .i64 t.label, .int .i64 t.a, .int .i64 t.b, un, up] 35)).1
  simpa using h
set_option maxRecDepth 100000 in
set_option maxHeartbeats 1600000 in
theorem rsame_any (s t : Tm) (vn vp un up : Value) (w : World) (hn : HasI w vn s.names) (hp : HasP w vp s.pairs) (gn : HasI w un t.names) (gp : HasP w up t.pairs) (ln : s.names.length ≤ 1000000000000000) (lp : s.pairs.length ≤ 1000000000000000) (mn : t.names.length ≤ 1000000000000000) (mp : t.pairs.length ≤ 1000000000000000) :
    Calls Tryz.prog 114 #[tmV s vn vp, tmV t un up] w fun r w' => r = .returned (.bool (Tm.same s t)) ∧ Below w.heap.size w w' := by
  have hW := bxW_below s t vn vp un up w
  have hX0 := bxW_0 s t vn vp un up w
  have hX1 := bxW_1 s t vn vp un up w
  obtain ⟨W, hWW⟩ : ∃ W, W = bxW s t vn vp un up w := ⟨_, rfl⟩
  rw [← hWW] at hW hX0 hX1
  obtain ⟨an, cn, rfl, hcn⟩ := hn.below hW
  obtain ⟨ap, cp, rfl, hcp⟩ := hp.below hW
  obtain ⟨an', cn', rfl, hdn⟩ := gn.below hW
  obtain ⟨ap', cp', rfl, hdp⟩ := gp.below hW
  obtain ⟨x0, x1, x2, x3, x4, x5, xf⟩ := six6 hX0
  obtain ⟨y0, y1, y2, y3, y4, y5, yf⟩ := six6 hX1
  obtain ⟨k, l, a, b, ns, ps⟩ := s
  obtain ⟨k', l', a', b', ns', ps'⟩ := t
  simp only at ln lp mn mp hcn hcp hdn hdp x0 x1 x2 x3 x4 x5 y0 y1 y2 y3 y4 y5
  simp only [bxW] at hWW
  have HW : Hid _ := And.intro hW (And.intro hWW (And.intro hcn (And.intro hcp (And.intro hdn hdp))))
  clear hW hWW hcn hcp hdn hdp hn hp gn gp hX0 hX1
  unfold tmV
  simp only
  by_cases hk : k = k'
  case neg =>
    have e : (k != k') = true := by simpa using hk
    have HF : Hid (Tm.same ⟨k, l, a, b, ns, ps⟩ ⟨k', l', a', b', ns', ps'⟩ = false) := (by simp [Tm.same, hk] : Tm.same ⟨k, l, a, b, ns, ps⟩ ⟨k', l', a', b', ns', ps'⟩ = false)
    clear hk
    go_enter Tryz.func114, Tryz.ntmps114
    go_wp2_with fail
    go_ret
    exact ⟨by rw [HF.out]; rfl, (by repeat (first | exact Below.refl _ _ | assumption | refine Below.drew ?_ | refine Below.setCell ?_ (by simp) _ | refine Below.alloc ?_ (by simp) _))⟩
  subst hk
  by_cases hk : l = l'
  case neg =>
    have e : (l != l') = true := by simpa using hk
    have HF : Hid (Tm.same ⟨k, l, a, b, ns, ps⟩ ⟨k, l', a', b', ns', ps'⟩ = false) := (by simp [Tm.same, hk] : Tm.same ⟨k, l, a, b, ns, ps⟩ ⟨k, l', a', b', ns', ps'⟩ = false)
    clear hk
    go_enter Tryz.func114, Tryz.ntmps114
    go_wp2_with fail
    go_ret
    exact ⟨by rw [HF.out]; rfl, (by repeat (first | exact Below.refl _ _ | assumption | refine Below.drew ?_ | refine Below.setCell ?_ (by simp) _ | refine Below.alloc ?_ (by simp) _))⟩
  subst hk
  by_cases hk : a = a'
  case neg =>
    have e : (a != a') = true := by simpa using hk
    have HF : Hid (Tm.same ⟨k, l, a, b, ns, ps⟩ ⟨k, l, a', b', ns', ps'⟩ = false) := (by simp [Tm.same, hk] : Tm.same ⟨k, l, a, b, ns, ps⟩ ⟨k, l, a', b', ns', ps'⟩ = false)
    clear hk
    go_enter Tryz.func114, Tryz.ntmps114
    go_wp2_with fail
    go_ret
    exact ⟨by rw [HF.out]; rfl, (by repeat (first | exact Below.refl _ _ | assumption | refine Below.drew ?_ | refine Below.setCell ?_ (by simp) _ | refine Below.alloc ?_ (by simp) _))⟩
  subst hk
  by_cases hk : b = b'
  case neg =>
    have e : (b != b') = true := by simpa using hk
    have HF : Hid (Tm.same ⟨k, l, a, b, ns, ps⟩ ⟨k, l, a, b', ns', ps'⟩ = false) := (by simp [Tm.same, hk] : Tm.same ⟨k, l, a, b, ns, ps⟩ ⟨k, l, a, b', ns', ps'⟩ = false)
    clear hk
    go_enter Tryz.func114, Tryz.ntmps114
    go_wp2_with fail
    go_ret
    exact ⟨by rw [HF.out]; rfl, (by repeat (first | exact Below.refl _ _ | assumption | refine Below.drew ?_ | refine Below.setCell ?_ (by simp) _ | refine Below.alloc ?_ (by simp) _))⟩
  subst hk
  by_cases hk : ns.length = ns'.length
  case neg =>
    have e : ((ns.length : Int) != (ns'.length : Int)) = true := by rw [bne_iff_ne]; omega
    have HF : Hid (Tm.same ⟨k, l, a, b, ns, ps⟩ ⟨k, l, a, b, ns', ps'⟩ = false) := (by
      rw [← Bool.not_eq_true, same_iff]
      intro h
      injection h with _ _ _ _ h5 h6
      exact hk (by rw [h5]) : Tm.same ⟨k, l, a, b, ns, ps⟩ ⟨k, l, a, b, ns', ps'⟩ = false)
    clear hk
    go_enter Tryz.func114, Tryz.ntmps114
    go_wp2_with fail
    go_ret
    exact ⟨by rw [HF.out]; rfl, (by repeat (first | exact Below.refl _ _ | assumption | refine Below.drew ?_ | refine Below.setCell ?_ (by simp) _ | refine Below.alloc ?_ (by simp) _))⟩
  by_cases hq : ps.length = ps'.length
  case neg =>
    have e0 : ((ns.length : Int) != (ns'.length : Int)) = false := by rw [hk]; simp
    have e : ((ps.length : Int) != (ps'.length : Int)) = true := by rw [bne_iff_ne]; omega
    have HF : Hid (Tm.same ⟨k, l, a, b, ns, ps⟩ ⟨k, l, a, b, ns', ps'⟩ = false) := (by
      rw [← Bool.not_eq_true, same_iff]
      intro h
      injection h with _ _ _ _ h5 h6
      exact hq (by rw [h6]) : Tm.same ⟨k, l, a, b, ns, ps⟩ ⟨k, l, a, b, ns', ps'⟩ = false)
    clear hk hq
    go_enter Tryz.func114, Tryz.ntmps114
    go_wp2_with fail
    go_ret
    exact ⟨by rw [HF.out]; rfl, (by repeat (first | exact Below.refl _ _ | assumption | refine Below.drew ?_ | refine Below.setCell ?_ (by simp) _ | refine Below.alloc ?_ (by simp) _))⟩
  obtain ⟨n, hN⟩ : ∃ n, n = ns.length := ⟨_, rfl⟩
  obtain ⟨m, hM⟩ : ∃ m, m = ps.length := ⟨_, rfl⟩
  have HL : Hid _ := And.intro hN (And.intro hM (And.intro (hN.trans hk) (hM.trans hq)))
  have hWW := HW.out.2.1
  rw [← hk, ← hq, ← hN, ← hM] at hWW
  rw [← hk] at y4 mn
  rw [← hq] at y5 mp
  rw [← hN] at x4 y4 ln mn
  rw [← hM] at x5 y5 lp mp
  rw [← hk, ← hq, ← hN, ← hM]
  have HWW : Hid _ := hWW
  clear hWW hN hM hk hq
  have q : ((n : Int) != (n : Int)) = false := by simp
  have q' : ((m : Int) != (m : Int)) = false := by simp
  go_enter Tryz.func114, Tryz.ntmps114
  go_wp2_with fail
  rw [← HWW.out]
  go_loopg [5] n (fun g i wr => ∃ (j r : Nat), g = n - j ∧ j ≤ n ∧ i = .int .i64 j ∧ ns.take j = ns'.take j ∧ wr = W.drewN r)
  case atStart => exact ⟨0, 0, rfl, Nat.zero_le _, rfl, rfl, rfl⟩
  case round =>
    obtain ⟨j, r, rfl, hj, rfl, heq, rfl⟩ := hrel
    have HQ : Hid _ := heq
    clear heq
    by_cases hlt : j < n
    · obtain ⟨x, hx⟩ : ∃ z, ns[j]? = some z := ⟨ns[j]'(by have := HL.out.1; omega), List.getElem?_eq_getElem _⟩
      obtain ⟨y, hy⟩ : ∃ z, ns'[j]? = some z := ⟨ns'[j]'(by have := HL.out.2.2.1; omega), List.getElem?_eq_getElem _⟩
      obtain ⟨aa, rfl, c0⟩ := HW.out.2.2.1 j x hx
      obtain ⟨bb, rfl, d0⟩ := HW.out.2.2.2.2.1 j y hy
      have q0 : (0 : Int) ≤ (j : Int) := by omega
      have q1 : (j : Int) < (n : Int) := by omega
      by_cases hxy : x = y
      · subst hxy
        have HT : Hid _ := take_both hx hy HQ.out
        clear hx hy
        go_wp2_with fail
        go_quiet (fail)
        go_wp2
        go_roundg (n - (j + 1))
        case measure => omega
        case rel => exact ⟨j + 1, _, rfl, by omega, by go_num, HT.out, by first | rfl | exact World.drewN_drewN _ _ _⟩
      · have e1 : (x == y) = false := by simpa using hxy
        have HF : Hid (Tm.same ⟨k, l, a, b, ns, ps⟩ ⟨k, l, a, b, ns', ps'⟩ = false) := (by
          rw [← Bool.not_eq_true, same_iff]
          intro h
          injection h with _ _ _ _ h5 h6
          rw [h5, hy] at hx
          exact hxy (Option.some.inj hx).symm : Tm.same ⟨k, l, a, b, ns, ps⟩ ⟨k, l, a, b, ns', ps'⟩ = false)
        clear hx hy hxy
        go_wp2_with fail
        go_quiet (fail)
        go_wp2
        go_ret
        exact ⟨by rw [HF.out]; rfl, by first | exact below_drewN (below_drewN HW.out.1 _) _ | exact below_drewN HW.out.1 _⟩
    · obtain rfl : j = n := by omega
      have q1 : ¬ (j : Int) < (j : Int) := by omega
      have HN : Hid (ns = ns') := (eq_len HL.out.1.symm HL.out.2.2.1.symm HQ.out : ns = ns')
      go_wp2_with fail
      go_loopg [6] m (fun g i wr => ∃ (p z : Nat), g = m - p ∧ p ≤ m ∧ i = .int .i64 p ∧ ps.take p = ps'.take p ∧ wr = W.drewN z)
      case atStart => exact ⟨0, r, rfl, Nat.zero_le _, rfl, rfl, rfl⟩
      case round =>
        obtain ⟨p, z, rfl, hp, rfl, heq, rfl⟩ := hrel
        have HP : Hid _ := heq
        clear heq
        by_cases hpt : p < m
        · obtain ⟨⟨x, x'⟩, hx⟩ : ∃ z, ps[p]? = some z := ⟨ps[p]'(by have := HL.out.2.1; omega), List.getElem?_eq_getElem _⟩
          obtain ⟨⟨y, y'⟩, hy⟩ : ∃ z, ps'[p]? = some z := ⟨ps'[p]'(by have := HL.out.2.2.2; omega), List.getElem?_eq_getElem _⟩
          obtain ⟨aa, rfl, c0, c1⟩ := HW.out.2.2.2.1 p _ hx
          obtain ⟨bb, rfl, d0, d1⟩ := HW.out.2.2.2.2.2 p _ hy
          simp only at c0 c1 d0 d1
          have c2 : W.cell? ((aa.add (p * 2)).add 1) = some (.int .i64 x') := by rw [add_two]; exact c1
          have c3 : W.cell? ⟨(aa.add (p * 2)).block, (aa.add (p * 2)).off + 1, none⟩ = some (.int .i64 x') := by rw [← c2]; rfl
          have d2 : W.cell? ((bb.add (p * 2)).add 1) = some (.int .i64 y') := by rw [add_two]; exact d1
          have d3 : W.cell? ⟨(bb.add (p * 2)).block, (bb.add (p * 2)).off + 1, none⟩ = some (.int .i64 y') := by rw [← d2]; rfl
          have r0 : (0 : Int) ≤ (p : Int) := by omega
          have r1 : (p : Int) < (m : Int) := by omega
          by_cases hxy : x = y ∧ x' = y'
          · obtain ⟨rfl, rfl⟩ := hxy
            have HT : Hid _ := take_both hx hy HP.out
            clear hx hy
            go_wp2_with fail
            go_quiet (fail)
            go_wp2
            go_roundg (m - (p + 1))
            case measure => omega
            case rel => exact ⟨p + 1, _, rfl, by omega, by go_num, HT.out, by first | rfl | exact World.drewN_drewN _ _ _⟩
          · have HF : Hid (Tm.same ⟨k, l, a, b, ns, ps⟩ ⟨k, l, a, b, ns', ps'⟩ = false) := (by
              rw [← Bool.not_eq_true, same_iff]
              intro h
              injection h with _ _ _ _ h5 h6
              rw [h6, hy] at hx
              have := Option.some.inj hx
              exact hxy ⟨(congrArg Prod.fst this).symm, (congrArg Prod.snd this).symm⟩ : Tm.same ⟨k, l, a, b, ns, ps⟩ ⟨k, l, a, b, ns', ps'⟩ = false)
            clear hx hy
            by_cases h1 : x = y
            · have h2 : ¬ x' = y' := fun e => hxy ⟨h1, e⟩
              have e1 : (x == y) = true := by simpa using h1
              have e2 : (x' == y') = false := by simpa using h2
              clear hxy h1 h2
              go_wp2_with fail
              go_quiet (fail)
              go_wp2
              go_ret
              exact ⟨by rw [HF.out]; rfl, by first | exact below_drewN (below_drewN HW.out.1 _) _ | exact below_drewN HW.out.1 _⟩
            · have e1 : (x == y) = false := by simpa using h1
              clear hxy h1
              go_wp2_with fail
              go_quiet (fail)
              go_wp2
              go_ret
              exact ⟨by rw [HF.out]; rfl, by first | exact below_drewN (below_drewN HW.out.1 _) _ | exact below_drewN HW.out.1 _⟩
        · obtain rfl : p = m := by omega
          have r1 : ¬ (p : Int) < (p : Int) := by omega
          have HF : Hid (Tm.same ⟨k, l, a, b, ns, ps⟩ ⟨k, l, a, b, ns', ps'⟩ = true) := (by
            rw [same_iff, HN.out, eq_len HL.out.2.1.symm HL.out.2.2.2.symm HP.out] : Tm.same ⟨k, l, a, b, ns, ps⟩ ⟨k, l, a, b, ns', ps'⟩ = true)
          go_wp2
          go_ret
          exact ⟨by rw [HF.out]; rfl, below_drewN HW.out.1 _⟩
end Go.Proofs.YthnenpncajpibaaGreatDoor
