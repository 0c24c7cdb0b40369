/- Texts of this claim, joined: RtSame, RefRising, RefPairs. -/
import Derived.Test.YthnenpncajpibaaGreatDoorPart3
import Derived.Test.YthnenpncajpibaaGreatDoorPart0
/- Contract of the document's SameTerm. -/
namespace Go.Proofs.YthnenpncajpibaaGreatDoor
open Go.RowKit Go.Maps
/-- Two boxes with a term each. -/
def bxW (s t : Tm) (vn vp un up : Value) (w : World) : World := (w.alloc (.cells #[.int .i64 s.kind, .int .i64 s.label, .int .i64 s.a, .int .i64 s.b, vn, vp] 35)).alloc (.cells #[.int .i64 t.kind, .int .i64 t.label, .int .i64 t.a, .int .i64 t.b, un, up] 35)
theorem bxW_below (s t : Tm) (vn vp un up : Value) (w : World) : Below w.heap.size w (bxW s t vn vp un up w) := by unfold bxW; exact (by repeat (first | exact Below.refl _ _ | assumption | refine Below.drew ?_ | refine Below.setCell ?_ (by simp) _ | refine Below.alloc ?_ (by simp) _))
theorem bxW_0 (s t : Tm) (vn vp un up : Value) (w : World) : (bxW s t vn vp un up w).heap[w.heap.size]? = some (.cells #[.int .i64 s.kind, .int .i64 s.label, .int .i64 s.a, .int .i64 s.b, vn, vp] 35 (0, 0)) := by
  unfold bxW
  rw [Below.heap_alloc _ _ _ (by simp)]
  exact (MapKept.heap_alloc w _).1
theorem bxW_1 (s t : Tm) (vn vp un up : Value) (w : World) : (bxW s t vn vp un up w).heap[w.heap.size + 1]? = some (.cells #[.int .i64 t.kind, .int .i64 t.label, .int .i64 t.a, .int .i64 t.b, un, up] 35 (0, 0)) := by
  unfold bxW
  have h := (MapKept.heap_alloc (w.alloc (.cells #[.int .i64 s.kind, .int .i64 s.label, .int .i64 s.a, .int .i64 s.b, vn, vp] 35)) (.cells #[.int .i64 t.kind, .int .i64 t.label, .int .i64 t.a, .int .i64 t.b, un, up] 35)).1
  simpa using h
set_option maxRecDepth 100000 in
set_option maxHeartbeats 1600000 in
theorem rsame_any (s t : Tm) (vn vp un up : Value) (w : World) (hn : HasI w vn s.names) (hp : HasP w vp s.pairs) (gn : HasI w un t.names) (gp : HasP w up t.pairs) (ln : s.names.length ≤ 1000000000000000) (lp : s.pairs.length ≤ 1000000000000000) (mn : t.names.length ≤ 1000000000000000) (mp : t.pairs.length ≤ 1000000000000000) :
    Calls Tryz.prog 114 #[tmV s vn vp, tmV t un up] w fun r w' => r = .returned (.bool (Tm.same s t)) ∧ Below w.heap.size w w' := by
  have hW := bxW_below s t vn vp un up w
  have hX0 := bxW_0 s t vn vp un up w
  have hX1 := bxW_1 s t vn vp un up w
  obtain ⟨W, hWW⟩ : ∃ W, W = bxW s t vn vp un up w := ⟨_, rfl⟩
  rw [← hWW] at hW hX0 hX1
  obtain ⟨an, cn, rfl, hcn⟩ := hn.below hW
  obtain ⟨ap, cp, rfl, hcp⟩ := hp.below hW
  obtain ⟨an', cn', rfl, hdn⟩ := gn.below hW
  obtain ⟨ap', cp', rfl, hdp⟩ := gp.below hW
  obtain ⟨x0, x1, x2, x3, x4, x5, xf⟩ := six6 hX0
  obtain ⟨y0, y1, y2, y3, y4, y5, yf⟩ := six6 hX1
  obtain ⟨k, l, a, b, ns, ps⟩ := s
  obtain ⟨k', l', a', b', ns', ps'⟩ := t
  simp only at ln lp mn mp hcn hcp hdn hdp x0 x1 x2 x3 x4 x5 y0 y1 y2 y3 y4 y5
  simp only [bxW] at hWW
  have HW : Hid _ := And.intro hW (And.intro hWW (And.intro hcn (And.intro hcp (And.intro hdn hdp))))
  clear hW hWW hcn hcp hdn hdp hn hp gn gp hX0 hX1
  unfold tmV
  simp only
  by_cases hk : k = k'
  case neg =>
    have e : (k != k') = true := by simpa using hk
    have HF : Hid (Tm.same ⟨k, l, a, b, ns, ps⟩ ⟨k', l', a', b', ns', ps'⟩ = false) := (by simp [Tm.same, hk] : Tm.same ⟨k, l, a, b, ns, ps⟩ ⟨k', l', a', b', ns', ps'⟩ = false)
    clear hk
    go_enter Tryz.func114, Tryz.ntmps114
    go_wp2_with fail
    go_ret
    exact ⟨by rw [HF.out]; rfl, (by repeat (first | exact Below.refl _ _ | assumption | refine Below.drew ?_ | refine Below.setCell ?_ (by simp) _ | refine Below.alloc ?_ (by simp) _))⟩
  subst hk
  by_cases hk : l = l'
  case neg =>
    have e : (l != l') = true := by simpa using hk
    have HF : Hid (Tm.same ⟨k, l, a, b, ns, ps⟩ ⟨k, l', a', b', ns', ps'⟩ = false) := (by simp [Tm.same, hk] : Tm.same ⟨k, l, a, b, ns, ps⟩ ⟨k, l', a', b', ns', ps'⟩ = false)
    clear hk
    go_enter Tryz.func114, Tryz.ntmps114
    go_wp2_with fail
    go_ret
    exact ⟨by rw [HF.out]; rfl, (by repeat (first | exact Below.refl _ _ | assumption | refine Below.drew ?_ | refine Below.setCell ?_ (by simp) _ | refine Below.alloc ?_ (by simp) _))⟩
  subst hk
  by_cases hk : a = a'
  case neg =>
    have e : (a != a') = true := by simpa using hk
    have HF : Hid (Tm.same ⟨k, l, a, b, ns, ps⟩ ⟨k, l, a', b', ns', ps'⟩ = false) := (by simp [Tm.same, hk] : Tm.same ⟨k, l, a, b, ns, ps⟩ ⟨k, l, a', b', ns', ps'⟩ = false)
    clear hk
    go_enter Tryz.func114, Tryz.ntmps114
    go_wp2_with fail
    go_ret
    exact ⟨by rw [HF.out]; rfl, (by repeat (first | exact Below.refl _ _ | assumption | refine Below.drew ?_ | refine Below.setCell ?_ (by simp) _ | refine Below.alloc ?_ (by simp) _))⟩
  subst hk
  by_cases hk : b = b'
  case neg =>
    have e : (b != b') = true := by simpa using hk
    have HF : Hid (Tm.same ⟨k, l, a, b, ns, ps⟩ ⟨k, l, a, b', ns', ps'⟩ = false) := (by simp [Tm.same, hk] : Tm.same ⟨k, l, a, b, ns, ps⟩ ⟨k, l, a, b', ns', ps'⟩ = false)
    clear hk
    go_enter Tryz.func114, Tryz.ntmps114
    go_wp2_with fail
    go_ret
    exact ⟨by rw [HF.out]; rfl, (by repeat (first | exact Below.refl _ _ | assumption | refine Below.drew ?_ | refine Below.setCell ?_ (by simp) _ | refine Below.alloc ?_ (by simp) _))⟩
  subst hk
  by_cases hk : ns.length = ns'.length
  case neg =>
    have e : ((ns.length : Int) != (ns'.length : Int)) = true := by rw [bne_iff_ne]; omega
    have HF : Hid (Tm.same ⟨k, l, a, b, ns, ps⟩ ⟨k, l, a, b, ns', ps'⟩ = false) := (by
      rw [← Bool.not_eq_true, same_iff]
      intro h
      injection h with _ _ _ _ h5 h6
      exact hk (by rw [h5]) : Tm.same ⟨k, l, a, b, ns, ps⟩ ⟨k, l, a, b, ns', ps'⟩ = false)
    clear hk
    go_enter Tryz.func114, Tryz.ntmps114
    go_wp2_with fail
    go_ret
    exact ⟨by rw [HF.out]; rfl, (by repeat (first | exact Below.refl _ _ | assumption | refine Below.drew ?_ | refine Below.setCell ?_ (by simp) _ | refine Below.alloc ?_ (by simp) _))⟩
  by_cases hq : ps.length = ps'.length
  case neg =>
    have e0 : ((ns.length : Int) != (ns'.length : Int)) = false := by rw [hk]; simp
    have e : ((ps.length : Int) != (ps'.length : Int)) = true := by rw [bne_iff_ne]; omega
    have HF : Hid (Tm.same ⟨k, l, a, b, ns, ps⟩ ⟨k, l, a, b, ns', ps'⟩ = false) := (by
      rw [← Bool.not_eq_true, same_iff]
      intro h
      injection h with _ _ _ _ h5 h6
      exact hq (by rw [h6]) : Tm.same ⟨k, l, a, b, ns, ps⟩ ⟨k, l, a, b, ns', ps'⟩ = false)
    clear hk hq
    go_enter Tryz.func114, Tryz.ntmps114
    go_wp2_with fail
    go_ret
    exact ⟨by rw [HF.out]; rfl, (by repeat (first | exact Below.refl _ _ | assumption | refine Below.drew ?_ | refine Below.setCell ?_ (by simp) _ | refine Below.alloc ?_ (by simp) _))⟩
  obtain ⟨n, hN⟩ : ∃ n, n = ns.length := ⟨_, rfl⟩
  obtain ⟨m, hM⟩ : ∃ m, m = ps.length := ⟨_, rfl⟩
  have HL : Hid _ := And.intro hN (And.intro hM (And.intro (hN.trans hk) (hM.trans hq)))
  have hWW := HW.out.2.1
  rw [← hk, ← hq, ← hN, ← hM] at hWW
  rw [← hk] at y4 mn
  rw [← hq] at y5 mp
  rw [← hN] at x4 y4 ln mn
  rw [← hM] at x5 y5 lp mp
  rw [← hk, ← hq, ← hN, ← hM]
  have HWW : Hid _ := hWW
  clear hWW hN hM hk hq
  have q : ((n : Int) != (n : Int)) = false := by simp
  have q' : ((m : Int) != (m : Int)) = false := by simp
  go_enter Tryz.func114, Tryz.ntmps114
  go_wp2_with fail
  rw [← HWW.out]
  go_loopg [5] n (fun g i wr => ∃ (j r : Nat), g = n - j ∧ j ≤ n ∧ i = .int .i64 j ∧ ns.take j = ns'.take j ∧ wr = W.drewN r)
  case atStart => exact ⟨0, 0, rfl, Nat.zero_le _, rfl, rfl, rfl⟩
  case round =>
    obtain ⟨j, r, rfl, hj, rfl, heq, rfl⟩ := hrel
    have HQ : Hid _ := heq
    clear heq
    by_cases hlt : j < n
    · obtain ⟨x, hx⟩ : ∃ z, ns[j]? = some z := ⟨ns[j]'(by have := HL.out.1; omega), List.getElem?_eq_getElem _⟩
      obtain ⟨y, hy⟩ : ∃ z, ns'[j]? = some z := ⟨ns'[j]'(by have := HL.out.2.2.1; omega), List.getElem?_eq_getElem _⟩
      obtain ⟨aa, rfl, c0⟩ := HW.out.2.2.1 j x hx
      obtain ⟨bb, rfl, d0⟩ := HW.out.2.2.2.2.1 j y hy
      have q0 : (0 : Int) ≤ (j : Int) := by omega
      have q1 : (j : Int) < (n : Int) := by omega
      by_cases hxy : x = y
      · subst hxy
        have HT : Hid _ := take_both hx hy HQ.out
        clear hx hy
        go_wp2_with fail
        go_quiet (fail)
        go_wp2
        go_roundg (n - (j + 1))
        case measure => omega
        case rel => exact ⟨j + 1, _, rfl, by omega, by go_num, HT.out, by first | rfl | exact World.drewN_drewN _ _ _⟩
      · have e1 : (x == y) = false := by simpa using hxy
        have HF : Hid (Tm.same ⟨k, l, a, b, ns, ps⟩ ⟨k, l, a, b, ns', ps'⟩ = false) := (by
          rw [← Bool.not_eq_true, same_iff]
          intro h
          injection h with _ _ _ _ h5 h6
          rw [h5, hy] at hx
          exact hxy (Option.some.inj hx).symm : Tm.same ⟨k, l, a, b, ns, ps⟩ ⟨k, l, a, b, ns', ps'⟩ = false)
        clear hx hy hxy
        go_wp2_with fail
        go_quiet (fail)
        go_wp2
        go_ret
        exact ⟨by rw [HF.out]; rfl, by first | exact below_drewN (below_drewN HW.out.1 _) _ | exact below_drewN HW.out.1 _⟩
    · obtain rfl : j = n := by omega
      have q1 : ¬ (j : Int) < (j : Int) := by omega
      have HN : Hid (ns = ns') := (eq_len HL.out.1.symm HL.out.2.2.1.symm HQ.out : ns = ns')
      go_wp2_with fail
      go_loopg [6] m (fun g i wr => ∃ (p z : Nat), g = m - p ∧ p ≤ m ∧ i = .int .i64 p ∧ ps.take p = ps'.take p ∧ wr = W.drewN z)
      case atStart => exact ⟨0, r, rfl, Nat.zero_le _, rfl, rfl, rfl⟩
      case round =>
        obtain ⟨p, z, rfl, hp, rfl, heq, rfl⟩ := hrel
        have HP : Hid _ := heq
        clear heq
        by_cases hpt : p < m
        · obtain ⟨⟨x, x'⟩, hx⟩ : ∃ z, ps[p]? = some z := ⟨ps[p]'(by have := HL.out.2.1; omega), List.getElem?_eq_getElem _⟩
          obtain ⟨⟨y, y'⟩, hy⟩ : ∃ z, ps'[p]? = some z := ⟨ps'[p]'(by have := HL.out.2.2.2; omega), List.getElem?_eq_getElem _⟩
          obtain ⟨aa, rfl, c0, c1⟩ := HW.out.2.2.2.1 p _ hx
          obtain ⟨bb, rfl, d0, d1⟩ := HW.out.2.2.2.2.2 p _ hy
          simp only at c0 c1 d0 d1
          have c2 : W.cell? ((aa.add (p * 2)).add 1) = some (.int .i64 x') := by rw [add_two]; exact c1
          have c3 : W.cell? ⟨(aa.add (p * 2)).block, (aa.add (p * 2)).off + 1, none⟩ = some (.int .i64 x') := by rw [← c2]; rfl
          have d2 : W.cell? ((bb.add (p * 2)).add 1) = some (.int .i64 y') := by rw [add_two]; exact d1
          have d3 : W.cell? ⟨(bb.add (p * 2)).block, (bb.add (p * 2)).off + 1, none⟩ = some (.int .i64 y') := by rw [← d2]; rfl
          have r0 : (0 : Int) ≤ (p : Int) := by omega
          have r1 : (p : Int) < (m : Int) := by omega
          by_cases hxy : x = y ∧ x' = y'
          · obtain ⟨rfl, rfl⟩ := hxy
            have HT : Hid _ := take_both hx hy HP.out
            clear hx hy
            go_wp2_with fail
            go_quiet (fail)
            go_wp2
            go_roundg (m - (p + 1))
            case measure => omega
            case rel => exact ⟨p + 1, _, rfl, by omega, by go_num, HT.out, by first | rfl | exact World.drewN_drewN _ _ _⟩
          · have HF : Hid (Tm.same ⟨k, l, a, b, ns, ps⟩ ⟨k, l, a, b, ns', ps'⟩ = false) := (by
              rw [← Bool.not_eq_true, same_iff]
              intro h
              injection h with _ _ _ _ h5 h6
              rw [h6, hy] at hx
              have := Option.some.inj hx
              exact hxy ⟨(congrArg Prod.fst this).symm, (congrArg Prod.snd this).symm⟩ : Tm.same ⟨k, l, a, b, ns, ps⟩ ⟨k, l, a, b, ns', ps'⟩ = false)
            clear hx hy
            by_cases h1 : x = y
            · have h2 : ¬ x' = y' := fun e => hxy ⟨h1, e⟩
              have e1 : (x == y) = true := by simpa using h1
              have e2 : (x' == y') = false := by simpa using h2
              clear hxy h1 h2
              go_wp2_with fail
              go_quiet (fail)
              go_wp2
              go_ret
              exact ⟨by rw [HF.out]; rfl, by first | exact below_drewN (below_drewN HW.out.1 _) _ | exact below_drewN HW.out.1 _⟩
            · have e1 : (x == y) = false := by simpa using h1
              clear hxy h1
              go_wp2_with fail
              go_quiet (fail)
              go_wp2
              go_ret
              exact ⟨by rw [HF.out]; rfl, by first | exact below_drewN (below_drewN HW.out.1 _) _ | exact below_drewN HW.out.1 _⟩
        · obtain rfl : p = m := by omega
          have r1 : ¬ (p : Int) < (p : Int) := by omega
          have HF : Hid (Tm.same ⟨k, l, a, b, ns, ps⟩ ⟨k, l, a, b, ns', ps'⟩ = true) := (by
            rw [same_iff, HN.out, eq_len HL.out.2.1.symm HL.out.2.2.2.symm HP.out] : Tm.same ⟨k, l, a, b, ns, ps⟩ ⟨k, l, a, b, ns', ps'⟩ = true)
          go_wp2
          go_ret
          exact ⟨by rw [HF.out]; rfl, below_drewN HW.out.1 _⟩
end Go.Proofs.YthnenpncajpibaaGreatDoor
/- Contract of the document's own Rising. -/
namespace Go.Proofs.YthnenpncajpibaaGreatDoor
open Go.RowKit
theorem isN_eq (z : Int) : Ac.isN z = false ↔ z < 0 ∨ 100 ≤ z := by simp [Ac.isN]; omega
set_option maxRecDepth 100000 in
set_option maxHeartbeats 2000000 in
theorem refRising_any (v : Value) (zs : List Int) (w : World) (hH : HasI w v zs) (hn : zs.length ≤ 1000000000000000) :
    Calls Tryz.prog 112 #[v] w fun e w' => e = .returned (.bool (Ac.rising (-1) zs)) ∧ Below w.heap.size w w' := by
  obtain ⟨ao, cap, rfl, hcells⟩ := hH
  obtain ⟨n, hN⟩ : ∃ n, n = zs.length := ⟨_, rfl⟩
  have HH : Hid ((∀ (i : Nat) (z : Int), zs[i]? = some z → ∃ a, ao = some a ∧ w.cell? (a.add i) = some (.int .i64 z)) ∧ n = zs.length) := ⟨hcells, hN⟩
  rw [← hN] at hn ⊢
  clear hcells hN
  go_enter Tryz.func112, Tryz.ntmps112
  go_wp2_with fail
  go_loopg [3] n (fun g i wr => ∃ (j q : Nat), g = n - j ∧ j ≤ n ∧ i = .int .i64 j ∧ Ac.rising (Ac.prev zs j) (zs.drop j) = Ac.rising (-1) zs ∧ wr = w.drewN q)
  case atStart => exact ⟨0, 0, rfl, Nat.zero_le _, rfl, rfl, rfl⟩
  case round =>
    obtain ⟨j, q, rfl, hj, rfl, hR, rfl⟩ := hrel
    have HB : Hid (Ac.rising (Ac.prev zs j) (zs.drop j) = Ac.rising (-1) zs) := hR
    clear hR
    by_cases hlt : j < n
    · obtain ⟨z, hz⟩ : ∃ z, zs[j]? = some z := ⟨zs[j]'(by have := HH.out.2; omega), List.getElem?_eq_getElem _⟩
      obtain ⟨a, rfl, c0⟩ := HH.out.1 j z hz
      have HX : Hid (Ac.rising (Ac.prev zs j) (zs.drop j) = if z ≤ Ac.prev zs j ∨ Ac.isN z = false then false else Ac.rising z (zs.drop (j + 1))) := by
        show Ac.rising _ (zs.drop j) = _
        rw [drop_at hz]; rfl
      have HP : Hid (Ac.prev zs (j + 1) = z) := (by show zs.getD j 0 = z; rw [List.getD_eq_getElem?_getD, hz]; rfl : Ac.prev zs (j + 1) = z)
      have q0 : (0 : Int) ≤ (j : Int) := by omega
      have q1 : (j : Int) < (n : Int) := by omega
      clear hz
      by_cases h1 : z < 0
      · have HF : Hid (Ac.rising (-1) zs = false) := (by rw [← HB.out, HX.out, if_pos (.inr ((isN_eq z).2 (.inl h1)))] : Ac.rising (-1) zs = false)
        go_wp2_with fail
        go_quiet (fail)
        go_wp2
        go_ret
        exact ⟨by rw [HF.out]; rfl, below_drewN (below_drewN (Below.refl _ _) _) _⟩
      · have e1 : decide (z < 0) = false := decide_eq_false h1
        by_cases h2 : 100 ≤ z
        · have e2 : decide (100 ≤ z) = true := decide_eq_true h2
          have HF : Hid (Ac.rising (-1) zs = false) := (by rw [← HB.out, HX.out, if_pos (.inr ((isN_eq z).2 (.inr h2)))] : Ac.rising (-1) zs = false)
          go_wp2_with fail
          go_quiet (fail)
          go_wp2
          go_ret
          exact ⟨by rw [HF.out]; rfl, below_drewN (below_drewN (Below.refl _ _) _) _⟩
        · have e2 : decide (100 ≤ z) = false := decide_eq_false h2
          have hN : ¬ Ac.isN z = false := fun e => by rcases (isN_eq z).1 e with h | h <;> omega
          have hNN : Hid (¬ Ac.isN z = false) := hN
          have HZ : Hid (¬ z < 0) := h1
          clear hN h1 h2
          by_cases h0 : j = 0
          · have hpj : Ac.prev zs j = -1 := by rw [h0]; rfl
            have hno : ¬ (z ≤ Ac.prev zs j ∨ Ac.isN z = false) := fun h => h.elim (fun h => by have := HZ.out; omega) hNN.out
            have HF : Hid (Ac.rising (Ac.prev zs (j + 1)) (zs.drop (j + 1)) = Ac.rising (-1) zs) := (by rw [HP.out, ← HB.out, HX.out, if_neg hno] : Ac.rising (Ac.prev zs (j + 1)) (zs.drop (j + 1)) = Ac.rising (-1) zs)
            have e3 : decide ((0 : Int) < (j : Int)) = false := by simp; omega
            have e4 : decide (0 < j) = false := by simp; omega
            have e5 : ¬ (0 : Int) < (j : Int) := by omega
            clear hno hpj h0
            go_wp2_with fail
            go_quiet (fail)
            go_wp2
            go_roundg (n - (j + 1))
            case measure => omega
            case rel => exact ⟨j + 1, _, rfl, by omega, by go_num, HF.out, by first | rfl | exact World.drewN_drewN _ _ _⟩
          · obtain ⟨k, hk⟩ : ∃ k, j = k + 1 := ⟨j - 1, by omega⟩
            obtain ⟨y, hy⟩ : ∃ y, zs[k]? = some y := ⟨zs[k]'(by have := HH.out.2; omega), List.getElem?_eq_getElem _⟩
            obtain ⟨a', ha', c1⟩ := HH.out.1 k y hy
            obtain rfl : a = a' := Option.some.inj ha'
            have hpk : Ac.prev zs j = y := by rw [hk]; show zs.getD k 0 = y; rw [List.getD_eq_getElem?_getD, hy]; rfl
            have HPK : Hid (Ac.prev zs j = y) := hpk
            have r0 : decide ((0 : Int) < (j : Int)) = true := by simp; omega
            have r00 : decide (0 < j) = true := by simp; omega
            have r1 : (j : Int) - 1 = (k : Int) := by omega
            have r2 : (k : Int) < (n : Int) := by omega
            have r3 : (0 : Int) ≤ (k : Int) := by omega
            clear hy ha' hpk hk h0
            by_cases h3 : z ≤ y
            · have HF : Hid (Ac.rising (-1) zs = false) := (by rw [← HB.out, HX.out, if_pos (.inl (by rw [HPK.out]; exact h3))] : Ac.rising (-1) zs = false)
              have e3 : decide (z ≤ y) = true := decide_eq_true h3
              go_wp2_with fail
              go_quiet (fail)
              go_wp2
              go_ret
              exact ⟨by rw [HF.out]; rfl, below_drewN (below_drewN (Below.refl _ _) _) _⟩
            · have hno : ¬ (z ≤ Ac.prev zs j ∨ Ac.isN z = false) := fun h => h.elim (fun h => by rw [HPK.out] at h; exact h3 h) hNN.out
              have HF : Hid (Ac.rising (Ac.prev zs (j + 1)) (zs.drop (j + 1)) = Ac.rising (-1) zs) := (by rw [HP.out, ← HB.out, HX.out, if_neg hno] : Ac.rising (Ac.prev zs (j + 1)) (zs.drop (j + 1)) = Ac.rising (-1) zs)
              have e3 : decide (z ≤ y) = false := decide_eq_false h3
              clear hno h3
              go_wp2_with fail
              go_quiet (fail)
              go_wp2
              go_roundg (n - (j + 1))
              case measure => omega
              case rel => exact ⟨j + 1, _, rfl, by omega, by go_num, HF.out, by first | rfl | exact World.drewN_drewN _ _ _⟩
    · have q1 : ¬ (j : Int) < (n : Int) := by omega
      have HF : Hid (Ac.rising (-1) zs = true) := (by rw [← HB.out, List.drop_eq_nil_of_le (by have := HH.out.2; omega)]; rfl : Ac.rising (-1) zs = true)
      go_wp2_with fail
      go_ret
      exact ⟨by rw [HF.out]; rfl, below_drewN (Below.refl _ _) _⟩
end Go.Proofs.YthnenpncajpibaaGreatDoor
/- Contract of the document's own Pairs. -/
namespace Go.Proofs.YthnenpncajpibaaGreatDoor
open Go.RowKit
namespace Ac
def prevP (ps : List (Int × Int)) : Nat → Int
  | 0 => -1
  | j + 1 => (ps.getD j (0, 0)).1
end Ac
set_option maxRecDepth 100000 in
set_option maxHeartbeats 2000000 in
theorem refPairs_any (v : Value) (ps : List (Int × Int)) (w : World) (hH : HasP w v ps) (hn : ps.length ≤ 1000000000000000) :
    Calls Tryz.prog 113 #[v] w fun e w' => e = .returned (.bool (Ac.pairs (-1) ps)) ∧ Below w.heap.size w w' := by
  obtain ⟨ao, cap, rfl, hcells⟩ := hH
  obtain ⟨n, hN⟩ : ∃ n, n = ps.length := ⟨_, rfl⟩
  have HH : Hid ((∀ (i : Nat) (p : Int × Int), ps[i]? = some p → ∃ a, ao = some a ∧ w.cell? (a.add (i * 2)) = some (.int .i64 p.1) ∧ w.cell? (a.add (i * 2 + 1)) = some (.int .i64 p.2)) ∧ n = ps.length) := ⟨hcells, hN⟩
  rw [← hN] at hn ⊢
  clear hcells hN
  go_enter Tryz.func113, Tryz.ntmps113
  go_wp2_with fail
  go_loopg [3] n (fun g i wr => ∃ (j q : Nat), g = n - j ∧ j ≤ n ∧ i = .int .i64 j ∧ Ac.pairs (Ac.prevP ps j) (ps.drop j) = Ac.pairs (-1) ps ∧ wr = w.drewN q)
  case atStart => exact ⟨0, 0, rfl, Nat.zero_le _, rfl, rfl, rfl⟩
  case round =>
    obtain ⟨j, q, rfl, hj, rfl, hR, rfl⟩ := hrel
    have HB : Hid (Ac.pairs (Ac.prevP ps j) (ps.drop j) = Ac.pairs (-1) ps) := hR
    clear hR
    by_cases hlt : j < n
    · obtain ⟨p, hp⟩ : ∃ p, ps[j]? = some p := ⟨ps[j]'(by have := HH.out.2; omega), List.getElem?_eq_getElem _⟩
      obtain ⟨a, rfl, c0, c1⟩ := HH.out.1 j p hp
      obtain ⟨x, y⟩ := p
      have d2 : w.cell? ((a.add (j * 2)).add 1) = some (.int .i64 y) := by rw [add_two]; exact c1
      have d3 : w.cell? ⟨(a.add (j * 2)).block, (a.add (j * 2)).off + 1, none⟩ = some (.int .i64 y) := by rw [← d2]; rfl
      have HX : Hid (Ac.pairs (Ac.prevP ps j) (ps.drop j) = if x ≤ Ac.prevP ps j ∨ Ac.isN x = false ∨ Ac.isN y = false then false else Ac.pairs x (ps.drop (j + 1))) := by
        show Ac.pairs _ (ps.drop j) = _
        rw [drop_at hp]; rfl
      have HP : Hid (Ac.prevP ps (j + 1) = x) := (by show (ps.getD j (0, 0)).1 = x; rw [List.getD_eq_getElem?_getD, hp]; rfl : Ac.prevP ps (j + 1) = x)
      have q0 : (0 : Int) ≤ (j : Int) := by omega
      have q1 : (j : Int) < (n : Int) := by omega
      clear hp
      by_cases h1 : x < 0
      · have e1 : decide (x < 0) = true := decide_eq_true h1
        have HF : Hid (Ac.pairs (-1) ps = false) := (by rw [← HB.out, HX.out, if_pos (.inr (.inl ((isN_eq x).2 (.inl h1))))] : Ac.pairs (-1) ps = false)
        go_wp2_with fail
        go_quiet (fail)
        go_wp2
        go_ret
        exact ⟨by rw [HF.out]; rfl, below_drewN (below_drewN (Below.refl _ _) _) _⟩
      · have e1 : decide (x < 0) = false := decide_eq_false h1
        by_cases h2 : 100 ≤ x
        · have e2 : decide (100 ≤ x) = true := decide_eq_true h2
          have HF : Hid (Ac.pairs (-1) ps = false) := (by rw [← HB.out, HX.out, if_pos (.inr (.inl ((isN_eq x).2 (.inr h2))))] : Ac.pairs (-1) ps = false)
          go_wp2_with fail
          go_quiet (fail)
          go_wp2
          go_ret
          exact ⟨by rw [HF.out]; rfl, below_drewN (below_drewN (Below.refl _ _) _) _⟩
        · have e2 : decide (100 ≤ x) = false := decide_eq_false h2
          by_cases h3 : y < 0
          · have e3 : decide (y < 0) = true := decide_eq_true h3
            have HF : Hid (Ac.pairs (-1) ps = false) := (by rw [← HB.out, HX.out, if_pos (.inr (.inr ((isN_eq y).2 (.inl h3))))] : Ac.pairs (-1) ps = false)
            go_wp2_with fail
            go_quiet (fail)
            go_wp2
            go_ret
            exact ⟨by rw [HF.out]; rfl, below_drewN (below_drewN (Below.refl _ _) _) _⟩
          · have e3 : decide (y < 0) = false := decide_eq_false h3
            by_cases h4 : 100 ≤ y
            · have e4 : decide (100 ≤ y) = true := decide_eq_true h4
              have HF : Hid (Ac.pairs (-1) ps = false) := (by rw [← HB.out, HX.out, if_pos (.inr (.inr ((isN_eq y).2 (.inr h4))))] : Ac.pairs (-1) ps = false)
              go_wp2_with fail
              go_quiet (fail)
              go_wp2
              go_ret
              exact ⟨by rw [HF.out]; rfl, below_drewN (below_drewN (Below.refl _ _) _) _⟩
            · have e4 : decide (100 ≤ y) = false := decide_eq_false h4
              have hN : ¬ (Ac.isN x = false ∨ Ac.isN y = false) := fun h => by
                rcases h with h | h
                · rcases (isN_eq x).1 h with h | h <;> omega
                · rcases (isN_eq y).1 h with h | h <;> omega
              have hNN : Hid (¬ (Ac.isN x = false ∨ Ac.isN y = false)) := hN
              have HZ : Hid (¬ x < 0) := h1
              clear hN h1 h2 h3 h4
              by_cases h0 : j = 0
              · have hpj : Ac.prevP ps j = -1 := by rw [h0]; rfl
                have hno : ¬ (x ≤ Ac.prevP ps j ∨ Ac.isN x = false ∨ Ac.isN y = false) := fun h => h.elim (fun h => by have := HZ.out; omega) hNN.out
                have HF : Hid (Ac.pairs (Ac.prevP ps (j + 1)) (ps.drop (j + 1)) = Ac.pairs (-1) ps) := (by rw [HP.out, ← HB.out, HX.out, if_neg hno] : Ac.pairs (Ac.prevP ps (j + 1)) (ps.drop (j + 1)) = Ac.pairs (-1) ps)
                have e5 : decide ((0 : Int) < (j : Int)) = false := by simp; omega
                have e6 : decide (0 < j) = false := by simp; omega
                clear hno hpj h0
                go_wp2_with fail
                go_quiet (fail)
                go_wp2
                go_roundg (n - (j + 1))
                case measure => omega
                case rel => exact ⟨j + 1, _, rfl, by omega, by go_num, HF.out, by first | rfl | exact World.drewN_drewN _ _ _⟩
              · obtain ⟨k, hk⟩ : ∃ k, j = k + 1 := ⟨j - 1, by omega⟩
                obtain ⟨p, hy⟩ : ∃ p, ps[k]? = some p := ⟨ps[k]'(by have := HH.out.2; omega), List.getElem?_eq_getElem _⟩
                obtain ⟨a', ha', f0, _⟩ := HH.out.1 k p hy
                obtain rfl : a = a' := Option.some.inj ha'
                obtain ⟨u, t⟩ := p
                have hpk : Ac.prevP ps j = u := by rw [hk]; show (ps.getD k (0, 0)).1 = u; rw [List.getD_eq_getElem?_getD, hy]; rfl
                have HPK : Hid (Ac.prevP ps j = u) := hpk
                have r0 : decide ((0 : Int) < (j : Int)) = true := by simp; omega
                have r00 : decide (0 < j) = true := by simp; omega
                have r1 : (j : Int) - 1 = (k : Int) := by omega
                have r2 : (k : Int) < (n : Int) := by omega
                have r3 : (0 : Int) ≤ (k : Int) := by omega
                clear hy ha' hpk hk h0
                by_cases h5 : x ≤ u
                · have e5 : decide (x ≤ u) = true := decide_eq_true h5
                  have HF : Hid (Ac.pairs (-1) ps = false) := (by rw [← HB.out, HX.out, if_pos (.inl (by rw [HPK.out]; exact h5))] : Ac.pairs (-1) ps = false)
                  go_wp2_with fail
                  go_quiet (fail)
                  go_wp2
                  go_ret
                  exact ⟨by rw [HF.out]; rfl, below_drewN (below_drewN (Below.refl _ _) _) _⟩
                · have hno : ¬ (x ≤ Ac.prevP ps j ∨ Ac.isN x = false ∨ Ac.isN y = false) := fun h => h.elim (fun h => by rw [HPK.out] at h; exact h5 h) hNN.out
                  have HF : Hid (Ac.pairs (Ac.prevP ps (j + 1)) (ps.drop (j + 1)) = Ac.pairs (-1) ps) := (by rw [HP.out, ← HB.out, HX.out, if_neg hno] : Ac.pairs (Ac.prevP ps (j + 1)) (ps.drop (j + 1)) = Ac.pairs (-1) ps)
                  have e5 : decide (x ≤ u) = false := decide_eq_false h5
                  clear hno h5
                  go_wp2_with fail
                  go_quiet (fail)
                  go_wp2
                  go_roundg (n - (j + 1))
                  case measure => omega
                  case rel => exact ⟨j + 1, _, rfl, by omega, by go_num, HF.out, by first | rfl | exact World.drewN_drewN _ _ _⟩
    · have q1 : ¬ (j : Int) < (n : Int) := by omega
      have HF : Hid (Ac.pairs (-1) ps = true) := (by rw [← HB.out, List.drop_eq_nil_of_le (by have := HH.out.2; omega)]; rfl : Ac.pairs (-1) ps = true)
      go_wp2_with fail
      go_ret
      exact ⟨by rw [HF.out]; rfl, below_drewN (Below.refl _ _) _⟩
end Go.Proofs.YthnenpncajpibaaGreatDoor
