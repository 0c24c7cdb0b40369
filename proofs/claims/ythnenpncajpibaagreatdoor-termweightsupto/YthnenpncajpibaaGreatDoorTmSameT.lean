/- Contract of the book's SameTerm; api.Code at a fault that wraps ErrArg. -/
import Derived.Test.YthnenpncajpibaaGreatDoorTmSame
import Derived.Test.YthnenpncajpibaaGreatDoorSent
namespace Go.Proofs.YthnenpncajpibaaGreatDoor
open Go.RowKit Go.Maps
/-- Are two terms the same? -/
def Tm.same (s t : Tm) : Bool := s.kind == t.kind && (s.label == t.label && (s.a == t.a && (s.b == t.b && (s.names == t.names && s.pairs == t.pairs))))
theorem same_iff (s t : Tm) : s.same t = true ↔ s = t := by
  obtain ⟨k, l, a, b, ns, ps⟩ := s
  obtain ⟨k', l', a', b', ns', ps'⟩ := t
  simp [Tm.same]
theorem same_ne {s t : Tm} (h : s ≠ t) : s.same t = false := by
  cases e : s.same t with
  | false => rfl
  | true => exact absurd ((same_iff s t).1 e) h
theorem same_self (s : Tm) : s.same s = true := (same_iff s s).2 rfl
set_option maxRecDepth 100000 in
set_option maxHeartbeats 1600000 in
theorem sameTerm_b (s t : Tm) (vn vp un up : Value) (w : World) (hn : HasI w vn s.names) (hp : HasP w vp s.pairs) (kn : HasI w un t.names) (kp : HasP w up t.pairs) (l1 : s.names.length ≤ 1000000000000000) (l2 : s.pairs.length ≤ 1000000000000000) (l3 : t.names.length ≤ 1000000000000000) (l4 : t.pairs.length ≤ 1000000000000000) :
    Calls Tryz.prog 19 #[tmV s vn vp, tmV t un up] w fun e w' => e = .returned (.bool (s.same t)) ∧ Below w.heap.size w w' := by
  have HI : Hid (∀ W, Below w.heap.size w W → Calls Tryz.prog 14 #[vn, un] W fun e w' => e = .returned (.bool (s.names == t.names)) ∧ Below W.heap.size W w') := fun W hb => sameInts_b vn un s.names t.names W l1 l3 (hn.below hb) (kn.below hb)
  have HP : Hid (∀ W, Below w.heap.size w W → Calls Tryz.prog 79 #[vp, up] W fun e w' => e = .returned (.bool (s.pairs == t.pairs)) ∧ Below W.heap.size W w') := fun W hb => samePairs_b vp up s.pairs t.pairs W l2 l4 (hp.below hb) (kp.below hb)
  obtain ⟨an, cn, rfl, _⟩ := hn
  obtain ⟨ap, cp, rfl, _⟩ := hp
  obtain ⟨bn, dn, rfl, _⟩ := kn
  obtain ⟨bp, dp, rfl, _⟩ := kp
  obtain ⟨k, l, a, b, ns, ps⟩ := s
  obtain ⟨k', l', a', b', ns', ps'⟩ := t
  simp only at HI HP l1 l2 l3 l4 ⊢
  unfold tmV Tm.same
  simp only
  generalize (ns == ns') = e5 at HI ⊢
  generalize (ps == ps') = e6 at HP ⊢
  generalize ns.length = n1 at *
  generalize ns'.length = n2 at *
  generalize ps.length = n3 at *
  generalize ps'.length = n4 at *
  go_enter Tryz.func19, Tryz.ntmps19
  go_wp2_with (first | (go_at_call 14; refine (HI.out _ (by repeat (first | exact Below.refl _ _ | assumption | refine Below.drew ?_ | refine Below.setCell ?_ (by simp) _ | refine Below.alloc ?_ (by simp) _))).mono ?_; rintro r1 w1 ⟨rfl, hb1⟩; obtain ⟨hc1, hf1⟩ := bcell hb1; have hz1 : w.heap.size + 1 < w1.heap.size := (by have := hb1.size; simp at this; omega); have hB1 : Below w.heap.size w w1 := Below.trans (by repeat (first | exact Below.refl _ _ | assumption | refine Below.drew ?_ | refine Below.setCell ?_ (by simp) _ | refine Below.alloc ?_ (by simp) _)) (hb1.mono (by simp; omega)); clear hb1 hf1) | (go_at_call 79; refine (HP.out _ (by repeat (first | exact Below.refl _ _ | assumption | refine Below.drew ?_ | refine Below.setCell ?_ (by simp) _ | refine Below.alloc ?_ (by simp) _))).mono ?_; rintro r2 w2 ⟨rfl, hb2⟩; have hB2 : Below w.heap.size w w2 := hB1.trans (hb2.mono hB1.size); clear hb2))
  all_goals (go_ret; refine ⟨?_, (by repeat (first | exact Below.refl _ _ | assumption | refine Below.drew ?_ | refine Below.setCell ?_ (by simp) _ | refine Below.alloc ?_ (by simp) _))⟩; first | (simp [*]; done) | (simp [*]; omega))
set_option maxHeartbeats 1000000 in
theorem code_arg3 (pb : Nat) (aA : Addr) (w : World) (hE : w.cell? ⟨0, 0, none⟩ = some (.iface 201 (.pointer (some aA)))) (h1 : w.cell? ⟨pb, 3, none⟩ = some (.iface 201 (.pointer (some aA)))) :
    Calls Tryz.prog 89 #[.iface 124 (.pointer (some ⟨pb, 0, none⟩))] w fun e w' => e = .returned (.int .i64 1) ∧ w' = w := by
  go_enter Tryz.func89, Tryz.ntmps89
  go_wp2_with fail
  refine (is_fault_same pb aA _ h1).mono ?_
  rintro e w' ⟨rfl, rfl⟩
  go_wp2_with fail
  go_ret
  exact ⟨rfl, rfl⟩
end Go.Proofs.YthnenpncajpibaaGreatDoor
