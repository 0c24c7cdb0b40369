/- Contracts of New, Put: what is there is told, what is new stands behind the others, what may not be put is refused. -/
import Derived.Test.YthnenpncajpibaaGreatDoorTmAdd0
namespace Go.Proofs.YthnenpncajpibaaGreatDoor
open Go.RowKit Go.Maps
attribute [local go_sem ↓] Go.wp_at_zero Go.wp_at_succ
/-- A store with these terms, its blocks being those of F. -/
def StoB (w : World) (b : Nat) (L : List Tm) (F : Nat → Prop) : Prop := ∃ vt vm vs, Sto w b vt vm L vs ∧ F = Foot3 b vt vm vs
theorem StoB.foot_lt {w : World} {b : Nat} {L : List Tm} {F : Nat → Prop} (h : StoB w b L F) {i : Nat} (hi : F i) : i < w.heap.size := by
  obtain ⟨vt, vm, vs, hS, rfl⟩ := h
  exact hS.foot_lt hi
theorem StoB.b {w : World} {b : Nat} {L : List Tm} {F : Nat → Prop} (h : StoB w b L F) : F b := by
  obtain ⟨vt, vm, vs, hS, rfl⟩ := h
  exact .inl rfl
theorem StoB.kept {w w' : World} {b : Nat} {L : List Tm} {F G : Nat → Prop} (h : StoB w b L F) (hk : Kept G w w') (hF : ∀ i, F i → ¬ G i) : StoB w' b L F := by
  obtain ⟨vt, vm, vs, hS, rfl⟩ := h
  exact ⟨vt, vm, vs, hS.kept hk hF, rfl⟩
theorem StoB.below {w w' : World} {b : Nat} {L : List Tm} {F : Nat → Prop} (h : StoB w b L F) (hb : Below w.heap.size w w') : StoB w' b L F := by
  obtain ⟨vt, vm, vs, hS, rfl⟩ := h
  exact ⟨vt, vm, vs, hS.below hb, rfl⟩
theorem StoB.big {w : World} {b : Nat} {L : List Tm} {F : Nat → Prop} (h : StoB w b L F) : L.length ≤ 100000 := by
  obtain ⟨vt, vm, vs, hS, rfl⟩ := h
  exact hS.big
theorem StoB.cell {w : World} {b : Nat} {L : List Tm} {F : Nat → Prop} (h : StoB w b L F) : ∃ ao cap, w.cell? ⟨b, 0, none⟩ = some (.slice ao L.length cap) := by
  obtain ⟨vt, vm, vs, hS, rfl⟩ := h
  obtain ⟨ao, cap, rfl⟩ := row_shape hS.row
  exact ⟨ao, cap, (t_cells hS.cell).1⟩
theorem StoB.nodup {w : World} {b : Nat} {L : List Tm} {F : Nat → Prop} (h : StoB w b L F) {i j : Nat} {t : Tm} (hi : L[i]? = some t) (hj : L[j]? = some t) : i = j := by
  obtain ⟨vt, vm, vs, hS, rfl⟩ := h
  rcases hS.map with ⟨_, rfl⟩ | ⟨bm, D, rfl, ho, hm⟩
  · simp at hi
  · exact hm.nodup hi hj
theorem StoB.wf {w : World} {b : Nat} {L : List Tm} {F : Nat → Prop} (h : StoB w b L F) : ∀ t ∈ L, t.Wf := by
  obtain ⟨vt, vm, vs, hS, rfl⟩ := h
  exact hS.wf
theorem add_any (b : Nat) (L : List Tm) (F : Nat → Prop) (t : Tm) (vn vp : Value) (w : World) (hS : StoB w b L F) (hwf : t.Wf) (hnew : t ∉ L) (hh : Hand w F t vn vp) (hlen : L.length < 100000) :
    Calls Tryz.prog 22 #[.pointer (some ⟨b, 0, none⟩), tmV t vn vp] w fun r w' => r = .returned (.int .i64 L.length) ∧ ∃ F', StoB w' b (L ++ [t]) F' ∧ Kept F w w' ∧ (∀ i, F' i → F i ∨ w.heap.size ≤ i) := by
  obtain ⟨vt, vm, vs, hS, rfl⟩ := hS
  rcases hS.map with ⟨rfl, rfl⟩ | ⟨bm, D, rfl, ho, hm⟩
  · have hvs : vs = [] := List.eq_nil_of_length_eq_zero hS.len
    subst hvs
    refine (add_none b vt t vn vp w hS hwf hh).mono ?_
    rintro r w' ⟨rfl, vt', vm', v, h1, h2, h3⟩
    exact ⟨rfl, _, ⟨_, _, _, h1, rfl⟩, h2, h3⟩
  · refine (add_some b bm vt D L vs t vn vp w hS ho hm hwf hnew hh hlen).mono ?_
    rintro r w' ⟨rfl, vt', v, h1, h2, h3⟩
    exact ⟨rfl, _, ⟨_, _, _, h1, rfl⟩, h2, h3⟩
set_option maxRecDepth 100000 in
/-- What the map answers. -/
theorem Sto.look_yes {w : World} {b : Nat} {vt vm : Value} {L : List Tm} {vs : List (Value × Value)} (h : Sto w b vt vm L vs) {i : Nat} {t : Tm} (hi : L[i]? = some t) : (Instr.lookup 69 vm (keyV t) true).run Tryz.prog w = .ok (.tuple #[.int .i64 i, .bool true]) w := by
  rcases h.map with ⟨_, rfl⟩ | ⟨bm, D, rfl, ho, hm⟩
  · simp at hi
  · obtain ⟨hy1, hy2⟩ := hm.yes i t hi
    obtain ⟨v, ps, hrun, hv⟩ := ho.look_ok Tryz.lawK Tryz.underlying69 (Tryz.zeroI3 w) (plainElem_int (a := 0) Tryz.underlying3 (by decide)) (keyOf_keyV t (h.wf t (List.mem_of_getElem? hi)).fits)
    obtain ⟨c, rfl, hc, _⟩ := plainElem_int_inv Tryz.underlying3 hv
    have hc1 := congrArg Prod.fst hc
    simp only [hy2] at hc1
    injection hc1 with hc1
    injection hc1 with _ hc1
    rw [hrun, hy1, ← hc1]
theorem Sto.look_no {w : World} {b : Nat} {vt vm : Value} {L : List Tm} {vs : List (Value × Value)} (h : Sto w b vt vm L vs) {t : Tm} (ht : t.Wf) (hi : t ∉ L) : ∃ c : Int, (Instr.lookup 69 vm (keyV t) true).run Tryz.prog w = .ok (.tuple #[.int .i64 c, .bool false]) w := by
  rcases h.map with ⟨rfl, rfl⟩ | ⟨bm, D, rfl, ho, hm⟩
  · exact ⟨0, Maps.look_nil (P := Tryz.prog) (w := w) true Tryz.lawK Tryz.underlying69 (Tryz.zeroI3 w) (keyOf_keyV t ht.fits)⟩
  · obtain ⟨v, ps, hrun, hv⟩ := ho.look_ok Tryz.lawK Tryz.underlying69 (Tryz.zeroI3 w) (plainElem_int (a := 0) Tryz.underlying3 (by decide)) (keyOf_keyV t ht.fits)
    obtain ⟨c, rfl, hc, _⟩ := plainElem_int_inv Tryz.underlying3 hv
    exact ⟨c, by rw [hrun, hm.no t ht hi]⟩
theorem new_any3 (w : World) : Calls Tryz.prog 6 #[] w fun r w' => r = .returned (.pointer (some ⟨w.heap.size, 0, none⟩)) ∧ (∃ F, StoB w' w.heap.size [⟨1, 0, 0, 0, [], []⟩] F ∧ ∀ i, F i → w.heap.size ≤ i) ∧ Below w.heap.size w w' := by
  have hS : Sto (w.alloc (.cells #[.slice none 0 0, .map none] 71)) w.heap.size (.slice none 0 0) (.map none) [] [] :=
    ⟨(MapKept.heap_alloc w _).1, World.ownsRow_nil _ _ _ _, .inl ⟨rfl, rfl⟩, rfl, fun i t v h => by simp at h, fun t h => by simp at h, by simp⟩
  have hw : (⟨1, 0, 0, 0, [], []⟩ : Tm).Wf := may_wf (n := 0) (by omega) (by decide)
  have hA := add_any w.heap.size [] _ ⟨1, 0, 0, 0, [], []⟩ (.slice none 0 0) (.slice none 0 0) _ ⟨_, _, _, hS, rfl⟩ hw (by simp) ⟨⟨none, 0, rfl, fun i z h => by simp at h⟩, ⟨none, 0, rfl, fun i z h => by simp at h⟩, fun h => absurd rfl h, fun h => absurd rfl h⟩ (by decide)
  have HA : Hid _ := hA
  have HS : Hid _ := hS
  clear hA hS hw
  go_enter Tryz.func6, Tryz.ntmps6
  go_wp2_with fail
  refine Calls.mono HA.out ?_
  rintro r w' ⟨rfl, F', h1, h2, h3⟩
  have hb : Below w.heap.size w w' := ((Below.refl _ w).alloc (Nat.le_refl _) _).trans (h2.below (by simp) fun k hk => by
    rcases hk with hk | hk | hk | ⟨v, hv, _⟩
    · omega
    · cases hk
    · cases hk
    · simp at hv)
  have hF : ∀ i, F' i → w.heap.size ≤ i := fun i hi => by
    rcases h3 i hi with hk | hk
    · rcases hk with hk | hk | hk | ⟨v, hv, _⟩
      · omega
      · cases hk
      · cases hk
      · simp at hv
    · simp at hk; omega
  have HF : Hid _ := And.intro h1 (And.intro hF hb)
  clear h1 h2 h3 hb hF
  go_wp2_with fail
  go_ret
  exact ⟨rfl, ⟨F', HF.out.1, HF.out.2.1⟩, HF.out.2.2⟩
set_option maxRecDepth 100000 in
set_option maxHeartbeats 1600000 in
/-- Put of what may not be put. -/
theorem put_bad (b : Nat) (L : List Tm) (F : Nat → Prop) (t : Tm) (vn vp : Value) (T : TypeId) (u : Value) (w : World) (hS : StoB w b L F) (hn : HasI w vn t.names) (hp : HasP w vp t.pairs) (ln : t.names.length ≤ maxLen) (lp : t.pairs.length ≤ maxLen) (hmay : t.may L.length = false) (hE : w.cell? ⟨0, 0, none⟩ = some (.iface T u)) :
    Calls Tryz.prog 20 #[.pointer (some ⟨b, 0, none⟩), tmV t vn vp] w fun r w' => (∃ g, r = .returned (.tuple #[.int .i64 0, tFaultV g]) ∧ TermFault w' g (.iface T u) ∧ w.heap.size ≤ g) ∧ Below w.heap.size w w' := by
  obtain ⟨ao, cap, hc⟩ := hS.cell
  obtain ⟨W, hW⟩ : ∃ W, W = w.alloc (.cells #[.int .i64 t.kind, .int .i64 t.label, .int .i64 t.a, .int .i64 t.b, vn, vp] 35) := ⟨_, rfl⟩
  have hb : Below w.heap.size w W := by rw [hW]; exact (Below.refl _ _).alloc (Nat.le_refl _) _
  have hM := mayPut_any b ao L.length cap t vn vp W (cell_up hc hb) (hn.below hb) (hp.below hb) ln lp
  rw [hmay] at hM
  unfold tmV at hM ⊢
  obtain ⟨an, cn, rfl, _⟩ := hn
  obtain ⟨ap, cp, rfl, _⟩ := hp
  have HM : Hid _ := And.intro hM (And.intro hb hW)
  clear hM hb hW
  go_enter Tryz.func20, Tryz.ntmps20
  go_wp2_with fail
  rw [← HM.out.2.2]
  refine HM.out.1.mono ?_
  rintro r w1 ⟨rfl, hb1⟩
  have hB1 : Below w.heap.size w w1 := HM.out.2.1.trans (hb1.mono HM.out.2.1.size)
  have hE1 := cell_up hE hB1
  have HB : Hid _ := hB1
  clear hb1 hB1 hE
  go_wp2_with (go_at_call 81; refine (tfault_any _ _ _).mono ?_; rintro r w2 ⟨rfl, hF, hb2⟩)
  go_ret2
  exact ⟨⟨_, rfl, hF, HB.out.size⟩, HB.out.trans (hb2.mono HB.out.size)⟩
end Go.Proofs.YthnenpncajpibaaGreatDoor
