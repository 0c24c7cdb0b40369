/- Contract of the store's add where there is no map yet. -/
import Derived.Test.YthnenpncajpibaaGreatDoorTmAdd
namespace Go.Proofs.YthnenpncajpibaaGreatDoor
open Go.RowKit Go.Maps
attribute [local go_sem ↓] Go.wp_at_zero Go.wp_at_succ
/-- The world behind the box and the making of the map. -/
def madeW3 (w : World) (b : Nat) (o : Obj) : World := ((w.setCell ⟨b, 1, none⟩ (.map (some (w.heap.size + 1)))).alloc o).alloc (.map #[] 0)
theorem made_size (w : World) (b : Nat) (o : Obj) : (madeW3 w b o).heap.size = w.heap.size + 2 := by simp [madeW3, World.setCell]
theorem made_old (w : World) (b : Nat) (o : Obj) (i : Nat) (hi : i < w.heap.size) (hb : i ≠ b) : (madeW3 w b o).heap[i]? = w.heap[i]? := by
  unfold madeW3
  rw [Below.heap_alloc _ _ i (by simp [World.setCell]; omega), Below.heap_alloc _ _ i (by simp [World.setCell]; omega), set_other _ _ _ _ _ hb]
theorem made_kept (w : World) (b : Nat) (o : Obj) (F : Nat → Prop) (hF : F b) : Kept F w (madeW3 w b o) :=
  ⟨rfl, rfl, rfl, by rw [made_size]; omega, fun i hi hf => made_old w b o i hi fun e => hf (e ▸ hF)⟩
theorem made_b (w : World) (b : Nat) (o : Obj) (vt : Value) (h : w.heap[b]? = some (.cells #[vt, .map none] 71 (0, 0))) : (madeW3 w b o).heap[b]? = some (.cells #[vt, .map (some (w.heap.size + 1))] 71 (0, 0)) := by
  have hlt := t_lt h
  unfold madeW3
  rw [Below.heap_alloc _ _ b (by simp [World.setCell]; omega), Below.heap_alloc _ _ b (by simp [World.setCell]; omega), heap_setCell_same _ b 1 _ _ _ h]
  rfl
theorem made_map (w : World) (b : Nat) (o : Obj) : (madeW3 w b o).ownsMap (H := Unit) Tryz.prog 115 (plainElem Tryz.prog 3) (w.heap.size + 1) 0 (.map []) := by
  have h := World.ownsMap_made (H := Unit) ((w.setCell ⟨b, 1, none⟩ (.map (some (w.heap.size + 1)))).alloc o) Tryz.prog 115 (plainElem Tryz.prog 3)
  have e : ((w.setCell ⟨b, 1, none⟩ (.map (some (w.heap.size + 1)))).alloc o).heap.size = w.heap.size + 1 := by simp [World.setCell]
  rw [e] at h
  exact h
theorem made_box (w : World) (b : Nat) (o : Obj) : (madeW3 w b o).heap[w.heap.size]? = some o := by
  have h := (MapKept.heap_alloc (w.setCell ⟨b, 1, none⟩ (.map (some (w.heap.size + 1)))) o).1
  have e : (w.setCell ⟨b, 1, none⟩ (.map (some (w.heap.size + 1)))).heap.size = w.heap.size := by simp [World.setCell]
  rw [e] at h
  unfold madeW3
  rw [Below.heap_alloc _ _ _ (by simp [World.setCell])]
  exact h
theorem made_far {w : World} {v : Value} {zs : List Int} (h : HasI w v zs) (hz : zs ≠ []) {i : Nat} (hi : v.ownBlock = some i) : i < w.heap.size := by
  obtain ⟨ao, cap, rfl, h2⟩ := h
  cases zs with
  | nil => exact absurd rfl hz
  | cons z r =>
    obtain ⟨a, rfl, c⟩ := h2 0 z rfl
    have := block_lt3 c
    simp only [Value.ownBlock, Option.some.injEq] at hi
    omega
theorem made_farP {w : World} {v : Value} {zs : List (Int × Int)} (h : HasP w v zs) (hz : zs ≠ []) {i : Nat} (hi : v.ownBlock = some i) : i < w.heap.size := by
  obtain ⟨ao, cap, rfl, h2⟩ := h
  cases zs with
  | nil => exact absurd rfl hz
  | cons z r =>
    obtain ⟨a, rfl, c, _⟩ := h2 0 z rfl
    have := block_lt3 c
    simp only [Value.ownBlock, Option.some.injEq] at hi
    omega
theorem add0n {w : World} {b : Nat} {vt : Value} {t : Tm} {vn vp : Value} (hS : Sto w b vt (.map none) [] []) (hH : Hand w (Foot3 b vt (.map none) []) t vn vp) : Add0 w (madeW3 w b (.cells #[.int .i64 t.kind, .int .i64 t.label, .int .i64 t.a, .int .i64 t.b, vn, vp] 35)) b vt (.map (some (w.heap.size + 1))) [] [] t vn vp := by
  have hlt := t_lt hS.cell
  have hk := made_kept w b (.cells #[.int .i64 t.kind, .int .i64 t.label, .int .i64 t.a, .int .i64 t.b, vn, vp] 35)
  have hh := hH.kept (hk (Foot3 b vt (.map none) []) (.inl rfl))
  refine ⟨⟨made_b _ _ _ _ hS.cell, trow_at hS.row fun i hi => made_old _ _ _ _ (hS.row.lt i hi).2 fun e => hS.apart (e ▸ hi), .inr ⟨_, _, rfl, made_map _ _ _, .nil⟩, rfl, fun i t v h => by simp at h, fun t h => by simp at h, by simp⟩,
    ⟨hh.n, hh.p, fun hz i hi hf => ?_, fun hz i hi hf => ?_⟩, made_box _ _ _, hlt, fun i hi => (hS.row.lt i hi).2, hk _ (.inl rfl)⟩
  · rcases hf with hf | hf | hf | ⟨v, hv, _⟩
    · exact hh.fn hz i hi (.inl hf)
    · exact hh.fn hz i hi (.inr (.inl hf))
    · injection hf with hf
      injection hf with hf
      have := made_far hH.n hz hi
      omega
    · simp at hv
  · rcases hf with hf | hf | hf | ⟨v, hv, _⟩
    · exact hh.fp hz i hi (.inl hf)
    · exact hh.fp hz i hi (.inr (.inl hf))
    · injection hf with hf
      injection hf with hf
      have := made_farP hH.p hz hi
      omega
    · simp at hv
theorem foot_none {w w' : World} {b : Nat} {vt : Value} (h : Kept (Foot3 b vt (.map (some (w.heap.size + 1))) []) w w') : Kept (Foot3 b vt (.map none) []) w w' := h.mono fun k hk hf => by
  rcases hf with hf | hf | hf | ⟨v, hv, _⟩
  · exact .inl hf
  · exact .inr (.inl hf)
  · injection hf with hf
    injection hf with hf
    omega
  · simp at hv
theorem foot_none2 {N : Nat} {b : Nat} {vt : Value} {F : Nat → Prop} (h : ∀ i, F i → Foot3 b vt (.map (some (N + 1))) [] i ∨ N ≤ i) : ∀ i, F i → Foot3 b vt (.map none) [] i ∨ N ≤ i := fun i hi => by
  rcases h i hi with hf | hf
  · rcases hf with hf | hf | hf | ⟨v, hv, _⟩
    · exact .inl (.inl hf)
    · exact .inl (.inr (.inl hf))
    · injection hf with hf
      injection hf with hf
      exact .inr (by omega)
    · simp at hv
  · exact .inr hf
set_option maxRecDepth 100000 in
set_option maxHeartbeats 1600000 in
theorem add_none (b : Nat) (vt : Value) (t : Tm) (vn vp : Value) (w : World) (hS : Sto w b vt (.map none) [] [])
    (hwf : t.Wf) (hh : Hand w (Foot3 b vt (.map none) []) t vn vp) :
    Calls Tryz.prog 22 #[.pointer (some ⟨b, 0, none⟩), tmV t vn vp] w fun r w' => r = .returned (.int .i64 0) ∧ ∃ vt' vm' v, Sto w' b vt' vm' [t] [v] ∧ Kept (Foot3 b vt (.map none) []) w w' ∧ (∀ i, Foot3 b vt' vm' [v] i → Foot3 b vt (.map none) [] i ∨ w.heap.size ≤ i) := by
  obtain ⟨ao, cap, rfl⟩ := row_shape hS.row
  obtain ⟨an, cn, rfl, _⟩ := id hh.n
  obtain ⟨ap, cp, rfl, _⟩ := id hh.p
  obtain ⟨hc0, hc1⟩ := t_cells hS.cell
  have hlt := t_lt hS.cell
  have hf0 := blk_free hS.cell
  have hq := Tryz.eqMapN
  have hmm := @run_makeMap Tryz.prog
  obtain ⟨i0, hi0, hz0, hz1, hz2⟩ := info_parts Tryz.infoT
  have hml : 0 + 1 ≤ maxLen := by unfold maxLen; omega
  have hby : (0 + 1) * 80 ≤ 140737488355328 := by omega
  have hlen : ([] : List Tm).length < 100000 := by decide
  have ln : t.names.length * 8 ≤ 140737488355328 := by have := hwf.nl; omega
  have lp : t.pairs.length * 16 ≤ 140737488355328 := by have := hwf.pl; omega
  have HT : Hid (MapOf3 (.map []) [] ∧ t.Wf ∧ t ∉ ([] : List Tm)) := ⟨.nil, hwf, by simp⟩
  have HH : Hid _ := hh
  have lk : 0 < maxLen := by unfold maxLen; omega
  have HA : Hid _ := And.intro (add0n hS hh) (made_map w b (.cells #[.int .i64 t.kind, .int .i64 t.label, .int .i64 t.a, .int .i64 t.b, .slice an t.names.length cn, .slice ap t.pairs.length cp] 35))
  clear hS hwf hh
  unfold tmV
  go_enter Tryz.func22, Tryz.ntmps22
  go_wp2_with fail
  rw [show ((w.setCell ⟨b, 1, none⟩ (.map (some (w.heap.size + 1)))).alloc (.cells #[.int .i64 t.kind, .int .i64 t.label, .int .i64 t.a, .int .i64 t.b, .slice an t.names.length cn, .slice ap t.pairs.length cp] 35)).alloc (.map #[] 0) = madeW3 w b (.cells #[.int .i64 t.kind, .int .i64 t.label, .int .i64 t.a, .int .i64 t.b, .slice an t.names.length cn, .slice ap t.pairs.length cp] 35) from rfl]
  generalize madeW3 w b (.cells #[.int .i64 t.kind, .int .i64 t.label, .int .i64 t.a, .int .i64 t.b, .slice an t.names.length cn, .slice ap t.pairs.length cp] 35) = W at HA
  clear hf0
  clear hc0 hc1
  obtain ⟨hc0, hc1⟩ := t_cells HA.out.1.s.cell
  obtain ⟨x0, x1, x2, x3, x4, x5, xf⟩ := six6 HA.out.1.box
  have HTw : Hid (∀ W', Below W.heap.size W W' → Calls Tryz.prog 78 #[.agg #[.int .i64 t.kind, .int .i64 t.label, .int .i64 t.a, .int .i64 t.b, .slice an t.names.length cn, .slice ap t.pairs.length cp]] W' fun r w' => ∃ v1 v2, r = .returned (tmV t v1 v2) ∧ Twin W' w' t v1 v2) := fun W' hb => twin_any t _ _ W' (HA.out.1.h.below hb).n (HA.out.1.h.below hb).p ln lp
  go_region_law
    ((first
      | (go_simp; go_at_call 78; refine (HTw.out _ (by repeat (first | exact Below.refl _ _ | assumption | refine Below.drew ?_ | refine Below.setCell ?_ (by simp) _ | refine Below.alloc ?_ (by simp) _))).mono ?_; rintro r1 w1 ⟨v1, v2, rfl, hTw⟩; unfold tmV; obtain ⟨ao1, cap1, rfl⟩ := row_shape hTw.n; obtain ⟨ao2, cap2, rfl⟩ := row_shape hTw.p; have hA1 := add1 HA.out.1 hTw; have hM1 := map_at HA.out.2 ((below_of_drew3 hTw.bl).block _ HA.out.2.lt); clear hc0 hc1; obtain ⟨hc0, hc1⟩ := t_cells hA1.z.s.cell; have hlt1 := t_lt hA1.z.s.cell; have H1 : Hid _ := And.intro hA1 hM1; clear hA1 hM1 hTw HTw)
      | (refine step_append_lies _ (by rfl) _ _ _ (by rfl) 0 35 i0 _ 6 80 Tryz.underlying22 hi0 hz0 hz1 hz2 rfl (Nat.succ_pos 5) (.slice ao 0 cap) 0 (rowC [] []) (by rfl) (H1.out.1.z.s.row.alloc _)
          ⟨w1.heap.size, 0, none⟩ 1 1 [.int .i64 t.kind, .int .i64 t.label, .int .i64 t.a, .int .i64 t.b, .slice ao1 t.names.length cap1, .slice ao2 t.pairs.length cap2] (by rfl) (by rfl) (World.news_of_block (cs := #[.int .i64 t.kind, .int .i64 t.label, .int .i64 t.a, .int .i64 t.b, .slice ao1 t.names.length cap1, .slice ao2 t.pairs.length cap2]) (t := 35) (fr := (0, 0)) (heap_alloc_new w1 _)) (six_one _ _ _ _ _ _ _ _ _ _)
          Nat.one_pos hml hby (Nat.zero_le _) (w1.heap.size + 1) (by simp) ?_; intro gg cap' w2 hown2 hgrow hat hlt2; have hA2 : Add2 w w1 w2 b (.slice ao 0 cap) (.map (some (w.heap.size + 1))) [] [] t (.slice an t.names.length cn) (.slice ap t.pairs.length cp) (.slice ao1 t.names.length cap1) (.slice ao2 t.pairs.length cap2) (.slice (some ⟨gg, 0, none⟩) (0 + 1) cap') := ⟨hown2, hgrow, hat.imp (fun h => h.symm) (fun h => by simp [Value.ownBlock, h])⟩; clear hc0 hc1; have hB2 := hA2.cell H1.out.1; obtain ⟨hc0, hc1⟩ := t_cells hB2; have hf := blk_free hB2; have H2 : Hid _ := hA2; clear hA2 hB2 hown2 hgrow hat hlt2)))
  all_goals
    go_wp2_with fail
    obtain ⟨W2, hW2⟩ : ∃ W2, W2 = w2.setCell ⟨b, 0, none⟩ (.slice (some ⟨gg, 0, none⟩) (0 + 1) cap') := ⟨_, rfl⟩
    rw [← hW2]
    have hR3 := add3 H1.out.1 H2.out HT.out.2.1 hlen
    have hX3 := add_box H1.out.1 H2.out
    have hH3 := HH.out.kept (foot_none (add_kept H1.out.1 H2.out))
    have hM3 := add_map H1.out.1 H2.out H1.out.2
    rw [← hW2] at hR3 hX3 hH3 hM3
    have HW2 : Hid (w2.setCell ⟨b, 0, none⟩ (.slice (some ⟨gg, 0, none⟩) (0 + 1) cap') = W2) := hW2.symm
    clear hW2 hc0 hc1 x0 x1 x2 x3 x4 x5 xf hf hlt1
    have HR : Hid _ := And.intro hR3 hM3
    have HK : Hid (∀ W', Below W2.heap.size W2 W' → Calls Tryz.prog 82 #[.agg #[.int .i64 t.kind, .int .i64 t.label, .int .i64 t.a, .int .i64 t.b, .slice an t.names.length cn, .slice ap t.pairs.length cp]] W' fun r w' => r = .returned (keyV t) ∧ Below W'.heap.size W' w') := fun W' hb => keyOf_any t _ _ W' (hH3.below hb).n (hH3.below hb).p (by have := HT.out.2.1.nl; omega) (by have := HT.out.2.1.pl; omega) HT.out.2.1.nb HT.out.2.1.pb
    obtain ⟨hc0, hc1⟩ := t_cells hR3.cell
    obtain ⟨x0, x1, x2, x3, x4, x5, xf⟩ := six6 hX3
    clear hR3 hX3 hH3 hM3
    go_region_law
      ((first
        | (go_simp; go_at_call 82; refine (HK.out _ (by repeat (first | exact Below.refl _ _ | assumption | refine Below.drew ?_ | refine Below.setCell ?_ (by simp) _ | refine Below.alloc ?_ (by simp) _))).mono ?_; rintro r3 w3 ⟨rfl, hb3'⟩; have hb3 := below_of_drew3 hb3'; have hM4 := map_at HR.out.2 (hb3.block _ HR.out.2.lt); obtain ⟨w4, hrun, ho4, hg4⟩ := hM4.update Tryz.lawK Tryz.underlying69 lk (keyOf_keyV t HT.out.2.1.fits) (plainElem_int (a := (0 : Int)) Tryz.underlying3 (WalkArith.wf_i64 (by omega))); clear hc0 hc1; obtain ⟨hc0, hc1⟩ := t_cells (HR.out.1.below hb3).cell; have H4 : Hid _ := And.intro hM4 (And.intro hb3 (And.intro ho4 hg4)); clear hM4 hb3 hb3' ho4 hg4 HK)))
    all_goals
      go_wp2_with fail
      go_ret
      obtain ⟨r1, r2, r3⟩ := add_fin H1.out.1 H2.out HT.out.2.1 HT.out.2.2 hlen rfl HT.out.1 H4.out.1 (by rw [HW2.out]; exact H4.out.2.1) H4.out.2.2.1 H4.out.2.2.2
      exact ⟨rfl, _, _, (_, _), r1, foot_none r2, foot_none2 r3⟩
end Go.Proofs.YthnenpncajpibaaGreatDoor
