/- Texts of this claim, joined: RtSto, RtFind, RtPut0. -/
import Derived.Test.YthnenpncajpibaaGreatDoorPart6
/- The document's store in memory: what it holds, and what of it stays. -/
namespace Go.Proofs.YthnenpncajpibaaGreatDoor
open Go.RowKit Go.Maps
namespace Tm
/-- The numbers of the terms with this sum. -/
def idx (L : List Tm) (h : Nat) : List Int := ((List.range L.length).filter fun i => (L[i]?.map Tm.hash) == some h).map fun i => ((i : Nat) : Int)
theorem idx_snoc (L : List Tm) (t : Tm) (h : Nat) : idx (L ++ [t]) h = if t.hash = h then idx L h ++ [(L.length : Int)] else idx L h := by
  unfold idx
  have e1 : (List.range L.length).filter (fun i => ((L ++ [t])[i]?.map Tm.hash) == some h) = (List.range L.length).filter (fun i => (L[i]?.map Tm.hash) == some h) :=
    List.filter_congr fun i hi => by
      have : i < L.length := List.mem_range.1 hi
      rw [List.getElem?_append_left this]
  rw [List.length_append, List.length_singleton, List.range_succ, List.filter_append, e1]
  by_cases ht : t.hash = h
  · rw [if_pos ht]; simp [ht]
  · rw [if_neg ht]; simp [ht]
theorem idx_mem {L : List Tm} {h : Nat} {z : Int} : z ∈ idx L h ↔ ∃ (i : Nat) (t : Tm), z = i ∧ L[i]? = some t ∧ t.hash = h := by
  unfold idx
  simp only [List.mem_map, List.mem_filter, List.mem_range, beq_iff_eq, Option.map_eq_some_iff]
  constructor
  · rintro ⟨i, ⟨_, t, ht, hh⟩, rfl⟩
    exact ⟨i, t, rfl, ht, hh⟩
  · rintro ⟨i, t, rfl, ht, hh⟩
    exact ⟨i, ⟨(List.getElem?_eq_some_iff.1 ht).1, t, ht, hh⟩, rfl⟩
theorem idx_len (L : List Tm) (h : Nat) : (idx L h).length ≤ L.length := by
  unfold idx
  rw [List.length_map]
  exact Nat.le_trans (List.length_filter_le _ _) (by simp)
end Tm
structure RSto (w : World) (b : Nat) (cs : Array Value) (vt : Value) (rs : Nat → Value) (L M : List Tm) (vs : List (Value × Value)) : Prop where
  cell : w.heap[b]? = some (.cells cs 32 (0, 0))
  c0 : cs[0]? = some vt
  ch : ∀ h, h < 512 → cs[h + 1]? = some (rs h)
  row : w.ownsRow 0 35 6 vt L.length (rowC L vs)
  rows : ∀ h, h < 512 → OwnI w 0 (rs h) (Tm.idx M h)
  len : vs.length = L.length
  lists : ∀ (i : Nat) (t : Tm) (v : Value × Value), L[i]? = some t → vs[i]? = some v → OwnI w 0 v.1 t.names ∧ OwnP w 0 v.2 t.pairs
  bd : ∀ t ∈ L, t.Bd
  big : L.length ≤ 100000
  ap : ∀ h h', h < 512 → h' < 512 → h ≠ h' → ∀ k, (rs h).ownBlock = some k → (rs h').ownBlock ≠ some k
  al : ∀ v ∈ vs, ∀ h, h < 512 → ∀ k, (rs h).ownBlock = some k → v.1.ownBlock ≠ some k
def RFoot (b : Nat) (vt : Value) (rs : Nat → Value) (vs : List (Value × Value)) (i : Nat) : Prop := i = b ∨ vt.ownBlock = some i ∨ (∃ h, h < 512 ∧ (rs h).ownBlock = some i) ∨ ∃ v ∈ vs, v.1.ownBlock = some i ∨ v.2.ownBlock = some i
theorem RSto.list_at {w : World} {b : Nat} {cs : Array Value} {vt : Value} {rs : Nat → Value} {L M : List Tm} {vs : List (Value × Value)} (h : RSto w b cs vt rs L M vs) {v : Value × Value} (hv : v ∈ vs) : ∃ t ∈ L, OwnI w 0 v.1 t.names ∧ OwnP w 0 v.2 t.pairs := by
  obtain ⟨i, hi, rfl⟩ := List.getElem_of_mem hv
  have hl : i < L.length := by rw [← h.len]; exact hi
  exact ⟨L[i], List.getElem_mem hl, h.lists i _ _ (List.getElem?_eq_getElem hl) (List.getElem?_eq_getElem hi)⟩
theorem RSto.foot_lt {w : World} {b : Nat} {cs : Array Value} {vt : Value} {rs : Nat → Value} {L M : List Tm} {vs : List (Value × Value)} (h : RSto w b cs vt rs L M vs) {i : Nat} (hi : RFoot b vt rs vs i) : i < w.heap.size := by
  rcases hi with rfl | hi | ⟨k, hk, hi⟩ | ⟨v, hv, hi | hi⟩
  · exact t_lt h.cell
  · exact (h.row.lt i hi).2
  · exact ((h.rows k hk).lt i hi).2
  · obtain ⟨t, _, h1, _⟩ := h.list_at hv
    exact (h1.lt i hi).2
  · obtain ⟨t, _, _, h1⟩ := h.list_at hv
    exact (h1.lt i hi).2
theorem RSto.at {w w' : World} {b : Nat} {cs : Array Value} {vt : Value} {rs : Nat → Value} {L M : List Tm} {vs : List (Value × Value)} (h : RSto w b cs vt rs L M vs) (hb : ∀ i, RFoot b vt rs vs i → w'.heap[i]? = w.heap[i]?) : RSto w' b cs vt rs L M vs :=
  ⟨by rw [hb b (.inl rfl)]; exact h.cell, h.c0, h.ch, trow_at h.row fun i hi => hb i (.inr (.inl hi)), fun k hk => trow_at (h.rows k hk) fun i hi => hb i (.inr (.inr (.inl ⟨k, hk, hi⟩))), h.len,
    fun i t v h1 h2 => ⟨trow_at (h.lists i t v h1 h2).1 fun k hk => hb k (.inr (.inr (.inr ⟨v, List.mem_of_getElem? h2, .inl hk⟩))), trow_at (h.lists i t v h1 h2).2 fun k hk => hb k (.inr (.inr (.inr ⟨v, List.mem_of_getElem? h2, .inr hk⟩)))⟩, h.bd, h.big, h.ap, h.al⟩
theorem RSto.below {w w' : World} {b : Nat} {cs : Array Value} {vt : Value} {rs : Nat → Value} {L M : List Tm} {vs : List (Value × Value)} (h : RSto w b cs vt rs L M vs) (hb : Below w.heap.size w w') : RSto w' b cs vt rs L M vs := h.at fun i hi => hb.block i (h.foot_lt hi)
theorem RSto.kept {w w' : World} {b : Nat} {cs : Array Value} {vt : Value} {rs : Nat → Value} {L M : List Tm} {vs : List (Value × Value)} {F : Nat → Prop} (h : RSto w b cs vt rs L M vs) (hk : Kept F w w') (hF : ∀ i, RFoot b vt rs vs i → ¬ F i) : RSto w' b cs vt rs L M vs := h.at fun i hi => hk.block i (h.foot_lt hi) (hF i hi)
/-- The cells of the store. -/
theorem RSto.cells {w : World} {b : Nat} {cs : Array Value} {vt : Value} {rs : Nat → Value} {L M : List Tm} {vs : List (Value × Value)} (h : RSto w b cs vt rs L M vs) : w.cell? ⟨b, 0, none⟩ = some vt ∧ (∀ k, k < 512 → w.cell? ⟨b, k + 1, none⟩ = some (rs k)) ∧ ∀ k, w.frozen? ⟨b, k, none⟩ = false :=
  ⟨by simp [World.cell?, h.cell, h.c0], fun k hk => by simp [World.cell?, h.cell, h.ch k hk], blk_free h.cell⟩
/-- A store with these terms, its blocks being those of F. -/
def RStoB (w : World) (b : Nat) (L : List Tm) (F : Nat → Prop) : Prop := ∃ cs vt rs vs, RSto w b cs vt rs L L vs ∧ F = RFoot b vt rs vs
theorem RStoB.foot_lt {w : World} {b : Nat} {L : List Tm} {F : Nat → Prop} (h : RStoB w b L F) {i : Nat} (hi : F i) : i < w.heap.size := by
  obtain ⟨cs, vt, rs, vs, hS, rfl⟩ := h
  exact hS.foot_lt hi
theorem RStoB.b {w : World} {b : Nat} {L : List Tm} {F : Nat → Prop} (h : RStoB w b L F) : F b := by
  obtain ⟨cs, vt, rs, vs, hS, rfl⟩ := h
  exact .inl rfl
theorem RStoB.kept {w w' : World} {b : Nat} {L : List Tm} {F G : Nat → Prop} (h : RStoB w b L F) (hk : Kept G w w') (hF : ∀ i, F i → ¬ G i) : RStoB w' b L F := by
  obtain ⟨cs, vt, rs, vs, hS, rfl⟩ := h
  exact ⟨cs, vt, rs, vs, hS.kept hk hF, rfl⟩
theorem RStoB.below {w w' : World} {b : Nat} {L : List Tm} {F : Nat → Prop} (h : RStoB w b L F) (hb : Below w.heap.size w w') : RStoB w' b L F := by
  obtain ⟨cs, vt, rs, vs, hS, rfl⟩ := h
  exact ⟨cs, vt, rs, vs, hS.below hb, rfl⟩
theorem RStoB.big {w : World} {b : Nat} {L : List Tm} {F : Nat → Prop} (h : RStoB w b L F) : L.length ≤ 100000 := by
  obtain ⟨cs, vt, rs, vs, hS, rfl⟩ := h
  exact hS.big
theorem RStoB.cell {w : World} {b : Nat} {L : List Tm} {F : Nat → Prop} (h : RStoB w b L F) : ∃ ao cap, w.cell? ⟨b, 0, none⟩ = some (.slice ao L.length cap) := by
  obtain ⟨cs, vt, rs, vs, hS, rfl⟩ := h
  obtain ⟨ao, cap, rfl⟩ := row_shape hS.row
  exact ⟨ao, cap, hS.cells.1⟩
theorem RStoB.bd {w : World} {b : Nat} {L : List Tm} {F : Nat → Prop} (h : RStoB w b L F) : ∀ t ∈ L, t.Bd := by
  obtain ⟨cs, vt, rs, vs, hS, rfl⟩ := h
  exact hS.bd
/-- A term of the store, as it lies in the row. -/
theorem RStoB.at {w : World} {b : Nat} {L : List Tm} {F : Nat → Prop} (h : RStoB w b L F) {i : Nat} {t : Tm} (hi : L[i]? = some t) : ∃ g cap vn vp, AtT w b g cap L.length i t vn vp := by
  obtain ⟨cs, vt, rs, vs, hS, rfl⟩ := h
  have hlt := (List.getElem?_eq_some_iff.1 hi).1
  obtain ⟨g, cap, rfl, _, _⟩ := hS.row.form (by omega)
  have hv : vs[i]? = some (vs[i]'(by rw [hS.len]; exact hlt)) := List.getElem?_eq_getElem _
  obtain ⟨l1, l2⟩ := hS.lists i t _ hi hv
  have hr := rowC_at L vs hS.len i t _ hi hv
  have hc : ∀ k, k < 6 → w.cell? ⟨g, i * 6 + k, none⟩ = (tmC t (vs[i]'(by rw [hS.len]; exact hlt)).1 (vs[i]'(by rw [hS.len]; exact hlt)).2)[k]? := fun k hk => by
    rw [hS.row.cellAt (i * 6 + k) (by omega), hr k hk]
  exact ⟨g, cap, _, _, ⟨hS.cells.1, hc 0 (by omega), hc 1 (by omega), hc 2 (by omega), hc 3 (by omega), hc 4 (by omega), hc 5 (by omega), l1.has, l2.has⟩⟩
/-- The row of a sum. -/
theorem RStoB.rowAt {w : World} {b : Nat} {L : List Tm} {F : Nat → Prop} (h : RStoB w b L F) {k : Nat} (hk : k < 512) : ∃ v, w.cell? ⟨b, k + 1, none⟩ = some v ∧ HasI w v (Tm.idx L k) := by
  obtain ⟨cs, vt, rs, vs, hS, rfl⟩ := h
  exact ⟨rs k, hS.cells.2.1 k hk, (hS.rows k hk).has⟩
set_option maxRecDepth 100000 in
theorem Tryz.zeroR : Tryz.zeroCells32 = Array.replicate 513 (.slice none 0 0) := by kernel_rfl
/-- The store that holds nothing. -/
theorem rsto_zero (w : World) : RSto (w.alloc (.cells Tryz.zeroCells32 32)) w.heap.size Tryz.zeroCells32 (.slice none 0 0) (fun _ => .slice none 0 0) [] [] [] := by
  refine ⟨(MapKept.heap_alloc w _).1, ?_, fun h hh => ?_, World.ownsRow_nil _ _ _ _, fun h hh => World.ownsRow_nil _ _ _ _, rfl, fun i t v h => by simp at h, fun t h => by simp at h, by simp, fun h h' _ _ _ k hk => (by cases hk), fun v hv => (by simp at hv)⟩
  · rw [Tryz.zeroR, Array.getElem?_replicate]; rfl
  · rw [Tryz.zeroR, Array.getElem?_replicate, if_pos (by omega)]
end Go.Proofs.YthnenpncajpibaaGreatDoor
/- Contract of the document's Find. -/
namespace Go.Proofs.YthnenpncajpibaaGreatDoor
open Go.RowKit Go.Maps
attribute [local go_sem ↓] Go.wp_at_zero Go.wp_at_succ
theorem idx_no {L : List Tm} {t : Tm} (h : ∀ z ∈ Tm.idx L t.hash, ∀ i : Nat, z = i → L[i]? ≠ some t) : t ∉ L := fun hm => by
  obtain ⟨i, hi, e⟩ := List.getElem_of_mem hm
  have e' : L[i]? = some t := by rw [List.getElem?_eq_getElem hi, e]
  exact h i (Tm.idx_mem.2 ⟨i, t, rfl, e', rfl⟩) i rfl e'
theorem mem_take_succ {α : Type} {l : List α} {j : Nat} {x y : α} (h : l[j]? = some x) (hy : y ∈ l.take (j + 1)) : y ∈ l.take j ∨ y = x := by
  rw [take_next h] at hy
  simpa using hy
set_option maxRecDepth 100000 in
set_option maxHeartbeats 1600000 in
theorem rfind_any (b : Nat) (L : List Tm) (F : Nat → Prop) (t : Tm) (vn vp : Value) (w : World) (hS : RStoB w b L F) (hn : HasI w vn t.names) (hp : HasP w vp t.pairs) (hB : t.Bd) :
    Calls Tryz.prog 84 #[.pointer (some ⟨b, 0, none⟩), tmV t vn vp] w fun r w' => ((∃ k : Nat, r = .returned (.int .i64 k) ∧ L[k]? = some t) ∨ (r = .returned (.int .i64 (-1)) ∧ t ∉ L)) ∧ Below w.heap.size w w' := by
  obtain ⟨W, hW⟩ : ∃ W, W = w.alloc (.cells #[.int .i64 t.kind, .int .i64 t.label, .int .i64 t.a, .int .i64 t.b, vn, vp] 35) := ⟨_, rfl⟩
  have hb : Below w.heap.size w W := by rw [hW]; exact (Below.refl _ _).alloc (Nat.le_refl _) _
  have hX : W.heap[w.heap.size]? = some (.cells #[.int .i64 t.kind, .int .i64 t.label, .int .i64 t.a, .int .i64 t.b, vn, vp] 35 (0, 0)) := by rw [hW]; exact (MapKept.heap_alloc w _).1
  have hSum : ∀ W', Below W.heap.size W W' → Calls Tryz.prog 85 #[tmV t vn vp] W' fun r w' => r = .returned (.int .i64 t.hash) ∧ Below W'.heap.size W' w' := fun W' hb' => rsum_any t vn vp W' ((hn.below hb).below hb') ((hp.below hb).below hb') hB
  have hSame : ∀ W', Below W.heap.size W W' → ∀ (s : Tm) (un up : Value), HasI W' un s.names → HasP W' up s.pairs → s.Bd → Calls Tryz.prog 114 #[tmV s un up, tmV t vn vp] W' fun r w' => r = .returned (.bool (Tm.same s t)) ∧ Below W'.heap.size W' w' := fun W' hb' s un up h1 h2 h3 => rsame_any s t un up vn vp W' h1 h2 ((hn.below hb).below hb') ((hp.below hb).below hb') (by have := h3.nl; omega) (by have := h3.pl; omega) (by have := hB.nl; omega) (by have := hB.pl; omega)
  have hS' := hS.below hb
  obtain ⟨ao, cap, hc⟩ := hS'.cell
  have hblt : b < W.heap.size := World.block_lt_of_cell? W _ hc
  obtain ⟨an, cn, rfl, _⟩ := id hn
  obtain ⟨ap, cp, rfl, _⟩ := id hp
  unfold tmV at hSum hSame ⊢
  have HS : Hid _ := And.intro hS' (And.intro hb (And.intro hX (And.intro hB hSame)))
  have HU : Hid _ := hSum
  have HW : Hid _ := hW
  obtain ⟨x0, x1, x2, x3, x4, x5, xf⟩ := six6 hX
  have hh := Tm.hash_lt t
  obtain ⟨v, hv, hvI⟩ := hS'.rowAt hh
  have q0 : (0 : Int) ≤ (t.hash : Int) := by omega
  have q1 : (t.hash : Int) < 512 := by omega
  have hv' : W.cell? ⟨b, 1 + t.hash, none⟩ = some v := by rw [Nat.add_comm]; exact hv
  have HI : Hid _ := hvI
  clear hS hS' hb hX hB hSum hSame hn hp hvI hW
  go_enter Tryz.func84, Tryz.ntmps84
  go_wp2_with fail
  rw [← HW.out]
  go_region_law
    ((first
      | (go_simp; go_at_call 85; refine (HU.out _ (by repeat (first | exact Below.refl _ _ | assumption | refine Below.drew ?_ | refine Below.setCell ?_ (by simp) _ | refine Below.alloc ?_ (by simp) _))).mono ?_; rintro r3 w3 ⟨rfl, hb3'⟩; have hb3 := below_of_drew3 hb3'; have hv3 := cell_up hv hb3; have hv3' := cell_up hv' hb3; have H3 : Hid _ := hb3; clear hb3 hb3' HU)))
  all_goals
    obtain ⟨av, cv, rfl, hcv⟩ := id HI.out
    obtain ⟨I, hI⟩ : ∃ I, I = Tm.idx L t.hash := ⟨_, rfl⟩
    obtain ⟨n, hN⟩ : ∃ n, n = I.length := ⟨_, rfl⟩
    have hlen := Tm.idx_len L t.hash
    have hbig := HS.out.1.big
    rw [← hI, ← hN] at hlen
    rw [← hI] at hcv
    have HL : Hid _ := And.intro hI (And.intro hN hcv)
    rw [← hI, ← hN]
    clear hI hN hcv hv hv' hv3 hv3' x0 x1 x2 x3 x4 x5 hc
    (try go_simp)
    go_wp2_with fail
    go_loopg [6] n (fun g i wr => ∃ j : Nat, g = n - j ∧ j ≤ n ∧ i = .int .i64 j ∧ (∀ z ∈ I.take j, ∀ i : Nat, z = i → L[i]? ≠ some t) ∧ Below W.heap.size W wr)
    case atStart => exact ⟨0, rfl, Nat.zero_le _, rfl, fun z hz => by simp at hz, H3.out⟩
    case round =>
      obtain ⟨j, rfl, hj, rfl, hno, hbw⟩ := hrel
      have HR : Hid _ := And.intro hno hbw
      clear hno hbw
      by_cases hlt : j < n
      · obtain ⟨z, hz⟩ : ∃ z, I[j]? = some z := ⟨I[j]'(by have := HL.out.2.1; omega), List.getElem?_eq_getElem _⟩
        obtain ⟨k, s, rfl, hk, hsh⟩ := Tm.idx_mem.1 (by rw [← HL.out.1]; exact List.mem_of_getElem? hz)
        obtain ⟨aa, rfl, e0⟩ := HL.out.2.2 j _ hz
        have d0 := (HR.out.2.cell (World.block_lt_of_cell? W _ e0)).trans e0
        have hSr := HS.out.1.below HR.out.2
        obtain ⟨g, cg, un, up, hA⟩ := hSr.at hk
        have hXr := (HR.out.2.block _ (t_lt HS.out.2.2.1)).trans HS.out.2.2.1
        obtain ⟨x0, x1, x2, x3, x4, x5, xf'⟩ := six6 hXr
        have hkl := (List.getElem?_eq_some_iff.1 hk).1
        have hC : ∀ W', Below wr.heap.size wr W' → Calls Tryz.prog 114 #[.agg #[.int .i64 s.kind, .int .i64 s.label, .int .i64 s.a, .int .i64 s.b, un, up], .agg #[.int .i64 t.kind, .int .i64 t.label, .int .i64 t.a, .int .i64 t.b, .slice an t.names.length cn, .slice ap t.pairs.length cp]] W' fun r w' => r = .returned (.bool (Tm.same s t)) ∧ Below W'.heap.size W' w' := fun W' hb' => HS.out.2.2.2.2 W' (HR.out.2.trans (hb'.mono HR.out.2.size)) s un up (hA.n.below hb') (hA.p.below hb') (hSr.bd s (List.mem_of_getElem? hk))
        have HC : Hid _ := hC
        obtain ⟨an', cn', rfl, _⟩ := id hA.n
        obtain ⟨ap', cp', rfl, _⟩ := id hA.p
        obtain ⟨c0, y0, y1, y2, y3, y4, y5, _, _⟩ := hA
        have r0 : (0 : Int) ≤ (j : Int) := by omega
        have r1 : (j : Int) < (n : Int) := by omega
        have r2 : (0 : Int) ≤ (k : Int) := by omega
        have r3 : (k : Int) < (L.length : Int) := by omega
        have HK : Hid _ := And.intro hz hk
        clear hz hk hSr hXr hC e0 hsh
        by_cases hst : s = t
        · have he : Tm.same s t = true := (same_iff _ _).2 hst
          rw [he] at HC
          have HST : Hid _ := hst
          clear he hst
          go_wp2_with fail
          go_region_held3 (fun w' => w'.cell? ⟨b, 0, none⟩ = some (.slice (some ⟨g, 0, none⟩) L.length cg) ∧ w'.cell? (aa.add j) = some (.int .i64 k) ∧ (w'.cell? ⟨g, k * 6, none⟩ = some (.int .i64 s.kind) ∧ w'.cell? ⟨g, k * 6 + 1, none⟩ = some (.int .i64 s.label) ∧ w'.cell? ⟨g, k * 6 + 2, none⟩ = some (.int .i64 s.a) ∧ w'.cell? ⟨g, k * 6 + 3, none⟩ = some (.int .i64 s.b) ∧ w'.cell? ⟨g, k * 6 + 4, none⟩ = some (.slice an' s.names.length cn') ∧ w'.cell? ⟨g, k * 6 + 5, none⟩ = some (.slice ap' s.pairs.length cp')) ∧ w'.cell? ⟨w.heap.size, 0, none⟩ = some (.int .i64 t.kind) ∧ w'.cell? ⟨w.heap.size, 1, none⟩ = some (.int .i64 t.label) ∧ w'.cell? ⟨w.heap.size, 2, none⟩ = some (.int .i64 t.a) ∧ w'.cell? ⟨w.heap.size, 3, none⟩ = some (.int .i64 t.b) ∧ w'.cell? ⟨w.heap.size, 4, none⟩ = some (.slice an t.names.length cn) ∧ w'.cell? ⟨w.heap.size, 5, none⟩ = some (.slice ap t.pairs.length cp)) (go_keep)
            ((go_at_call 114; refine (HC.out _ (by repeat (first | exact Below.refl _ _ | assumption | refine Below.drew ?_ | refine Below.setCell ?_ (by simp) _ | refine Below.alloc ?_ (by simp) _))).mono ?_; rintro r6 w6 ⟨rfl, hb6'⟩; have hb6 := below_of_drew3 hb6'; have d6 := (hb6.cell (World.block_lt_of_cell? wr _ d0)).trans d0; clear HC; obtain ⟨c0, x0, x1, x2, x3, x4, x5, y0, y1, y2, y3, y4, y5⟩ : _ ∧ _ ∧ _ ∧ _ ∧ _ ∧ _ ∧ _ ∧ _ ∧ _ ∧ _ ∧ _ ∧ _ ∧ _ := ⟨cell_up c0 hb6, cell_up x0 hb6, cell_up x1 hb6, cell_up x2 hb6, cell_up x3 hb6, cell_up x4 hb6, cell_up x5 hb6, cell_up y0 hb6, cell_up y1 hb6, cell_up y2 hb6, cell_up y3 hb6, cell_up y4 hb6, cell_up y5 hb6⟩; have H6 : Hid _ := hb6; clear hb6 hb6'))
          all_goals
            (try go_simp)
            go_wp2_with fail
            go_ret
            exact ⟨.inl ⟨k, rfl, by rw [← HST.out]; exact HK.out.2⟩, HS.out.2.1.trans ((HR.out.2.trans (H6.out.mono HR.out.2.size)).mono HS.out.2.1.size)⟩
        · have he : Tm.same s t = false := by exact same_ne hst
          rw [he] at HC
          have HST : Hid _ := hst
          clear he hst
          go_wp2_with fail
          go_region_held3 (fun w' => w'.cell? ⟨b, 0, none⟩ = some (.slice (some ⟨g, 0, none⟩) L.length cg) ∧ w'.cell? (aa.add j) = some (.int .i64 k) ∧ (w'.cell? ⟨g, k * 6, none⟩ = some (.int .i64 s.kind) ∧ w'.cell? ⟨g, k * 6 + 1, none⟩ = some (.int .i64 s.label) ∧ w'.cell? ⟨g, k * 6 + 2, none⟩ = some (.int .i64 s.a) ∧ w'.cell? ⟨g, k * 6 + 3, none⟩ = some (.int .i64 s.b) ∧ w'.cell? ⟨g, k * 6 + 4, none⟩ = some (.slice an' s.names.length cn') ∧ w'.cell? ⟨g, k * 6 + 5, none⟩ = some (.slice ap' s.pairs.length cp')) ∧ w'.cell? ⟨w.heap.size, 0, none⟩ = some (.int .i64 t.kind) ∧ w'.cell? ⟨w.heap.size, 1, none⟩ = some (.int .i64 t.label) ∧ w'.cell? ⟨w.heap.size, 2, none⟩ = some (.int .i64 t.a) ∧ w'.cell? ⟨w.heap.size, 3, none⟩ = some (.int .i64 t.b) ∧ w'.cell? ⟨w.heap.size, 4, none⟩ = some (.slice an t.names.length cn) ∧ w'.cell? ⟨w.heap.size, 5, none⟩ = some (.slice ap t.pairs.length cp)) (go_keep)
            ((go_at_call 114; refine (HC.out _ (by repeat (first | exact Below.refl _ _ | assumption | refine Below.drew ?_ | refine Below.setCell ?_ (by simp) _ | refine Below.alloc ?_ (by simp) _))).mono ?_; rintro r6 w6 ⟨rfl, hb6'⟩; have hb6 := below_of_drew3 hb6'; have d6 := (hb6.cell (World.block_lt_of_cell? wr _ d0)).trans d0; clear HC; obtain ⟨c0, x0, x1, x2, x3, x4, x5, y0, y1, y2, y3, y4, y5⟩ : _ ∧ _ ∧ _ ∧ _ ∧ _ ∧ _ ∧ _ ∧ _ ∧ _ ∧ _ ∧ _ ∧ _ ∧ _ := ⟨cell_up c0 hb6, cell_up x0 hb6, cell_up x1 hb6, cell_up x2 hb6, cell_up x3 hb6, cell_up x4 hb6, cell_up x5 hb6, cell_up y0 hb6, cell_up y1 hb6, cell_up y2 hb6, cell_up y3 hb6, cell_up y4 hb6, cell_up y5 hb6⟩; have H6 : Hid _ := hb6; clear hb6 hb6'))
          all_goals
            (try go_simp)
            go_wp2_with fail
            go_roundg (n - (j + 1))
            case measure => omega
            case rel => exact ⟨j + 1, rfl, by omega, by go_num, fun z hz i hi => by
              rcases mem_take_succ HK.out.1 hz with h | h
              · exact HR.out.1 z h i hi
              · have : i = k := by omega
                subst this
                rw [HK.out.2]; intro e; exact HST.out (Option.some.inj e), HR.out.2.trans (H6.out.mono HR.out.2.size)⟩
      · obtain rfl : j = n := by omega
        have r1 : ¬ (j : Int) < (j : Int) := by omega
        go_wp2_with fail
        go_ret
        refine ⟨.inr ⟨rfl, idx_no ?_⟩, HS.out.2.1.trans (HR.out.2.mono HS.out.2.1.size)⟩
        have h := HR.out.1
        rw [HL.out.2.1, List.take_length, HL.out.1] at h
        exact h
end Go.Proofs.YthnenpncajpibaaGreatDoor
/- What the steps of the document's Put leave. -/
namespace Go.Proofs.YthnenpncajpibaaGreatDoor
open Go.RowKit Go.Maps
theorem hasI_copy {w : World} {ao : Option Addr} {n cap : Nat} {zs : List Int} (h : HasI w (.slice ao n cap) zs) : (ao = none → n = 0) ∧ ∀ ad, ao = some ad → ∀ j u, (iC zs)[j]? = some u → w.cell? (ad.add j) = some u :=
  ⟨fun e => by subst e; exact h.none.2, fun ad e => by subst e; exact h.news.2⟩
theorem hasP_copy {w : World} {ao : Option Addr} {n cap : Nat} {ps : List (Int × Int)} (h : HasP w (.slice ao n cap) ps) : (ao = none → n = 0) ∧ ∀ ad, ao = some ad → ∀ j u, (pC ps)[j]? = some u → w.cell? (ad.add j) = some u :=
  ⟨fun e => by subst e; exact h.none.2, fun ad e => by subst e; exact h.news.2⟩
theorem cell0_of {w : World} {b : Nat} {cs : Array Value} {ty : TypeId} {v : Value} {k : Nat} (h : w.heap[b]? = some (.cells cs ty (0, 0))) (h0 : cs[k]? = some v) : w.cell? ⟨b, k, none⟩ = some v := by simp [World.cell?, h, h0]
/-- The term in its box, its lists copied. -/
structure RBox (w w4 : World) (B : Nat) (t : Tm) (v1 v2 : Value) : Prop where
  box : w4.heap[B]? = some (.cells #[.int .i64 t.kind, .int .i64 t.label, .int .i64 t.a, .int .i64 t.b, v1, v2] 35 (0, 0))
  n : OwnI w4 w.heap.size v1 t.names
  p : OwnP w4 w.heap.size v2 t.pairs
  bl : Below w.heap.size w w4
theorem rbox_fin {w w2 w3 w5 : World} {B : Nat} {t : Tm} {vn vp v1 v2 : Value} (hB : w2.heap[B]? = some (.cells #[.int .i64 t.kind, .int .i64 t.label, .int .i64 t.a, .int .i64 t.b, vn, vp] 35 (0, 0))) (h2 : Below w.heap.size w w2) (hw : w.heap.size ≤ B)
    (g1 : Below w2.heap.size w2 w3) (o1 : OwnI w3 w2.heap.size v1 t.names) (g2 : Below (w3.setCell ⟨B, 4, none⟩ v1).heap.size (w3.setCell ⟨B, 4, none⟩ v1) w5) (o2 : OwnP w5 w2.heap.size v2 t.pairs) : RBox w (w5.setCell ⟨B, 5, none⟩ v2) B t v1 v2 := by
  have e1 : (w3.setCell ⟨B, 4, none⟩ v1).heap.size = w3.heap.size := by simp [World.setCell]
  have hlt := t_lt hB
  have hB3 : w3.heap[B]? = some (.cells #[.int .i64 t.kind, .int .i64 t.label, .int .i64 t.a, .int .i64 t.b, vn, vp] 35 (0, 0)) := (g1.block _ hlt).trans hB
  have hB5 : w5.heap[B]? = some (.cells #[.int .i64 t.kind, .int .i64 t.label, .int .i64 t.a, .int .i64 t.b, v1, vp] 35 (0, 0)) := by
    rw [g2.block _ (by have := g1.size; omega), heap_setCell_same _ _ 4 _ _ _ hB3]; rfl
  have s1 := g1.size
  refine ⟨by rw [heap_setCell_same _ _ 5 _ _ _ hB5]; rfl, row_base (trow_at o1 fun i hi => ?_) h2.size, row_base (trow_at o2 fun i hi => ?_) h2.size, ?_⟩
  · obtain ⟨g, g'⟩ := o1.lt i hi
    rw [set_other _ _ _ _ _ (by omega), g2.block i (by omega), set_other _ _ _ _ _ (by omega)]
  · obtain ⟨g, g'⟩ := o2.lt i hi
    rw [set_other _ _ _ _ _ (by omega)]
  · exact (((h2.trans (g1.mono h2.size)).setCell hw _).trans (g2.mono (by have := h2.size; omega))).setCell hw _
theorem set_size (w : World) (a : Addr) (v : Value) : (w.setCell a v).heap.size = w.heap.size := by simp [World.setCell]
theorem rbox_five {w2 w3 w5 : World} {B : Nat} {t : Tm} {vn vp v1 : Value} (hB : w2.heap[B]? = some (.cells #[.int .i64 t.kind, .int .i64 t.label, .int .i64 t.a, .int .i64 t.b, vn, vp] 35 (0, 0)))
    (g1 : Below w2.heap.size w2 w3) (g2 : Below (w3.setCell ⟨B, 4, none⟩ v1).heap.size (w3.setCell ⟨B, 4, none⟩ v1) w5) : w5.heap[B]? = some (.cells #[.int .i64 t.kind, .int .i64 t.label, .int .i64 t.a, .int .i64 t.b, v1, vp] 35 (0, 0)) := by
  have hlt := t_lt hB
  have hB3 : w3.heap[B]? = some (.cells #[.int .i64 t.kind, .int .i64 t.label, .int .i64 t.a, .int .i64 t.b, vn, vp] 35 (0, 0)) := (g1.block _ hlt).trans hB
  rw [g2.block _ (by rw [set_size]; have := g1.size; omega), heap_setCell_same _ _ 4 _ _ _ hB3]; rfl
theorem RBox.below {w w4 w5 : World} {B : Nat} {t : Tm} {v1 v2 : Value} (h : RBox w w4 B t v1 v2) (hb : Below w4.heap.size w4 w5) : RBox w w5 B t v1 v2 :=
  ⟨(hb.block _ (t_lt h.box)).trans h.box, trow_at h.n fun i hi => hb.block i (h.n.lt i hi).2, trow_at h.p fun i hi => hb.block i (h.p.lt i hi).2, h.bl.trans (hb.mono h.bl.size)⟩
/-- Behind the append: the row is longer. -/
structure RAp (w4 w5 : World) (vt : Value) (L : List Tm) (vs : List (Value × Value)) (t : Tm) (v1 v2 vt' : Value) : Prop where
  row : w5.ownsRow 0 35 6 vt' (L.length + 1) (rowC L vs ++ tmC t v1 v2)
  gr : (w4.alloc (.cells #[.int .i64 t.kind, .int .i64 t.label, .int .i64 t.a, .int .i64 t.b, v1, v2] 35)).grownBy w5 vt.ownBlock
  at_ : vt'.ownBlock = vt.ownBlock ∨ vt'.ownBlock = some (w4.heap.size + 1)
theorem RAp.other {w4 w5 : World} {vt : Value} {L : List Tm} {vs : List (Value × Value)} {t : Tm} {v1 v2 vt' : Value} (h : RAp w4 w5 vt L vs t v1 v2 vt') {i : Nat} (hi : i < w4.heap.size) (hn : vt.ownBlock ≠ some i) : w5.heap[i]? = w4.heap[i]? := by
  rw [h.gr.block i (by simp; omega) (fun e => hn e.symm), Below.heap_alloc _ _ _ hi]
theorem RSto.apart {w : World} {b : Nat} {cs : Array Value} {vt : Value} {rs : Nat → Value} {L M : List Tm} {vs : List (Value × Value)} (h : RSto w b cs vt rs L M vs) : vt.ownBlock ≠ some b := fun e => by
  obtain ⟨c, hc⟩ := row_cells h.row e
  exact cells_ne hc h.cell (by decide) rfl
theorem RAp.cell {w4 w5 : World} {b : Nat} {cs : Array Value} {vt : Value} {rs : Nat → Value} {L M : List Tm} {vs : List (Value × Value)} {t : Tm} {v1 v2 vt' : Value} (h4 : RSto w4 b cs vt rs L M vs) (h : RAp w4 w5 vt L vs t v1 v2 vt') : w5.heap[b]? = some (.cells cs 32 (0, 0)) := by
  rw [h.other (t_lt h4.cell) h4.apart]; exact h4.cell
theorem RAp.foot {w w4 w5 : World} {b : Nat} {cs : Array Value} {vt : Value} {rs : Nat → Value} {L : List Tm} {vs : List (Value × Value)} {t : Tm} {v1 v2 vt' : Value} {B : Nat} (h : RAp w4 w5 vt L vs t v1 v2 vt') (h0 : RSto w b cs vt rs L L vs) (hx : RBox w w4 B t v1 v2) (hB : w.heap.size ≤ B) : (w5.setCell ⟨b, 0, none⟩ vt').heap[B]? = w4.heap[B]? := by
  have hb := t_lt h0.cell
  rw [set_other _ _ _ _ _ (by omega), h.other (t_lt hx.box) fun e => by have := (h0.row.lt _ e).2; omega]
/-- The store with its longer row; the rows of sums as they were. -/
theorem rsto_mid {w w4 w5 : World} {b : Nat} {cs : Array Value} {vt : Value} {rs : Nat → Value} {L : List Tm} {vs : List (Value × Value)} {t : Tm} {v1 v2 vt' : Value} {B : Nat} (h0 : RSto w b cs vt rs L L vs) (hx : RBox w w4 B t v1 v2) (h : RAp w4 w5 vt L vs t v1 v2 vt') (hbd : t.Bd) (hlen : L.length < 100000) : RSto (w5.setCell ⟨b, 0, none⟩ vt') b (cs.setIfInBounds 0 vt') vt' rs (L ++ [t]) L (vs ++ [(v1, v2)]) := by
  have h4 := h0.below (hx.bl.mono (Nat.le_refl _))
  have hc := h.cell h4
  have hR : w5.ownsRow 0 35 6 vt' (L ++ [t]).length (rowC (L ++ [t]) (vs ++ [(v1, v2)])) := by
    rw [rowC_snoc L vs h4.len, List.length_append]
    exact h.row
  have lst : ∀ {i : Nat} {c : Array Value} {s : TypeId}, w4.heap[i]? = some (.cells c s (0, 0)) → s ≠ 35 → s ≠ 32 → (w5.setCell ⟨b, 0, none⟩ vt').heap[i]? = w4.heap[i]? := fun hi n1 n2 => by
    rw [set_other _ _ _ _ _ (cells_ne hi h4.cell n2), h.other (t_lt hi) fun e => ?_]
    obtain ⟨c', hc'⟩ := row_cells h4.row e
    exact cells_ne hi hc' n1 rfl
  have lstI : ∀ {B : Nat} {v : Value} {zs : List Int}, OwnI w4 B v zs → OwnI (w5.setCell ⟨b, 0, none⟩ vt') 0 v zs := fun ho => row_base (trow_at ho fun k hk => by
    obtain ⟨c, hc⟩ := row_cells ho hk
    exact lst hc (by decide) (by decide)) (Nat.zero_le _)
  have lstP : ∀ {B : Nat} {v : Value} {ps : List (Int × Int)}, OwnP w4 B v ps → OwnP (w5.setCell ⟨b, 0, none⟩ vt') 0 v ps := fun ho => row_base (trow_at ho fun k hk => by
    obtain ⟨c, hc⟩ := row_cells ho hk
    exact lst hc (by decide) (by decide)) (Nat.zero_le _)
  have hsz : 0 < cs.size := (Array.getElem?_eq_some_iff.1 h4.c0).1
  refine ⟨heap_setCell_same _ b 0 _ _ _ hc, by rw [Array.getElem?_setIfInBounds_self_of_lt hsz], fun k hk => by rw [Array.getElem?_setIfInBounds_ne (by omega)]; exact h4.ch k hk, trow_at hR fun i hi => ?_, fun k hk => lstI (h4.rows k hk), by simp [h4.len], fun i s v hs hv => ?_, fun s hs => ?_, by simp; omega, h4.ap, fun v hv k hk i hi => ?_⟩
  · obtain ⟨c', hc'⟩ := row_cells hR hi
    exact set_other _ _ _ _ _ (cells_ne hc' hc (by decide))
  · rcases Nat.lt_or_ge i L.length with hi | hi
    · rw [List.getElem?_append_left hi] at hs
      rw [List.getElem?_append_left (by rw [h4.len]; exact hi)] at hv
      obtain ⟨l1, l2⟩ := h4.lists i s v hs hv
      exact ⟨lstI l1, lstP l2⟩
    · rw [List.getElem?_append_right hi] at hs
      rw [List.getElem?_append_right (by rw [h4.len]; exact hi), h4.len] at hv
      have hi0 : i - L.length = 0 := by
        have := (List.getElem?_eq_some_iff.1 hs).1
        simp at this; omega
      rw [hi0] at hs hv
      simp at hs hv
      subst hs; subst hv
      exact ⟨lstI hx.n, lstP hx.p⟩
  · rcases List.mem_append.1 hs with hs | hs
    · exact h4.bd s hs
    · rw [List.mem_singleton.1 hs]; exact hbd
  · rcases List.mem_append.1 hv with hv | hv
    · exact h4.al v hv k hk i hi
    · rw [List.mem_singleton.1 hv]
      intro e
      have := (hx.n.lt i e).1
      have := ((h0.rows k hk).lt i hi).2
      omega
theorem rsto_kept {w w4 w5 : World} {b : Nat} {vt : Value} {rs : Nat → Value} {L : List Tm} {vs : List (Value × Value)} {t : Tm} {v1 v2 vt' : Value} {B : Nat} (hx : RBox w w4 B t v1 v2) (h : RAp w4 w5 vt L vs t v1 v2 vt') : Kept (RFoot b vt rs vs) w (w5.setCell ⟨b, 0, none⟩ vt') := by
  have k1 : Kept (RFoot b vt rs vs) w w4 := .of_below hx.bl
  have k2 : Kept (RFoot b vt rs vs) w4 (w4.alloc (.cells #[.int .i64 t.kind, .int .i64 t.label, .int .i64 t.a, .int .i64 t.b, v1, v2] 35)) := .of_below ((Below.refl _ _).alloc (Nat.le_refl _) _)
  have k3 : Kept (RFoot b vt rs vs) _ w5 := (Kept.of_grown h.gr).mono fun k _ e => .inr (.inl e)
  have k4 : Kept (RFoot b vt rs vs) w5 (w5.setCell ⟨b, 0, none⟩ vt') := (Kept.setCell w5 b 0 vt').mono fun k _ e => .inl e
  exact ((k1.trans k2).trans k3).trans k4
/-- Another value at one place. -/
def upd (f : Nat → Value) (k : Nat) (v : Value) : Nat → Value := fun h => if h = k then v else f h
theorem upd_same (f : Nat → Value) (k : Nat) (v : Value) : upd f k v k = v := if_pos rfl
theorem upd_other (f : Nat → Value) {k h : Nat} (v : Value) (hne : h ≠ k) : upd f k v h = f h := if_neg hne
theorem upd_self (f : Nat → Value) (k : Nat) : upd f k (f k) = f := by
  funext h
  unfold upd
  split
  · rename_i e; rw [e]
  · rfl
theorem Kept.trans2 {F G : Nat → Prop} {a b c : World} (h : Kept F a b) (k : Kept G b c) (hG : ∀ i, G i → F i ∨ a.heap.size ≤ i) : Kept F a c :=
  ⟨k.os.trans h.os, k.tape.trans h.tape, k.output.trans h.output, Nat.le_trans h.size k.size, fun i hi hf => (k.block i (Nat.lt_of_lt_of_le hi h.size) fun hg => (hG i hg).elim hf fun h => by omega).trans (h.block i hi hf)⟩
theorem iC_snoc (zs : List Int) (z : Int) : iC (zs ++ [z]) = iC zs ++ [.int .i64 z] := by simp [iC]
/-- Behind the append to the row of the sum. -/
theorem rsto_fin {w6 w7 w8 : World} {b : Nat} {cs : Array Value} {vt' v' : Value} {rs : Nat → Value} {L : List Tm} {vs : List (Value × Value)} {t : Tm} (h6 : RSto w6 b cs vt' rs (L ++ [t]) L vs) (hb : Below w6.heap.size w6 w7)
    (ho : w8.ownsRow 0 3 1 v' ((Tm.idx L t.hash).length + 1) (iC (Tm.idx L t.hash) ++ [.int .i64 L.length])) (hg : w7.grownBy w8 (rs t.hash).ownBlock) (hat : v'.ownBlock = (rs t.hash).ownBlock ∨ v'.ownBlock = some w7.heap.size) :
    RSto (w8.setCell ⟨b, t.hash + 1, none⟩ v') b (cs.setIfInBounds (t.hash + 1) v') vt' (upd rs t.hash v') (L ++ [t]) (L ++ [t]) vs ∧ Kept (RFoot b vt' rs vs) w6 (w8.setCell ⟨b, t.hash + 1, none⟩ v') := by
  have hh := Tm.hash_lt t
  have h7 := h6.below hb
  have hrb : (rs t.hash).ownBlock ≠ some b := fun e => by
    obtain ⟨c, hc⟩ := row_cells (h7.rows _ hh) e
    exact cells_ne hc h7.cell (by decide) rfl
  have oth : ∀ {i : Nat}, i < w7.heap.size → (rs t.hash).ownBlock ≠ some i → w8.heap[i]? = w7.heap[i]? := fun hi hn => by
    exact hg.block _ hi (fun e => hn e.symm)
  have hc8 : w8.heap[b]? = some (.cells cs 32 (0, 0)) := by rw [oth (t_lt h7.cell) hrb]; exact h7.cell
  have oth2 : ∀ {i : Nat}, i < w7.heap.size → (rs t.hash).ownBlock ≠ some i → i ≠ b → (w8.setCell ⟨b, t.hash + 1, none⟩ v').heap[i]? = w7.heap[i]? := fun hi hn hne => by
    rw [set_other _ _ _ _ _ hne, oth hi hn]
  have nb : ∀ {B : Nat} {e : TypeId} {sz n : Nat} {v : Value} {xs : List Value}, w7.ownsRow B e sz v n xs → e ≠ 32 → ∀ i, v.ownBlock = some i → i ≠ b := fun hr hne i hi => by
    obtain ⟨c, hc⟩ := row_cells hr hi
    exact cells_ne hc h7.cell hne
  have hsz : t.hash + 1 < cs.size := (Array.getElem?_eq_some_iff.1 (h7.ch _ hh)).1
  have kb : Kept (RFoot b vt' rs vs) w6 (w8.setCell ⟨b, t.hash + 1, none⟩ v') := by
    have k1 : Kept (RFoot b vt' rs vs) w6 w7 := .of_below hb
    have k3 : Kept (RFoot b vt' rs vs) _ w8 := (Kept.of_grown hg).mono fun k _ e => .inr (.inr (.inl ⟨t.hash, hh, e⟩))
    have k4 : Kept (RFoot b vt' rs vs) w8 (w8.setCell ⟨b, t.hash + 1, none⟩ v') := (Kept.setCell w8 b (t.hash + 1) v').mono fun k _ e => .inl e
    exact (k1.trans k3).trans k4
  refine ⟨⟨heap_setCell_same _ b _ _ _ _ hc8, by rw [Array.getElem?_setIfInBounds_ne (by omega)]; exact h7.c0, fun k hk => ?_, trow_at h7.row fun i hi => oth2 (h7.row.lt i hi).2 (fun e => ?_) (nb h7.row (by decide) i hi), fun k hk => ?_, h7.len, fun i s v hs hv => ?_, h7.bd, h7.big, fun k k' hk hk' hne i hi => ?_, fun v hv k hk i hi => ?_⟩, kb⟩
  · by_cases e : k = t.hash
    · subst e; rw [Array.getElem?_setIfInBounds_self_of_lt hsz, upd_same]
    · rw [Array.getElem?_setIfInBounds_ne (by omega), upd_other _ _ e]; exact h7.ch k hk
  · obtain ⟨c, hc⟩ := row_cells h7.row hi
    obtain ⟨c', hc'⟩ := row_cells (h7.rows _ hh) e
    exact cells_ne hc hc' (by decide) rfl
  · by_cases e : k = t.hash
    · subst e
      rw [upd_same, Tm.idx_snoc, if_pos rfl]
      unfold OwnI
      rw [List.length_append, List.length_singleton, iC_snoc]
      refine trow_at ho fun i hi => set_other _ _ _ _ _ ?_
      obtain ⟨c, hc⟩ := row_cells ho hi
      exact cells_ne hc hc8 (by decide)
    · rw [upd_other _ _ e, Tm.idx_snoc, if_neg (fun h => e h.symm)]
      have hr := h7.rows k hk
      exact trow_at hr fun i hi => oth2 (hr.lt i hi).2 (fun h => h7.ap t.hash k hh hk (fun h => e h.symm) i h hi) (nb hr (by decide) i hi)
  · obtain ⟨l1, l2⟩ := h7.lists i s v hs hv
    refine ⟨trow_at l1 fun j hj => oth2 (l1.lt j hj).2 (fun h => h7.al v (List.mem_of_getElem? hv) _ hh j h hj) (nb l1 (by decide) j hj), trow_at l2 fun j hj => oth2 (l2.lt j hj).2 (fun h => ?_) (nb l2 (by decide) j hj)⟩
    obtain ⟨c, hc⟩ := row_cells l2 hj
    obtain ⟨c', hc'⟩ := row_cells (h7.rows _ hh) h
    exact cells_ne hc hc' (by decide) rfl
  · have nw : ∀ k, k < 512 → (rs k).ownBlock ≠ some w7.heap.size := fun k hk e => by have := ((h7.rows k hk).lt _ e).2; omega
    by_cases e : k = t.hash
    · subst e
      rw [upd_same] at hi
      rw [upd_other _ _ (fun h => hne h.symm)]
      rcases hat with h | h
      · exact h7.ap _ k' hh hk' hne i (h ▸ hi)
      · rw [h] at hi
        have := Option.some.inj hi
        subst this
        exact nw k' hk'
    · rw [upd_other _ _ e] at hi
      by_cases e' : k' = t.hash
      · subst e'
        rw [upd_same]
        rcases hat with h | h
        · rw [h]; exact h7.ap k _ hk hh hne i hi
        · rw [h]
          intro h'
          have := Option.some.inj h'
          subst this
          exact nw k hk hi
      · rw [upd_other _ _ e']; exact h7.ap k k' hk hk' hne i hi
  · by_cases e : k = t.hash
    · subst e
      rw [upd_same] at hi
      rcases hat with h | h
      · exact h7.al v hv _ hh i (h ▸ hi)
      · rw [h] at hi
        have := Option.some.inj hi
        subst this
        intro hv1
        obtain ⟨s, _, l1, _⟩ := h7.list_at hv
        have := (l1.lt _ hv1).2
        omega
    · rw [upd_other _ _ e] at hi
      exact h7.al v hv k hk i hi
theorem one_one (z : Int) : ∀ x ∈ [Value.int .i64 z], x.oneCell' = true := fun x hx => by rw [List.mem_singleton.1 hx]; rfl
/-- Behind the append of a number. -/
structure RInt (w9 w10 : World) (b : Nat) (cs : Array Value) (vr : Value) (L : List Tm) (t : Tm) (v' : Value) : Prop where
  b : w10.heap[b]? = some (.cells cs 32 (0, 0))
  o : w10.ownsRow 0 3 1 v' ((Tm.idx L t.hash).length + 1) (iC (Tm.idx L t.hash) ++ [.int .i64 L.length])
  g : w9.grownBy w10 vr.ownBlock
  a : v'.ownBlock = vr.ownBlock ∨ v'.ownBlock = some w9.heap.size
theorem rap_int {w6 w9 w10 : World} {b : Nat} {cs : Array Value} {vt' : Value} {rs : Nat → Value} {L M : List Tm} {vs : List (Value × Value)} {t : Tm} {ar : Option Addr} {nr cr g2 c2 : Nat} (hb : Below w6.heap.size w6 w9) (h6 : RSto w6 b cs vt' rs M L vs) (hrs : rs t.hash = .slice ar nr cr) (hh : t.hash < 512)
    (ho : w10.ownsRow 0 3 1 (.slice (some ⟨g2, 0, none⟩) (nr + 1) c2) (nr + 1) (iC (Tm.idx L t.hash) ++ [.int .i64 L.length])) (hg : w9.grownBy w10 (Value.slice ar nr cr).ownBlock) (hat : (Value.slice ar nr cr).ownBlock = some g2 ∨ g2 = w9.heap.size) : RInt w9 w10 b cs (.slice ar nr cr) L t (.slice (some ⟨g2, 0, none⟩) (nr + 1) c2) := by
  have h9 := h6.below hb
  have hr := h9.rows _ hh
  have hnr : nr = (Tm.idx L t.hash).length := by
    obtain ⟨ao, cap, e⟩ := row_shape hr
    rw [hrs] at e
    injection e
  refine ⟨?_, by rw [← hnr]; exact ho, hg, hat.imp (fun h => h.symm) (fun h => by simp [Value.ownBlock, h])⟩
  rw [hg.block b (t_lt h9.cell) fun e => ?_]
  · exact h9.cell
  · rw [← hrs] at e
    obtain ⟨c, hc⟩ := row_cells hr e.symm
    exact cells_ne hc h9.cell (by decide) rfl
theorem rint_box {w6 w9 w10 : World} {b B : Nat} {cs cs' : Array Value} {vt' vr v' : Value} {rs : Nat → Value} {L M : List Tm} {vs : List (Value × Value)} {t : Tm} {c : Array Value} (hb : Below w6.heap.size w6 w9) (h6 : RSto w6 b cs vt' rs M L vs) (hrs : rs t.hash = vr) (hh : t.hash < 512) (h : RInt w9 w10 b cs' vr L t v') (hB : w6.heap[B]? = some (.cells c 35 (0, 0))) : w10.heap[B]? = some (.cells c 35 (0, 0)) := by
  have hB9 := (hb.block _ (t_lt hB)).trans hB
  rw [h.g.block B (t_lt hB9) fun e => ?_]
  · exact hB9
  · rw [← hrs] at e
    obtain ⟨c', hc'⟩ := row_cells ((h6.below hb).rows _ hh) e.symm
    exact cells_ne hB9 hc' (by decide) rfl
theorem set_zero {w : World} {b : Nat} {cs : Array Value} {ty : TypeId} {u : Value} (k : Nat) (v : Value) (h : w.heap[b]? = some (.cells cs ty (0, 0))) (h0 : cs[0]? = some u) : (w.setCell ⟨b, 1 + k, none⟩ v).cell? ⟨b, 0, none⟩ = some u :=
  cell0_of (heap_setCell_same _ b _ _ _ _ h) (by rw [Array.getElem?_setIfInBounds_ne (by omega)]; exact h0)
theorem news_one {w : World} {N : Nat} {x : Value} (h : w.cell? ⟨N, 0, none⟩ = some x) : ∀ j u, [x][j]? = some u → w.cell? ((⟨N, 0, none⟩ : Addr).add j) = some u := by
  intro j u hj
  match j, hj with
  | 0, hj =>
    simp at hj
    subst hj
    simpa [Addr.add] using h
theorem cells_kept {w w' : World} (h : Below w.heap.size w w') : ∀ p v, w.cell? p = some v → w'.cell? p = some v := fun _ _ hv => (h.cell (World.block_lt_of_cell? w _ hv)).trans hv
theorem foot_fin {w w4 w5 w7 : World} {b : Nat} {vt vt' v' : Value} {rs : Nat → Value} {L : List Tm} {vs : List (Value × Value)} {t : Tm} {v1 v2 : Value} {B : Nat} (hx : RBox w w4 B t v1 v2) (h : RAp w4 w5 vt L vs t v1 v2 vt') (h7 : w.heap.size ≤ w7.heap.size) (hat : v'.ownBlock = (rs t.hash).ownBlock ∨ v'.ownBlock = some w7.heap.size) :
    ∀ i, RFoot b vt' (upd rs t.hash v') (vs ++ [(v1, v2)]) i → RFoot b vt rs vs i ∨ w.heap.size ≤ i := by
  intro i hi
  rcases hi with hi | hi | ⟨k, hk, hi⟩ | ⟨v, hv, hi⟩
  · exact .inl (.inl hi)
  · rcases h.at_ with e | e
    · exact .inl (.inr (.inl (e ▸ hi)))
    · rw [e] at hi
      have := hx.bl.size
      exact .inr (by have := Option.some.inj hi; omega)
  · by_cases e : k = t.hash
    · subst e
      rw [upd_same] at hi
      rcases hat with h | h
      · exact .inl (.inr (.inr (.inl ⟨_, hk, h ▸ hi⟩)))
      · rw [h] at hi
        exact .inr (by have := Option.some.inj hi; omega)
    · rw [upd_other _ _ e] at hi
      exact .inl (.inr (.inr (.inl ⟨k, hk, hi⟩)))
  · rcases List.mem_append.1 hv with hv | hv
    · exact .inl (.inr (.inr (.inr ⟨v, hv, hi⟩)))
    · rw [List.mem_singleton.1 hv] at hi
      rcases hi with hi | hi
      · exact .inr (hx.n.lt i hi).1
      · exact .inr (hx.p.lt i hi).1
end Go.Proofs.YthnenpncajpibaaGreatDoor
