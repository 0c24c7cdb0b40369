/- Texts of this claim, joined: Lent, TmParts, TmWalk0, TmWalk1, Shelf, TmWithin. -/
import Derived.Test.YthnenpncajpibaaGreatDoorRtPut
import Derived.Test.YthnenpncajpibaaGreatDoorPart3
import Derived.Shelf.Sort.Plain
import Derived.Test.YthnenpncajpibaaGreatDoorProg
import Derived.Sort.OwnSortedInts
/- Contracts of the book's LentInts and StaysInts; the document's New. -/
namespace Go.Proofs.YthnenpncajpibaaGreatDoor
open Go.RowKit Go.Maps
attribute [local go_sem ↓] Go.wp_at_zero Go.wp_at_succ
/-- Numbers with two marks behind them. -/
def Lent (w : World) (B g cap : Nat) (zs : List Int) : Prop := w.ownsRow B 3 1 (.slice (some ⟨g, 0, none⟩) (zs.length + 2) cap) (zs.length + 2) (iC zs ++ [.int .i64 (-77), .int .i64 (-78)])
theorem Lent.at {w w' : World} {B g cap : Nat} {zs : List Int} (h : Lent w B g cap zs) (hb : w'.heap[g]? = w.heap[g]?) : Lent w' B g cap zs := trow_at h fun i hi => by
  simp only [Value.ownBlock, Option.some.injEq] at hi
  subst hi; exact hb
theorem Lent.lt {w : World} {B g cap : Nat} {zs : List Int} (h : Lent w B g cap zs) : B ≤ g ∧ g < w.heap.size := World.ownsRow.lt h g rfl
theorem Lent.cap {w : World} {B g cap : Nat} {zs : List Int} (h : Lent w B g cap zs) : zs.length + 2 ≤ cap ∧ cap ≤ maxLen := by
  rcases h.2 with ⟨h1, _⟩ | ⟨g', cap', cur, h1, _, _, h2, h3, _⟩
  · cases h1
  · injection h1 with e1 e2 e3
    subst e3; exact ⟨h2, h3⟩
theorem Lent.blk {w : World} {B g cap : Nat} {zs : List Int} (h : Lent w B g cap zs) : ∃ c, w.heap[g]? = some (.cells c 3 (0, 0)) := row_cells h rfl
theorem Lent.has {w : World} {B g cap : Nat} {zs : List Int} (h : Lent w B g cap zs) : HasI w (.slice (some ⟨g, 0, none⟩) zs.length cap) zs := by
  refine ⟨_, cap, rfl, fun i z hi => ⟨_, rfl, ?_⟩⟩
  have hlt := (List.getElem?_eq_some_iff.1 hi).1
  rw [addz, World.ownsRow.cellAt h i (by omega), List.getElem?_append_left (by simp [iC]; omega)]
  simp [iC, hi]
theorem Lent.marks {w : World} {B g cap : Nat} {zs : List Int} (h : Lent w B g cap zs) : w.cell? ⟨g, zs.length, none⟩ = some (.int .i64 (-77)) ∧ w.cell? ⟨g, zs.length + 1, none⟩ = some (.int .i64 (-78)) := by
  constructor
  · rw [World.ownsRow.cellAt h _ (by omega), List.getElem?_append_right (by simp [iC])]; simp [iC]
  · rw [World.ownsRow.cellAt h _ (by omega), List.getElem?_append_right (by simp [iC])]; simp [iC]
theorem lines_belowI {w w2 w4 : World} {x : Obj} {v : Value} {n : Nat} {us : List Value} (h1 : w2.ownsRow w.heap.size 3 1 v n us) (hb : Below w.heap.size w w2) (hg : (w2.alloc x).grownBy w4 v.ownBlock) : Below w.heap.size w w4 :=
  (hb.alloc hb.size x).grown hg (by have := hb.size; simp; omega) (fun k hk => (h1.lt k hk).1)
theorem two_one (a b : Int) : ∀ x ∈ [Value.int .i64 a, .int .i64 b], x.oneCell' = true := fun x hx => by
  simp only [List.mem_cons, List.not_mem_nil, or_false] at hx
  rcases hx with rfl | rfl <;> rfl
set_option maxRecDepth 100000 in
set_option maxHeartbeats 1000000 in
theorem lent_any (v : Value) (zs : List Int) (w : World) (hH : HasI w v zs) (hn : zs.length * 8 ≤ 140737488351232) :
    Calls Tryz.prog 24 #[v] w fun r w' => ∃ g cap, r = .returned (.slice (some ⟨g, 0, none⟩) zs.length cap) ∧ Lent w' w.heap.size g cap zs ∧ Below w.heap.size w w' := by
  obtain ⟨i0, hi0, hz0, hz1, hz2⟩ := info_parts Tryz.infoI3
  obtain ⟨ao, c, rfl, _⟩ := id hH
  have HC : Hid _ := hasI_copy hH
  have ln : zs.length ≤ maxLen := by unfold maxLen; omega
  have ln8 : zs.length * 8 ≤ 140737488355328 := by omega
  have ln2 : zs.length + 2 ≤ maxLen := by unfold maxLen; omega
  have ln82 : (zs.length + 2) * 8 ≤ 140737488355328 := by omega
  clear hH
  go_enter Tryz.func24, Tryz.ntmps24
  go_wp2_with (first | (at_builtin; refine wpList_copy_at _ rfl _ _ 29 rfl w.heap.size 3 i0 (.int .i64 0) 1 8 Tryz.underlying29 hi0 hz0 hz1 hz2 rfl (by decide) rfl ao zs.length c (iC zs) rfl HC.out.1 (iC_length _) HC.out.2 (iC_one _) ln ln8 (Nat.le_refl _) ?_; intro v1 w1 hown1 hgrow1 hat1; have H1 : Hid _ := And.intro hown1 (tgrown0 hgrow1); clear hown1 hgrow1 hat1 HC) | (at_builtin; refine wpList_append_own_at _ rfl _ _ 29 rfl w.heap.size 3 i0 (.int .i64 0) 1 8 Tryz.underlying29 hi0 hz0 hz1 hz2 rfl (by decide) v1 zs.length (iC zs) rfl (H1.out.1.alloc _) ⟨w1.heap.size, 0, none⟩ 2 2 [.int .i64 (-77), .int .i64 (-78)] rfl rfl (World.news_of_block (cs := #[.int .i64 (-77), .int .i64 (-78)]) (t := 3) (fr := (0, 0)) (heap_alloc_new w1 _)) (two_one _ _) ln2 ln82 (by have := H1.out.2.size; simp; omega) ?_; intro v2 w2 hown2 hgrow2 hnil2 hat2; obtain ⟨g, cap, rfl, _, hcap⟩ := hown2.form (by omega); have hL : Lent w2 w.heap.size g cap zs := hown2; have hcp := hL.cap; have hcp1 : (0 : Int) ≤ (zs.length : Int) := (by omega); have hcp2 : (zs.length : Int) ≤ (cap : Int) := (by omega); have H2 : Hid _ := And.intro hL (lines_belowI H1.out.1 H1.out.2 hgrow2); clear hown2 hgrow2 hnil2 hat2 hL))
  go_ret
  exact ⟨g, cap, rfl, H2.out.1, H2.out.2⟩
set_option maxRecDepth 100000 in
set_option maxHeartbeats 1000000 in
theorem stays_lent (B g cap : Nat) (vb : Value) (zs : List Int) (w : World) (hn : zs.length ≤ 1000000000000000) (hA : Lent w B g cap zs) (hB : HasI w vb zs) :
    Calls Tryz.prog 25 #[.slice (some ⟨g, 0, none⟩) zs.length cap, vb] w fun e w' => e = .returned (.bool true) ∧ Below w.heap.size w w' := by
  have hS := sameInts_b _ vb zs zs w hn hn hA.has hB
  rw [beq_self_eq_true] at hS
  obtain ⟨c0, c1⟩ := hA.marks
  have hcap := hA.cap.1
  clear hA
  obtain ⟨ao, cap', rfl, _⟩ := hB
  obtain ⟨n, hN⟩ : ∃ n, n = zs.length := ⟨_, rfl⟩
  rw [← hN] at hn hcap hS c0 c1 ⊢
  clear hN
  have p1 : (n : Int) + 2 ≤ (cap : Int) := by omega
  have p2 : (0 : Int) ≤ (n : Int) + 2 := by omega
  have p3 : (n : Int) < (n : Int) + 2 := by omega
  have p4 : (n : Int) + 1 < (n : Int) + 2 := by omega
  have p5 : (0 : Int) ≤ (n : Int) := by omega
  have p6 : (0 : Int) ≤ (n : Int) + 1 := by omega
  go_enter Tryz.func25, Tryz.ntmps25
  go_wp2_with fail
  refine hS.mono ?_
  rintro r w1 ⟨rfl, hb⟩
  have d0 := (hb.cell (World.block_lt_of_cell? w _ c0)).trans c0
  have d1 := (hb.cell (World.block_lt_of_cell? w _ c1)).trans c1
  have HB : Hid (Below w.heap.size w w1) := hb
  clear hb c0 c1 hS
  go_wp2_with fail
  go_ret
  exact ⟨rfl, HB.out⟩
set_option maxRecDepth 100000 in
set_option maxHeartbeats 1000000 in
theorem rnew_any (w : World) : Calls Tryz.prog 7 #[] w fun r w' => r = .returned (.pointer (some ⟨w.heap.size, 0, none⟩)) ∧ (∃ F, RStoB w' w.heap.size [⟨1, 0, 0, 0, [], []⟩] F ∧ ∀ i, F i → w.heap.size ≤ i) ∧ Below w.heap.size w w' := by
  have hS := rsto_zero w
  have hb : Below w.heap.size w (w.alloc (.cells Tryz.zeroCells32 32)) := (Below.refl _ _).alloc (Nat.le_refl _) _
  have hP := rput_new w.heap.size [] _ ⟨1, 0, 0, 0, [], []⟩ (.slice none 0 0) (.slice none 0 0) _ ⟨_, _, _, _, hS, rfl⟩ ⟨none, 0, rfl, fun i z h => by simp at h⟩ ⟨none, 0, rfl, fun i z h => by simp at h⟩ (by decide) (by simp) (by decide)
  unfold tmV at hP
  have HP : Hid _ := hP
  have HB : Hid _ := hb
  clear hP hS hb
  go_enter Tryz.func7, Tryz.ntmps7
  go_wp2_with fail
  refine Calls.mono HP.out ?_
  rintro r w1 ⟨rfl, F, h1, h2, h3⟩
  have H1 : Hid _ := And.intro h1 (And.intro h2 h3)
  clear h1 h2 h3
  go_wp2_with fail
  go_ret
  have hup : ∀ i, RFoot w.heap.size (.slice none 0 0) (fun _ => .slice none 0 0) [] i → w.heap.size ≤ i := fun i hi => by
    rcases hi with rfl | hi | ⟨k, _, hi⟩ | ⟨v, hv, _⟩
    · exact Nat.le_refl _
    · cases hi
    · cases hi
    · cases hv
  refine ⟨rfl, ⟨F, H1.out.1, fun i hi => ?_⟩, HB.out.trans (H1.out.2.1.below HB.out.size hup)⟩
  rcases H1.out.2.2 i hi with e | e
  · exact hup i e
  · have := HB.out.size; omega
end Go.Proofs.YthnenpncajpibaaGreatDoor
/- Contract of term.parts. -/
namespace Go.Proofs.YthnenpncajpibaaGreatDoor
open Go.RowKit Go.Maps
namespace Tm
/-- The numbers of a term's parts. -/
def parts (t : Tm) : List Int :=
  if t.kind = 2 ∨ t.kind = 5 ∨ t.kind = 6 then [t.a] else if t.kind = 3 ∨ t.kind = 4 then [t.a, t.b] else []
end Tm
theorem own_built {w : World} {B g : Nat} {zs : List Int} {cs : Array Value} (h : w.heap[g]? = some (.cells cs 3 (0, 0))) (hc : cs.toList = iC zs) (hB : B ≤ g) (hn : zs.length ≤ 1000) : OwnI w B (.slice (some ⟨g, 0, none⟩) zs.length zs.length) zs := by
  have hl : cs.size = zs.length * 1 := by rw [← Array.length_toList, hc, iC_length]
  refine ⟨iC_length zs, .inr ⟨g, zs.length, cs, rfl, hB, h, Nat.le_refl _, by unfold maxLen; omega, hl, ?_⟩⟩
  rw [hc]
  exact List.take_of_length_le (by rw [iC_length]; exact Nat.le_refl _)
theorem two_alloc (w : World) (o p : Obj) : ((w.alloc o).alloc p).heap[w.heap.size + 1]? = some p := by
  have h := (MapKept.heap_alloc (w.alloc o) p).1
  simpa using h
set_option maxHeartbeats 400000 in
theorem parts2 (l a b' : Int) (vn vp : Value) (w : World) : Calls Tryz.prog 28 #[.agg #[.int .i64 2, .int .i64 l, .int .i64 a, .int .i64 b', vn, vp]] w fun r w' => ∃ v, r = .returned v ∧ OwnI w' w.heap.size v [a] ∧ Below w.heap.size w w' := by
  go_enter Tryz.func28, Tryz.ntmps28
  go_wp2
  go_ret
  exact ⟨_, rfl, own_built (zs := [a]) (two_alloc w _ _) rfl (by omega) (by simp), (by repeat (first | exact Below.refl _ _ | assumption | refine Below.drew ?_ | refine Below.setCell ?_ (by simp) _ | refine Below.alloc ?_ (by simp) _))⟩
set_option maxHeartbeats 400000 in
theorem parts5 (l a b' : Int) (vn vp : Value) (w : World) : Calls Tryz.prog 28 #[.agg #[.int .i64 5, .int .i64 l, .int .i64 a, .int .i64 b', vn, vp]] w fun r w' => ∃ v, r = .returned v ∧ OwnI w' w.heap.size v [a] ∧ Below w.heap.size w w' := by
  go_enter Tryz.func28, Tryz.ntmps28
  go_wp2
  go_ret
  exact ⟨_, rfl, own_built (zs := [a]) (two_alloc w _ _) rfl (by omega) (by simp), (by repeat (first | exact Below.refl _ _ | assumption | refine Below.drew ?_ | refine Below.setCell ?_ (by simp) _ | refine Below.alloc ?_ (by simp) _))⟩
set_option maxHeartbeats 400000 in
theorem parts6 (l a b' : Int) (vn vp : Value) (w : World) : Calls Tryz.prog 28 #[.agg #[.int .i64 6, .int .i64 l, .int .i64 a, .int .i64 b', vn, vp]] w fun r w' => ∃ v, r = .returned v ∧ OwnI w' w.heap.size v [a] ∧ Below w.heap.size w w' := by
  go_enter Tryz.func28, Tryz.ntmps28
  go_wp2
  go_ret
  exact ⟨_, rfl, own_built (zs := [a]) (two_alloc w _ _) rfl (by omega) (by simp), (by repeat (first | exact Below.refl _ _ | assumption | refine Below.drew ?_ | refine Below.setCell ?_ (by simp) _ | refine Below.alloc ?_ (by simp) _))⟩
set_option maxHeartbeats 400000 in
theorem parts3 (l a b' : Int) (vn vp : Value) (w : World) : Calls Tryz.prog 28 #[.agg #[.int .i64 3, .int .i64 l, .int .i64 a, .int .i64 b', vn, vp]] w fun r w' => ∃ v, r = .returned v ∧ OwnI w' w.heap.size v [a, b'] ∧ Below w.heap.size w w' := by
  go_enter Tryz.func28, Tryz.ntmps28
  go_wp2
  go_ret
  exact ⟨_, rfl, own_built (zs := [a, b']) (two_alloc w _ _) rfl (by omega) (by simp), (by repeat (first | exact Below.refl _ _ | assumption | refine Below.drew ?_ | refine Below.setCell ?_ (by simp) _ | refine Below.alloc ?_ (by simp) _))⟩
set_option maxHeartbeats 400000 in
theorem parts4 (l a b' : Int) (vn vp : Value) (w : World) : Calls Tryz.prog 28 #[.agg #[.int .i64 4, .int .i64 l, .int .i64 a, .int .i64 b', vn, vp]] w fun r w' => ∃ v, r = .returned v ∧ OwnI w' w.heap.size v [a, b'] ∧ Below w.heap.size w w' := by
  go_enter Tryz.func28, Tryz.ntmps28
  go_wp2
  go_ret
  exact ⟨_, rfl, own_built (zs := [a, b']) (two_alloc w _ _) rfl (by omega) (by simp), (by repeat (first | exact Below.refl _ _ | assumption | refine Below.drew ?_ | refine Below.setCell ?_ (by simp) _ | refine Below.alloc ?_ (by simp) _))⟩
set_option maxHeartbeats 400000 in
theorem parts0 (k l a b' : Int) (vn vp : Value) (w : World) (h2 : (k == 2) = false) (h5 : (k == 5) = false) (h6 : (k == 6) = false) (h3 : (k == 3) = false) (h4 : (k == 4) = false) : Calls Tryz.prog 28 #[.agg #[.int .i64 k, .int .i64 l, .int .i64 a, .int .i64 b', vn, vp]] w fun r w' => ∃ v, r = .returned v ∧ OwnI w' w.heap.size v [] ∧ Below w.heap.size w w' := by
  go_enter Tryz.func28, Tryz.ntmps28
  go_wp2
  go_ret
  exact ⟨_, rfl, World.ownsRow_nil _ _ _ _, (by repeat (first | exact Below.refl _ _ | assumption | refine Below.drew ?_ | refine Below.setCell ?_ (by simp) _ | refine Below.alloc ?_ (by simp) _))⟩
theorem parts_any (t : Tm) (vn vp : Value) (w : World) : Calls Tryz.prog 28 #[tmV t vn vp] w fun r w' => ∃ v, r = .returned v ∧ OwnI w' w.heap.size v t.parts ∧ Below w.heap.size w w' := by
  obtain ⟨k, l, a, b', names, pairs⟩ := t
  unfold tmV Tm.parts
  simp only
  by_cases h2 : k = 2
  · subst h2; exact parts2 l a b' vn vp w
  by_cases h5 : k = 5
  · subst h5; exact parts5 l a b' vn vp w
  by_cases h6 : k = 6
  · subst h6; exact parts6 l a b' vn vp w
  by_cases h3 : k = 3
  · subst h3; exact parts3 l a b' vn vp w
  by_cases h4 : k = 4
  · subst h4; exact parts4 l a b' vn vp w
  rw [if_neg (by omega), if_neg (by omega)]
  exact parts0 k l a b' vn vp w (by simpa using h2) (by simpa using h5) (by simpa using h6) (by simpa using h3) (by simpa using h4)
end Go.Proofs.YthnenpncajpibaaGreatDoor
/- Plain facts on what stands within a term. -/
namespace Go.Proofs.YthnenpncajpibaaGreatDoor
open Go.RowKit Go.Maps
/-- Each term might have been put where it stands. -/
def Tm.Good (L : List Tm) : Prop := ∀ (i : Nat) (t : Tm), L[i]? = some t → t.may i = true
theorem Tm.Good.snoc {L : List Tm} (h : Tm.Good L) {t : Tm} (ht : t.may L.length = true) : Tm.Good (L ++ [t]) := fun i s hs => by
  rcases Nat.lt_or_ge i L.length with hi | hi
  · rw [List.getElem?_append_left hi] at hs; exact h i s hs
  · rw [List.getElem?_append_right hi] at hs
    have hi0 : i - L.length = 0 := by have := (List.getElem?_eq_some_iff.1 hs).1; simp at this; omega
    rw [hi0] at hs
    simp at hs
    subst hs
    obtain rfl : i = L.length := by omega
    exact ht
theorem may_parts {n : Nat} {t : Tm} (h : t.may n = true) : ∀ p ∈ t.parts, 0 ≤ p ∧ p < (n : Int) := by
  simp only [Tm.may, Bool.and_eq_true] at h
  obtain ⟨hr, _⟩ := h
  unfold Tm.right at hr
  intro p hp
  unfold Tm.parts at hp
  split at hp
  · rename_i hk
    simp only [List.mem_singleton] at hp
    subst hp
    rcases hk with hk | hk | hk <;> simp [hk, Tm.has] at hr <;> omega
  · split at hp
    · rename_i hk
      have hb : Tm.has n t.a = true ∧ Tm.has n t.b = true := by
        rcases hk with hk | hk <;> simpa [hk] using hr
      simp only [has_iff] at hb
      simp only [List.mem_cons, List.not_mem_nil, or_false] at hp
      rcases hp with rfl | rfl <;> omega
    · simp at hp
/-- The parts of the term of a number. -/
def partsAt (L : List Tm) (z : Int) : List Int := ((L[z.toNat]?).map Tm.parts).getD []
theorem partsAt_of {L : List Tm} {m : Nat} {t : Tm} (h : L[m]? = some t) : partsAt L (m : Int) = t.parts := by simp [partsAt, h]
theorem good_parts {L : List Tm} (h : Tm.Good L) {m : Nat} {t : Tm} (hm : L[m]? = some t) : ∀ p ∈ t.parts, 0 ≤ p ∧ p < (m : Int) := may_parts (h m t hm)
theorem nodup_le : ∀ (n : Nat) (zs : List Int), zs.Nodup → (∀ z ∈ zs, 0 ≤ z ∧ z < (n : Int)) → zs.length ≤ n
  | 0, zs, _, h => by
    cases zs with
    | nil => simp
    | cons z r => have := h z (by simp); omega
  | n + 1, zs, hd, h => by
    have h1 := nodup_le n (zs.erase (n : Int)) (hd.erase _) (fun z hz => by
      have hz' := (hd.mem_erase_iff).1 hz
      have := h z hz'.2
      have hne := hz'.1
      omega)
    have h2 : zs.length ≤ (zs.erase (n : Int)).length + 1 := by
      rw [List.length_erase]
      split <;> omega
    omega
/-- So far: the first ones' parts are there too. -/
structure Walk (L : List Tm) (id : Int) (i : Nat) (zs : List Int) : Prop where
  head : id ∈ zs
  nodup : zs.Nodup
  range : ∀ z ∈ zs, 0 ≤ z ∧ z < (L.length : Int)
  done : ∀ (k : Nat) (z : Int), k < i → zs[k]? = some z → ∀ p ∈ partsAt L z, p ∈ zs
  frm : ∀ z ∈ zs, z = id ∨ ∃ y ∈ zs, z ∈ partsAt L y
theorem Walk.len {L : List Tm} {id : Int} {i : Nat} {zs : List Int} (h : Walk L id i zs) : zs.length ≤ L.length := nodup_le _ _ h.nodup h.range
theorem Walk.start {L : List Tm} {id : Int} (h0 : 0 ≤ id) (h1 : id < (L.length : Int)) : Walk L id 0 [id] :=
  ⟨by simp, by simp, fun z hz => by simp at hz; omega, fun k z hk => by omega, fun z hz => by simp at hz; exact .inl hz⟩
/-- A part more. -/
theorem Walk.more {L : List Tm} {id : Int} {i : Nat} {zs : List Int} (h : Walk L id i zs) {p y : Int} (hn : p ∉ zs) (hy : y ∈ zs) (hp : p ∈ partsAt L y) (h0 : 0 ≤ p) (h1 : p < (L.length : Int)) (hi : i ≤ zs.length) : Walk L id i (zs ++ [p]) :=
  ⟨by simp [h.head], by rw [List.nodup_append]; exact ⟨h.nodup, by simp, fun a ha b hb => by simp at hb; rintro rfl; exact hn (hb ▸ ha)⟩,
    fun z hz => by rcases List.mem_append.1 hz with hz | hz; · exact h.range z hz
                   · simp at hz; omega,
    fun k z hk hz q hq => by rw [List.getElem?_append_left (by omega)] at hz; exact List.mem_append_left _ (h.done k z hk hz q hq),
    fun z hz => by
      rcases List.mem_append.1 hz with hz | hz
      · rcases h.frm z hz with e | ⟨x, hx, e⟩
        · exact .inl e
        · exact .inr ⟨x, List.mem_append_left _ hx, e⟩
      · simp at hz
        subst hz
        exact .inr ⟨y, List.mem_append_left _ hy, hp⟩⟩
theorem Walk.next {L : List Tm} {id : Int} {i : Nat} {zs : List Int} (h : Walk L id i zs) {z : Int} (hz : zs[i]? = some z) (hp : ∀ p ∈ partsAt L z, p ∈ zs) : Walk L id (i + 1) zs :=
  ⟨h.head, h.nodup, h.range, fun k y hk hy => by
    rcases Nat.lt_or_ge k i with hlt | hge
    · exact h.done k y hlt hy
    · obtain rfl : k = i := by omega
      rw [hz] at hy
      cases hy
      exact hp, h.frm⟩
/-- What stands within a term, rising. -/
structure Withi (L : List Tm) (id : Int) (ts : List Int) : Prop where
  head : id ∈ ts
  rise : ts.Pairwise (· < ·)
  range : ∀ z ∈ ts, 0 ≤ z ∧ z < (L.length : Int)
  closed : ∀ z ∈ ts, ∀ p ∈ partsAt L z, p ∈ ts
  frm : ∀ z ∈ ts, z = id ∨ ∃ y ∈ ts, z ∈ partsAt L y
theorem rise_of {ts : List Int} (hs : ts.Pairwise (· ≤ ·)) (hn : ts.Nodup) : ts.Pairwise (· < ·) := by
  have h := hs.and hn
  exact h.imp fun ⟨h1, h2⟩ => by omega
theorem Walk.fin {L : List Tm} {id : Int} {zs ts : List Int} (h : Walk L id zs.length zs) (hp : ts.Perm zs) (hs : ts.Pairwise (· ≤ ·)) : Withi L id ts :=
  ⟨hp.mem_iff.2 h.head, rise_of hs (hp.nodup_iff.2 h.nodup), fun z hz => h.range z (hp.mem_iff.1 hz), fun z hz p hpz => by
    obtain ⟨k, hk, rfl⟩ := List.getElem_of_mem (hp.mem_iff.1 hz)
    exact hp.mem_iff.2 (h.done k _ hk (List.getElem?_eq_getElem hk) p hpz), fun z hz => by
    rcases h.frm z (hp.mem_iff.1 hz) with e | ⟨y, hy, e⟩
    · exact .inl e
    · exact .inr ⟨y, hp.mem_iff.2 hy, e⟩⟩
end Go.Proofs.YthnenpncajpibaaGreatDoor
/- What within keeps in memory: a list of its own, a set of its own, the parts at hand. -/
namespace Go.Proofs.YthnenpncajpibaaGreatDoor
open Go.RowKit Go.Maps
theorem Tryz.lawI : Keyed Tryz.prog 3 := int_keyed Tryz.underlying3
theorem Tryz.zeroU (w : World) : (zeroValue 117).run Tryz.prog w = .ok (.agg #[]) w := by kernel_rfl
/-- The set has just the members of the list. -/
def SetOf (D : DataW Unit) (zs : List Int) : Prop := ∀ z : Int, Maps.has D (.int .i64 z) = decide (z ∈ zs)
theorem SetOf.nil : SetOf (.map []) [] := fun z => by simp [Maps.has]
theorem ikey (z : Int) : WideAt.IsKeyLit (.int .i64 z) := trivial
theorem SetOf.more {D : DataW Unit} {zs : List Int} (h : SetOf D zs) (hD : IsMap D) (p : Int) : SetOf (D.put (.int .i64 p) (.agg [])) (zs ++ [p]) := fun z => by
  by_cases e : z = p
  · subst e
    rw [has_put_same hD (ikey _)]; simp
  · rw [has_put_other (fun e' => e (by injection e')), h z]
    simp [e]
/-- The list, the set, the parts. -/
structure WMem (w wr : World) (v : Value) (zs : List Int) (bm : Nat) (D : DataW Unit) (vp : Value) (ps : List Int) : Prop where
  bl : Below w.heap.size w wr
  row : OwnI wr w.heap.size v zs
  map : wr.ownsMap (H := Unit) Tryz.prog 3 unitElem bm zs.length D
  up : w.heap.size ≤ bm
  set : SetOf D zs
  par : OwnI wr w.heap.size vp ps
  ne : ∀ g, v.ownBlock = some g → vp.ownBlock ≠ some g
theorem WMem.below {w wr w1 : World} {v : Value} {zs : List Int} {bm : Nat} {D : DataW Unit} {vp : Value} {ps : List Int} (h : WMem w wr v zs bm D vp ps) (hb : Below wr.heap.size wr w1) : WMem w w1 v zs bm D vp ps :=
  ⟨h.bl.trans (hb.mono h.bl.size), trow_at h.row fun i hi => hb.block i (h.row.lt i hi).2, map_at h.map (hb.block _ h.map.lt), h.up, h.set, trow_at h.par fun i hi => hb.block i (h.par.lt i hi).2, h.ne⟩
/-- Other parts at hand. -/
theorem WMem.parts {w wr w1 : World} {v : Value} {zs : List Int} {bm : Nat} {D : DataW Unit} {vp : Value} {ps : List Int} (h : WMem w wr v zs bm D vp ps) {vq : Value} {qs : List Int} (hb : Below wr.heap.size wr w1) (ho : OwnI w1 wr.heap.size vq qs) : WMem w w1 v zs bm D vq qs :=
  let k := h.below hb
  ⟨k.bl, k.row, k.map, k.up, k.set, row_base ho h.bl.size, fun g hg e => by have h1 := (h.row.lt g hg).2; have h2 := (ho.lt g e).1; omega⟩
theorem WMem.apart {w wr : World} {v : Value} {zs : List Int} {bm : Nat} {D : DataW Unit} {vp : Value} {ps : List Int} (h : WMem w wr v zs bm D vp ps) : v.ownBlock ≠ some bm := fun e => by
  obtain ⟨c, hc⟩ := row_cells h.row e
  exact map_ne hc h.map rfl
/-- Behind the marking of a part as seen. -/
structure WMid (w w2 : World) (v : Value) (zs : List Int) (bm : Nat) (D : DataW Unit) (vp : Value) (ps : List Int) (p : Int) : Prop where
  bl : Below w.heap.size w w2
  row : OwnI w2 w.heap.size v zs
  map : w2.ownsMap (H := Unit) Tryz.prog 3 unitElem bm (zs.length + 1) D
  up : w.heap.size ≤ bm
  set : SetOf D (zs ++ [p])
  par : OwnI w2 w.heap.size vp ps
  ne : ∀ g, v.ownBlock = some g → vp.ownBlock ≠ some g
theorem WMem.mark {w wr w2 : World} {v : Value} {zs : List Int} {bm : Nat} {D : DataW Unit} {vp : Value} {ps : List Int} {p : Int} (h : WMem w wr v zs bm D vp ps) (ho : w2.ownsMap (H := Unit) Tryz.prog 3 unitElem bm (zs.length + 1) (D.put (.int .i64 p) (.agg []))) (hg : wr.grownBy w2 (some bm)) : WMid w w2 v zs bm (D.put (.int .i64 p) (.agg [])) vp ps p := by
  refine ⟨h.bl.grown hg h.bl.size (fun k hk => by have := Option.some.inj hk; have := h.up; omega), trow_at h.row fun i hi => hg.block i (h.row.lt i hi).2 fun e => h.apart (by rw [hi, e]), ho, h.up, h.set.more h.map.isMap p, trow_at h.par fun i hi => hg.block i (h.par.lt i hi).2 fun e => ?_, h.ne⟩
  obtain ⟨c, hc⟩ := row_cells h.par hi
  exact map_ne hc h.map (Option.some.inj e)
theorem WMid.alloc {w w2 : World} {v : Value} {zs : List Int} {bm : Nat} {D : DataW Unit} {vp : Value} {ps : List Int} {p : Int} (h : WMid w w2 v zs bm D vp ps p) (o : Obj) : WMid w (w2.alloc o) v zs bm D vp ps p :=
  ⟨h.bl.alloc h.bl.size o, h.row.alloc o, h.map.alloc o, h.up, h.set, h.par.alloc o, h.ne⟩
/-- Behind the append. -/
theorem WMid.put {w w2 w3 : World} {v v' : Value} {zs : List Int} {bm : Nat} {D : DataW Unit} {vp : Value} {ps : List Int} {p : Int} (h : WMid w w2 v zs bm D vp ps p) (ho : w3.ownsRow w.heap.size 3 1 v' (zs.length + 1) (iC zs ++ [.int .i64 p])) (hg : w2.grownBy w3 v.ownBlock) (hat : v'.ownBlock = v.ownBlock ∨ v'.ownBlock = some w2.heap.size) : WMem w w3 v' (zs ++ [p]) bm D vp ps := by
  have hap : v.ownBlock ≠ some bm := fun e => by
    obtain ⟨c, hc⟩ := row_cells h.row e
    exact map_ne hc h.map rfl
  refine ⟨h.bl.grown hg h.bl.size (fun k hk => (h.row.lt k hk).1), ?_, ?_, h.up, h.set, trow_at h.par fun i hi => hg.block i (h.par.lt i hi).2 fun e => h.ne i e.symm hi, fun g hg' e => ?_⟩
  · unfold OwnI
    rw [List.length_append, show iC (zs ++ [p]) = iC zs ++ [.int .i64 p] by simp [iC]]
    exact ho
  · rw [List.length_append]
    exact map_at h.map (hg.block _ h.map.lt fun e => hap e.symm)
  · rcases hat with e1 | e1
    · exact h.ne g (e1 ▸ hg') e
    · rw [e1] at hg'
      have h1 := Option.some.inj hg'
      have h2 := (h.par.lt g e).2
      omega
theorem int_one1 (z : Int) : ∀ u ∈ [Value.int .i64 z], u.oneCell' = true := fun u hu => by
  rw [List.mem_singleton.1 hu]; rfl
theorem OwnI.form {w : World} {B : Nat} {v : Value} {zs : List Int} (h : OwnI w B v zs) (h0 : zs ≠ []) : ∃ g cap, v = .slice (some ⟨g, 0, none⟩) zs.length cap ∧ B ≤ g ∧ zs.length ≤ cap := by
  rcases h.2 with ⟨_, e⟩ | ⟨g, cap, cur, rfl, hg, _, hc, _⟩
  · exact absurd (List.eq_nil_of_length_eq_zero e) h0
  · exact ⟨g, cap, rfl, hg, hc⟩
theorem OwnI.cell {w : World} {B g cap n : Nat} {zs : List Int} (h : OwnI w B (.slice (some ⟨g, 0, none⟩) n cap) zs) {i : Nat} {z : Int} (hi : zs[i]? = some z) : w.cell? ⟨g, i, none⟩ = some (.int .i64 z) := by
  have hlt := (List.getElem?_eq_some_iff.1 hi).1
  obtain ⟨ao, cap', e, h2⟩ := h.has
  injection e with e1 e2 e3
  obtain ⟨a, ha, hc⟩ := h2 i z hi
  rw [← e1] at ha
  have := Option.some.inj ha
  rw [← this, addz] at hc
  exact hc
end Go.Proofs.YthnenpncajpibaaGreatDoor
/- Contracts of three functions of Go's library at this program, laid by the shelf's own tools in plain words. -/
namespace Go.Proofs
open Go.Shelf
def Tryz.lays189_ren : Go.Shelf.Ren := ⟨fun | 189 => 29 | 125 => 88 | 257 => 87 | 128 => 124 | 129 => 125 | 294 => 115 | 295 => 116 | 296 => 117 | 297 => 118 | 298 => 119 | 299 => 120 | 216 => 121 | 300 => 122 | 301 => 123 | 328 => 129 | 329 => 130 | 330 => 131 | 331 => 132 | 332 => 133 | 215 => 134 | 343 => 137 | n => n, fun | 28 => 29 | 3 => 3 | 46 => 122 | 0 => 0 | 51 => 173 | 53 => 175 | 4 => 4 | 183 => 166 | 182 => 165 | 131 => 113 | 5 => 5 | 9 => 9 | 218 => 177 | 222 => 181 | 228 => 187 | 229 => 188 | n => n, fun | n => n⟩
theorem Tryz.lays189 : Go.Proofs.Lays.n189 Tryz.prog Tryz.lays189_ren := {
  mixed := by kernel_rfl
  f125 := Tryz.func88.trans (congrArg some (by kernel_rfl))
  f128 := Tryz.func124.trans (congrArg some (by kernel_rfl))
  f129 := Tryz.func125.trans (congrArg some (by kernel_rfl))
  f189 := Tryz.func29.trans (congrArg some (by kernel_rfl))
  f215 := Tryz.func134.trans (congrArg some (by kernel_rfl))
  f216 := Tryz.func121.trans (congrArg some (by kernel_rfl))
  f257 := Tryz.func87.trans (congrArg some (by kernel_rfl))
  f294 := Tryz.func115.trans (congrArg some (by kernel_rfl))
  f295 := Tryz.func116.trans (congrArg some (by kernel_rfl))
  f296 := Tryz.func117.trans (congrArg some (by kernel_rfl))
  f297 := Tryz.func118.trans (congrArg some (by kernel_rfl))
  f298 := Tryz.func119.trans (congrArg some (by kernel_rfl))
  f299 := Tryz.func120.trans (congrArg some (by kernel_rfl))
  f300 := Tryz.func122.trans (congrArg some (by kernel_rfl))
  f301 := Tryz.func123.trans (congrArg some (by kernel_rfl))
  f328 := Tryz.func129.trans (congrArg some (by kernel_rfl))
  f329 := Tryz.func130.trans (congrArg some (by kernel_rfl))
  f330 := Tryz.func131.trans (congrArg some (by kernel_rfl))
  f331 := Tryz.func132.trans (congrArg some (by kernel_rfl))
  f332 := Tryz.func133.trans (congrArg some (by kernel_rfl))
  f343 := Tryz.func137.trans (congrArg some (by kernel_rfl))
  t0 := Tryz.underlying0
  a0 := Tryz.isAgg0
  z0 := Tryz.sizeOf0
  v0 := Tryz.zeroValue0
  t3 := Tryz.underlying3
  a3 := Tryz.isAgg3
  z3 := Tryz.sizeOf3
  v3 := Tryz.zeroValue3
  t4 := Tryz.underlying4
  a4 := Tryz.isAgg4
  z4 := Tryz.sizeOf4
  v4 := Tryz.zeroValue4
  t5 := Tryz.underlying5
  a5 := Tryz.isAgg5
  z5 := Tryz.sizeOf5
  v5 := Tryz.zeroValue5
  t9 := Tryz.underlying9
  a9 := Tryz.isAgg9
  z9 := Tryz.sizeOf9
  v9 := Tryz.zeroValue9
  t28 := Tryz.underlying29
  a28 := Tryz.isAgg29
  z28 := Tryz.sizeOf29
  v28 := Tryz.zeroValue29
  t46 := Tryz.underlying122
  a46 := Tryz.isAgg122
  z46 := Tryz.sizeOf122
  v46 := Tryz.zeroValue122
  t51 := Tryz.underlying173
  a51 := Tryz.isAgg173
  z51 := Tryz.sizeOf173
  v51 := Tryz.zeroValue173
  t53 := Tryz.underlying175
  a53 := Tryz.isAgg175
  z53 := Tryz.sizeOf175
  v53 := Tryz.zeroValue175
  t131 := Tryz.underlying113
  a131 := Tryz.isAgg113
  z131 := Tryz.sizeOf113
  v131 := Tryz.zeroValue113
  t182 := Tryz.underlying165
  a182 := Tryz.isAgg165
  z182 := Tryz.sizeOf165
  v182 := Tryz.zeroValue165
  t183 := Tryz.underlying166
  a183 := Tryz.isAgg166
  z183 := Tryz.sizeOf166
  v183 := Tryz.zeroValue166
  t218 := Tryz.underlying177
  a218 := Tryz.isAgg177
  z218 := Tryz.sizeOf177
  v218 := Tryz.zeroValue177
  t222 := Tryz.underlying181
  a222 := Tryz.isAgg181
  z222 := Tryz.sizeOf181
  v222 := Tryz.zeroValue181
  t228 := Tryz.underlying187
  a228 := Tryz.isAgg187
  z228 := Tryz.sizeOf187
  v228 := Tryz.zeroValue187
  t229 := Tryz.underlying188
  a229 := Tryz.isAgg188
  z229 := Tryz.sizeOf188
  v229 := Tryz.zeroValue188 }
open Go.Sort Go.RowKit in
theorem Tryz.slices_Sort_int (blk off cap : Nat) (zs : List Int) (w : World) (hH : Holds (Value.int .i64) w blk off zs.toArray) (hblk : blk < w.heap.size) (hsz : zs.length < 4611686018427387904) :
    Calls Tryz.prog 29 #[.slice (some ⟨blk, off, none⟩) zs.length cap] w fun e w' =>
      e = .returned (.tuple #[]) ∧ ∃ n os, w' = grow (putRow (Value.int .i64) (Sort.ahead w n) blk off (zs.mergeSort fun x y => decide (x ≤ y)).toArray) os := Any.slices_Sort_int Tryz.lays189 blk off cap zs w hH hblk hsz
end Go.Proofs
/- Contract of the store's within. -/
namespace Go.Proofs.YthnenpncajpibaaGreatDoor
open Go.RowKit Go.Maps
attribute [local go_sem ↓] Go.wp_at_zero Go.wp_at_succ
/-- slices.Sort of a list of the call's own. -/
theorem sortI_any (w : World) (B g cap : Nat) (zs : List Int) (h : OwnI w B (.slice (some ⟨g, 0, none⟩) zs.length cap) zs) (hn : zs.length ≤ 1000000) :
    Calls Tryz.prog 29 #[.slice (some ⟨g, 0, none⟩) zs.length cap] w fun e w' => e = .returned (.tuple #[]) ∧ OwnI w' B (.slice (some ⟨g, 0, none⟩) zs.length cap) (zs.mergeSort fun x y => decide (x ≤ y)) ∧ w.grownBy w' (some g) := by
  rcases h.2 with ⟨e, _⟩ | ⟨g', cap', cur, e, hg, hb, hc, hm, hs, ht⟩
  · cases e
  injection e with e1 e2 e3
  have e4 := Option.some.inj e1
  injection e4 with e5
  subst e5; subst e3
  rw [Nat.mul_one] at ht
  refine (Tryz.slices_Sort_int g 0 cap zs w (holds_of_blockI hb ht) (t_lt hb) (by omega)).mono ?_
  rintro r w' ⟨rfl, n, os, rfl⟩
  have hl : (zs.mergeSort fun x y => decide (x ≤ y)).length = zs.length := List.length_mergeSort _
  refine ⟨rfl, ?_, grownBy_sortedI _⟩
  have := ownsRow_sortedI (n := n) (os := os) hl hg hb hc hm hs
  unfold OwnI
  rw [hl]
  exact this
theorem sort_perm (zs : List Int) : (zs.mergeSort fun x y => decide (x ≤ y)).Perm zs := List.mergeSort_perm _ _
theorem sort_rise (zs : List Int) : (zs.mergeSort fun x y => decide (x ≤ y)).Pairwise (· ≤ ·) := by
  have h := List.pairwise_mergeSort (le := fun x y : Int => decide (x ≤ y)) (fun a b c h1 h2 => by simp at *; omega) (fun a b => by simp; omega) zs
  exact h.imp fun h => by simpa using h
theorem parts_len (t : Tm) : t.parts.length ≤ 2 := by
  unfold Tm.parts
  split
  · simp
  · split <;> simp
theorem WMem.drop {w wr : World} {v : Value} {zs : List Int} {bm : Nat} {D : DataW Unit} {vp : Value} {ps : List Int} (h : WMem w wr v zs bm D vp ps) : WMem w wr v zs bm D (.slice none 0 0) [] :=
  ⟨h.bl, h.row, h.map, h.up, h.set, World.ownsRow_nil _ _ _ _, fun g _ => by simp [Value.ownBlock]⟩
set_option maxRecDepth 100000 in
set_option maxHeartbeats 1600000 in
theorem within_any (b : Nat) (L : List Tm) (F : Nat → Prop) (id : Nat) (w : World) (hS : StoB w b L F) (hG : Tm.Good L) (hid : id < L.length) :
    Calls Tryz.prog 27 #[.pointer (some ⟨b, 0, none⟩), .int .i64 id] w fun r w' => ∃ v ts, r = .returned v ∧ OwnI w' w.heap.size v ts ∧ Withi L id ts ∧ Below w.heap.size w w' := by
  have hbig := hS.big
  obtain ⟨i0, hi0, hz0, hz1, hz2⟩ := info_parts Tryz.infoI3
  have hmade := World.ownsMap_made (H := Unit) (w.alloc (.cells #[.int .i64 id] 3)) Tryz.prog 3 unitElem
  have hsz : (w.alloc (.cells #[.int .i64 id] 3)).heap.size = w.heap.size + 1 := by simp
  rw [hsz] at hmade
  obtain ⟨W1, hrun, ho, hg⟩ := hmade.update Tryz.lawI Tryz.underlying118 (by unfold maxLen; omega) (keyOf_int_mk (a := (id : Int)) Tryz.underlying3 (WalkArith.wf_i64 (by omega))) unitElem_mk
  have hM : WMem w W1 (.slice (some ⟨w.heap.size, 0, none⟩) 1 1) [(id : Int)] (w.heap.size + 1) ((DataW.map []).put (.int .i64 id) (.agg [])) (.slice none 0 0) [] := by
    have b0 : Below w.heap.size w ((w.alloc (.cells #[.int .i64 id] 3)).alloc (.map #[] 0)) := (by repeat (first | exact Below.refl _ _ | assumption | refine Below.drew ?_ | refine Below.setCell ?_ (by simp) _ | refine Below.alloc ?_ (by simp) _))
    have hl : ((w.alloc (.cells #[.int .i64 id] 3)).alloc (.map #[] 0)).heap[w.heap.size]? = some (.cells #[.int .i64 id] 3 (0, 0)) := by
      rw [Below.heap_alloc _ _ _ (by simp)]; exact (MapKept.heap_alloc w _).1
    refine ⟨b0.grown hg (by simp; omega) (fun k hk => by have := Option.some.inj hk; omega), own_built (zs := [(id : Int)]) ((hg.block _ (by simp; omega) (by simp)).trans hl) rfl (Nat.le_refl _) (by simp), ho, by omega, ?_, World.ownsRow_nil _ _ _ _, fun g _ => by simp [Value.ownBlock]⟩
    exact SetOf.nil.more hmade.isMap (id : Int)
  have hmm := @run_makeMap Tryz.prog
  have HM : Hid _ := hM
  have HS : Hid _ := And.intro hS hG
  clear hM ho hg hmade hS hG
  go_enter Tryz.func27, Tryz.ntmps27
  go_wp2_with fail
  clear hrun hmm hsz
  go_loopg [5, 7] L.length (fun g v iv wr => ∃ (i : Nat) (zs : List Int) (D : DataW Unit), g = L.length - i ∧ i ≤ zs.length ∧ iv = .int .i64 i ∧ Walk L id i zs ∧ WMem w wr v zs (w.heap.size + 1) D (.slice none 0 0) [])
  case atStart => exact ⟨0, [(id : Int)], _, rfl, by simp, rfl, Walk.start (by omega) (by omega), HM.out⟩
  case round =>
    clear HM
    obtain ⟨i, zs, D, rfl, hi, rfl, hW, hM⟩ := hrel
    have hzl := hW.len
    obtain ⟨g, cap, rfl, hgB, hzc⟩ := hM.row.form (fun e => by have := hW.head; rw [e] at this; simp at this)
    by_cases hlt : i < zs.length
    · obtain ⟨z, hz⟩ : ∃ z, zs[i]? = some z := ⟨zs[i], List.getElem?_eq_getElem hlt⟩
      have hzr := hW.range z (List.mem_of_getElem? hz)
      obtain ⟨m, rfl⟩ : ∃ m : Nat, z = m := ⟨z.toNat, by omega⟩
      obtain ⟨t, ht⟩ : ∃ t, L[m]? = some t := ⟨L[m]'(by omega), List.getElem?_eq_getElem _⟩
      obtain ⟨gt, ct, vn, vp, hA, _, _, _⟩ := (HS.out.1.below hM.bl).at ht
      obtain ⟨an, cn, rfl, _⟩ := _root_.id hA.n
      obtain ⟨ap, cp, rfl, _⟩ := _root_.id hA.p
      obtain ⟨c0, x0, x1, x2, x3, x4, x5, _, _⟩ := hA
      have li := hM.row.cell hz
      have q0 : (0 : Int) ≤ (i : Int) := by omega
      have q1 : (i : Int) < (zs.length : Int) := by omega
      have q2 : (0 : Int) ≤ (m : Int) := by omega
      have q3 : (m : Int) < (L.length : Int) := by omega
      have HP : Hid (∀ W, Calls Tryz.prog 28 #[.agg #[.int .i64 t.kind, .int .i64 t.label, .int .i64 t.a, .int .i64 t.b, .slice an t.names.length cn, .slice ap t.pairs.length cp]] W fun r w' => ∃ v, r = .returned v ∧ OwnI w' W.heap.size v t.parts ∧ Below W.heap.size W w') := fun W => parts_any t _ _ W
      have HI : Hid _ := And.intro hW (And.intro hM (And.intro hz ht))
      clear hW hM hz ht
      go_wp2_with fail
      go_region_law
        ((first
          | (go_simp; go_at_call 28; refine (HP.out _).mono ?_; rintro r1 w1 ⟨vq, rfl, hq, hb1'⟩; obtain ⟨aoq, capq, rfl⟩ := row_shape hq; have hM1 := HI.out.2.1.parts (below_of_drew3 hb1') hq; have H1 : Hid _ := hM1; clear hM1 hq hb1' c0 x0 x1 x2 x3 x4 x5 li HP)))
      all_goals
        (try go_simp)
        go_wp2_with fail
        obtain ⟨n, hn⟩ : ∃ n, n = t.parts.length := ⟨_, rfl⟩
        have HN : Hid (n = t.parts.length ∧ n ≤ 2) := ⟨hn, by rw [hn]; exact parts_len t⟩
        rw [← hn]
        clear hn
        go_loopg [5, 36] n (fun g v kv wr => ∃ (k : Nat) (ys : List Int) (E : DataW Unit), g = n - k ∧ k ≤ n ∧ kv = .int .i64 k ∧ Walk L id i ys ∧ ys[i]? = some (m : Int) ∧ (∀ (q : Nat) (p : Int), q < k → t.parts[q]? = some p → p ∈ ys) ∧ WMem w wr v ys (w.heap.size + 1) E (.slice aoq n capq) t.parts)
        case atStart => exact ⟨0, zs, D, rfl, Nat.zero_le _, rfl, HI.out.1, HI.out.2.2.1, fun q p h => by omega, by rw [HN.out.1]; exact H1.out⟩
        case round =>
          obtain ⟨k, ys, E, rfl, hk, rfl, hW, hyi, hdone, hM⟩ := hrel
          have hyl := hW.len
          have hn2 := HN.out.2
          have hil := (List.getElem?_eq_some_iff.1 hyi).1
          obtain ⟨g', cap', rfl, hgB', hyc⟩ := hM.row.form (fun e => by have := hW.head; rw [e] at this; simp at this)
          by_cases hlt : k < n
          · obtain ⟨p, hp⟩ : ∃ p, t.parts[k]? = some p := ⟨t.parts[k]'(by have := HN.out.1; omega), List.getElem?_eq_getElem _⟩
            have hpm := List.mem_of_getElem? hp
            have hpr := good_parts HS.out.2 HI.out.2.2.2 p hpm
            have hpa : p ∈ partsAt L (m : Int) := by rw [partsAt_of HI.out.2.2.2]; exact hpm
            obtain ⟨gq, capq', hqe, _, _⟩ := hM.par.form (fun e => by rw [e] at hpm; simp at hpm)
            injection hqe with e1 e2 e3
            subst e1
            have lq := hM.par.cell hp
            have q4 : (0 : Int) ≤ (k : Int) := by omega
            have q5 : (k : Int) < (n : Int) := by omega
            have pw : (Lit.int .i64 p).wf = true := WalkArith.wf_i64 (by omega)
            obtain ⟨uv, ups, hlook, huv⟩ := hM.map.look_ok Tryz.lawI Tryz.underlying118 (Tryz.zeroU wr) unitElem_mk (keyOf_int_mk (a := p) Tryz.underlying3 pw)
            obtain ⟨rfl, _⟩ := unitElem_inv huv
            rw [hM.set p] at hlook
            clear e2 e3 huv hpm
            have hna : Below wr.heap.size wr (wr.alloc (.cells #[] 117)) := (Below.refl _ _).alloc (Nat.le_refl _) _
            by_cases hin : p ∈ ys
            · rw [decide_eq_true hin] at hlook
              have HJ : Hid _ := And.intro hW (And.intro hyi (And.intro hdone (And.intro (hM.below hna) (And.intro hp hin))))
              clear hW hyi hdone hM hp hin hpa hna
              go_wp2_with fail
              go_roundg (n - (k + 1))
              case measure => omega
              case rel => exact ⟨k + 1, ys, E, rfl, by omega, by go_num, HJ.out.1, HJ.out.2.1, fun q r hq hr => by
                rcases Nat.lt_or_ge q k with h | h
                · exact HJ.out.2.2.1 q r h hr
                · obtain rfl : q = k := by omega
                  rw [HJ.out.2.2.2.2.1] at hr
                  cases hr
                  exact HJ.out.2.2.2.2.2, HJ.out.2.2.2.1⟩
            · rw [decide_eq_false hin] at hlook
              have hM0 := hM.below hna
              obtain ⟨w2, hrun, ho2, hg2⟩ := hM0.map.update Tryz.lawI Tryz.underlying118 (by unfold maxLen; omega) (keyOf_int_mk (a := p) Tryz.underlying3 pw) unitElem_mk
              have hK := hM0.mark ho2 hg2
              have hml : ys.length + 1 ≤ maxLen := by unfold maxLen; omega
              have hby : (ys.length + 1) * 8 ≤ 140737488355328 := by omega
              have hbs : w.heap.size ≤ (w2.alloc (.cells #[.int .i64 p] 3)).heap.size := by have := hK.bl.size; simp; omega
              have HJ : Hid _ := And.intro hW (And.intro hyi (And.intro hdone (And.intro hK (And.intro hp (And.intro hin (And.intro hpa hpr))))))
              clear hW hyi hdone hM hp hin hpa hna hM0 ho2 hg2 hK
              go_wp2_with (at_builtin; refine wpList_append_own_at _ rfl _ _ 29 rfl w.heap.size 3 i0 (.int .i64 0) 1 8 Tryz.underlying29 hi0 hz0 hz1 hz2 rfl (by decide) _ ys.length (iC ys) rfl (HJ.out.2.2.2.1.row.alloc _) ⟨w2.heap.size, 0, none⟩ 1 1 [.int .i64 p] rfl rfl (cell_one_new _ _ _) (int_one1 p) hml hby hbs ?_; intro v' w3 hown' hgrow hnil hat; obtain ⟨ao9, cap9, rfl⟩ := row_shape hown'; have H2 : Hid _ := (HJ.out.2.2.2.1.alloc (.cells #[.int .i64 p] 3)).put hown' hgrow hat; clear hown' hgrow hat hnil)
              go_roundg (n - (k + 1))
              case measure => omega
              case rel => exact ⟨k + 1, ys ++ [p], _, rfl, by omega, by go_num, HJ.out.1.more HJ.out.2.2.2.2.2.1 (List.mem_of_getElem? HJ.out.2.1) HJ.out.2.2.2.2.2.2.1 HJ.out.2.2.2.2.2.2.2.1 (by have := HJ.out.2.2.2.2.2.2.2.2; omega) (by omega), by rw [List.getElem?_append_left hil]; exact HJ.out.2.1, fun q r hq hr => by
                rcases Nat.lt_or_ge q k with h | h
                · exact List.mem_append_left _ (HJ.out.2.2.1 q r h hr)
                · obtain rfl : q = k := by omega
                  rw [HJ.out.2.2.2.2.1] at hr
                  cases hr
                  simp, H2.out⟩
          · obtain rfl : k = n := by omega
            have q5 : ¬ (k : Int) < (k : Int) := by omega
            have HJ : Hid _ := And.intro (hW.next hyi (fun p hp => by
              rw [partsAt_of HI.out.2.2.2] at hp
              obtain ⟨q, hq, rfl⟩ := List.getElem_of_mem hp
              exact hdone q _ (by have := HN.out.1; omega) (List.getElem?_eq_getElem hq))) hM.drop
            clear hW hyi hdone hM
            go_wp2_with fail
            go_roundg (L.length - (i + 1))
            case measure => omega
            case rel => exact ⟨i + 1, ys, E, rfl, by omega, by go_num, HJ.out.1, HJ.out.2⟩
    · obtain rfl : i = zs.length := by omega
      have q1 : ¬ (zs.length : Int) < (zs.length : Int) := by omega
      have HI : Hid _ := And.intro hW hM
      clear hW hM
      go_wp2_with fail
      refine (sortI_any wr w.heap.size g cap zs HI.out.2.row (by omega)).mono ?_
      rintro r1 w1 ⟨rfl, hO, hG1⟩
      have HO : Hid _ := And.intro hO hG1
      clear hO hG1
      go_wp2_with fail
      go_ret
      exact ⟨_, _, rfl, HO.out.1, HI.out.1.fin (sort_perm zs) (sort_rise zs), HI.out.2.bl.grown HO.out.2 HI.out.2.bl.size (fun k hk => by have := Option.some.inj hk; omega)⟩
end Go.Proofs.YthnenpncajpibaaGreatDoor
