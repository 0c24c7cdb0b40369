/- Texts of this claim, joined: TsAl, TsLawB, TsDF, TsLawI, TsDCy0, TsDCy1, TsDFr, TsDCyc, TsAgain, TsDCol. -/
import Derived.Test.YtplofbabfkkimaaGreatDoorPart11
import Derived.Test.YtplofbabfkkimaaGreatDoorPart9
import Derived.Deep.AppendLies
import Derived.Test.YtplofbabfkkimaaGreatDoorPart0
import Derived.Deep.RegionHeld3
import Derived.Test.YtplofbabfkkimaaGreatDoorPart7
import Derived.Test.YtplofbabfkkimaaGreatDoorPart5
import Derived.Deep.DeepCutAuto
/- Contract of the law's alive of chapter 11: first calls whose answers the document fixes. -/
namespace Go.Proofs.YtplofbabfkkimaaGreatDoor.Ts
open Go.RowKit Go.Maps
attribute [local go_sem ↓] Go.wp_at_zero Go.wp_at_succ
def es4 : List Sy.Ed := [(0, 0, 1), (1, 0, 0), (1, 1, 2), (2, 0, 3)]
theorem es4_right : Sy.right ((4 : Nat) : Int) 2 0 es4 = true := by decide
theorem es4_sil : sil 4 es4 0 = [1] ∧ sil 4 es4 1 = [0] ∧ sil 4 es4 2 = [3] ∧ sil 4 es4 3 = [] := by decide
theorem cl4 {cl : List Nat} (h : Cl 4 es4 cl) : cl = [0, 0, 1, 2] := by
 obtain ⟨s0, s1, s2, s3⟩ := es4_sil
 obtain ⟨hl, hf, hi⟩ := h
 obtain ⟨a, b, c, d, rfl⟩ : ∃ a b c d, cl = [a, b, c, d] := by
  match cl, hl with
  | [a, b, c, d], _ => exact ⟨a, b, c, d, rfl⟩
 have h01 := (hi 0 1 (by omega) (by omega)).2 ⟨Rt.one (by rw [s0]; simp), Rt.one (by rw [s1]; simp)⟩
 have h20 : c ≠ a := fun e => by
  have h2 := ((hi 2 0 (by omega) (by omega)).1 (by simp [e])).1
  have h3 := h2.stay (P := fun v => v = 2 ∨ v = 3) (fun v hv t ht => by
   rcases hv with rfl | rfl
   ·rw [s2] at ht; exact .inr (by simpa using ht)
   ·rw [s3] at ht; cases ht) (.inl rfl)
  omega
 have h30 : d ≠ a := fun e => by
  have h2 := ((hi 3 0 (by omega) (by omega)).1 (by simp [e])).1
  have h3 := h2.stay (P := fun v => v = 3) (fun v hv t ht => by
   subst hv
   rw [s3] at ht; cases ht) rfl
  omega
 have h32 : d ≠ c := fun e => by
  have h2 := ((hi 3 2 (by omega) (by omega)).1 (by simp [e])).1
  have h3 := h2.stay (P := fun v => v = 3) (fun v hv t ht => by
   subst hv
   rw [s3] at ht; cases ht) rfl
  omega
 have hab : a = b := by simpa using h01
 subst hab
 have e1 : ¬ (a : Int) = c := fun e => h20 (by omega)
 have e2 : ¬ (a : Int) = d := fun e => h30 (by omega)
 have e3 : ¬ (c : Int) = d := fun e => h32 (by omega)
 simp [Sy.canon, Sy.canonG, natI, Sy.place, e1, e2, e3] at hf
 simp
 omega
def out4 : Nat → List Nat := sil (tog [0, 0, 1, 2]) (btw [0, 0, 1, 2] es4)
theorem tog4 : tog [0, 0, 1, 2] = 3 := by decide
theorem out4_at : out4 0 = [] ∧ out4 1 = [2] ∧ out4 2 = [] := by decide
theorem od4 {od : List Nat} (h : Grd (tog [0, 0, 1, 2]) out4 od) (hm : ∀ x, ¬ Rd (tog [0, 0, 1, 2]) out4 od x) : od.flatMap (memI [0, 0, 1, 2]) = [0, 1, 3, 2] := by
 obtain ⟨o0, o1, o2⟩ := out4_at
 rw [tog4] at h hm
 have hG : Grd 3 out4 [0, 2, 1] := by
  have g1 : Grd 3 out4 [0] := Grd.nil.snoc ⟨by omega, by simp, by rw [o0]; simp⟩ fun x hx => by omega
  have g2 : Grd 3 out4 [0, 2] := g1.snoc ⟨by omega, by simp, by rw [o2]; simp⟩ fun x hx hr => by
   obtain ⟨_, r2, r3⟩ := hr
   have h1 : x = 1 := by
    have : x ≠ 0 := fun e => r2 (by simp [e])
    omega
   subst h1
   rw [o1] at r3
   simp at r3
  exact g2.snoc ⟨by omega, by simp, by rw [o1]; simp⟩ fun x hx hr => by
   obtain ⟨_, r2, _⟩ := hr
   have h1 : x = 0 := by omega
   exact r2 (by simp [h1])
 have e := h.same hm hG fun x hr => by
  obtain ⟨r1, r2, _⟩ := hr
  have : x = 0 ∨ x = 1 ∨ x = 2 := by omega
  rcases this with e | e | e <;> exact r2 (by simp [e])
 rw [e]
 decide
theorem es4_has (w : World) : BEdges.Has (w.alloc (.cells #[.int .i64 0, .int .i64 0, .int .i64 1, .int .i64 1, .int .i64 0, .int .i64 0, .int .i64 1, .int .i64 1, .int .i64 2, .int .i64 2, .int .i64 0, .int .i64 3] 61)) (.slice (some ⟨w.heap.size, 0, none⟩) 4 4) es4 := by
 refine ⟨some ⟨w.heap.size, 0, none⟩, 4, rfl, fun j u hj => ⟨_, rfl, ?_⟩⟩
 rw [addz]
 refine cell0_of (heap_alloc_new w _) ?_
 rw [← Array.getElem?_toList]
 exact hj
theorem own_cell {w : World} {B : Nat} {v : Value} {zs : List Int} {j : Nat} {z : Int} (h : OwnI w B v zs) (hz : zs[j]? = some z) : ∃ g cap, v = .slice (some ⟨g, 0, none⟩) zs.length cap ∧ w.cell? ⟨g, j, none⟩ = some (.int .i64 z) := by
 obtain ⟨g, off, cap, e, _, hc, _⟩ := que_cell (Que.of_own h) hz
 have h0 := h.at0 _ _ _ _ e
 subst h0
 rw [Nat.zero_add] at hc
 exact ⟨g, cap, e, hc⟩
def PAl (w : World) : Prop := ∀ W, Below w.heap.size w W → Calls Tryz.prog 5 #[] W fun r w' => r = .returned (.bool true) ∧ Below W.heap.size W w'
set_option maxRecDepth 100000 in
set_option maxHeartbeats 4000000 in
theorem pAl (hS : SortOk 1000000) (a : Addr) (w : World) (hA0 : Sent w 13 a) : PAl w := fun W hb => by
 have hA := hA0.below hb
 clear hA0 hb
 obtain ⟨w1, hw1⟩ : ∃ w1, w1 = W.alloc (.cells #[.int .i64 0, .int .i64 0, .int .i64 1, .int .i64 1, .int .i64 0, .int .i64 0, .int .i64 1, .int .i64 1, .int .i64 2, .int .i64 2, .int .i64 0, .int .i64 3] 61) := ⟨_, rfl⟩
 have hb1 : Below W.heap.size W w1 := by rw [hw1]; exact (Below.refl _ _).alloc (Nat.le_refl _) _
 have hv := es4_has W
 rw [← hw1] at hv
 obtain ⟨w2, hw2⟩ : ∃ w2, w2 = w1.alloc (.cells #[.int .i64 4, .int .i64 2, .int .i64 0, .slice (some ⟨W.heap.size, 0, none⟩) 4 4] 24) := ⟨_, rfl⟩
 have hb2 : Below w1.heap.size w1 w2 := by rw [hw2]; exact (Below.refl _ _).alloc (Nat.le_refl _) _
 have hg2 : w2.heap[w1.heap.size]? = some (.cells #[.int .i64 4, .int .i64 2, .int .i64 0, .slice (some ⟨W.heap.size, 0, none⟩) 4 4] 24 (0, 0)) := by rw [hw2]; exact heap_alloc_new w1 _
 have hbW := hb1.trans (hb2.mono hb1.size)
 have hC := cycles_ok hS 4 2 0 (.slice (some ⟨W.heap.size, 0, none⟩) 4 4) es4 a w2 (hA.below hbW) (hv.below hb2) (by decide) (by decide) es4_right
 unfold sysV at hC
 have hsz : w1.heap.size = W.heap.size + 1 := by rw [hw1]; simp
 have H1 : Hid _ := And.intro hw2 (And.intro hw1 (And.intro hg2 (And.intro hC (And.intro hbW (And.intro hA (hv.below hb2))))))
 obtain ⟨x0, x1, x2, x3⟩ := four_cells hg2
 clear hw1 hb1 hv hw2 hb2 hg2 hbW hC hA
 go_enter Tryz.func5, Tryz.ntmps5
 go_upto_region 2 with fail
 rw [← H1.out.2.1, ← H1.out.1]
 rw [hsz] at x0 x1 x2 x3
 go_wp2_with fail
 refine Calls.mono H1.out.2.2.2.1 ?_
 rintro r w3 ⟨u3, cl, rfl, hCl, hO3, hb3⟩
 obtain rfl := cl4 hCl
 obtain ⟨g3, c3, hu3, d3⟩ := own_cell (j := 3) (z := 2) hO3 rfl
 have hu3' : u3 = .slice (some ⟨g3, 0, none⟩) 4 c3 := hu3
 clear hu3
 subst hu3'
 have hbW3 := H1.out.2.2.2.2.1.trans (hb3.mono H1.out.2.2.2.2.1.size)
 have hOr := order_ok hS 4 2 0 (.slice (some ⟨W.heap.size, 0, none⟩) 4 4) es4 a w3 (H1.out.2.2.2.2.2.1.below hbW3) (H1.out.2.2.2.2.2.2.below hb3) (by decide) (by decide) es4_right
 unfold sysV at hOr
 have hg3 := (hb3.block _ (t_lt H1.out.2.2.1)).trans H1.out.2.2.1
 rw [hsz] at hg3
 have H3 : Hid _ := And.intro hOr hbW3
 clear x0 x1 x2 x3 hO3 hb3 hbW3 hOr hCl
 obtain ⟨x0, x1, x2, x3⟩ := four_cells hg3
 clear hg3
 go_wp2_with fail
 refine Calls.mono H3.out.1 ?_
 rintro r w4 ⟨u4, cl, od, rfl, hCl, hGr, hNo, hO4, hb4⟩
 obtain rfl := cl4 hCl
 rw [od4 hGr hNo] at hO4
 obtain ⟨g4, c4, hu4, d4⟩ := own_cell (j := 2) (z := 3) hO4 rfl
 have hu4' : u4 = .slice (some ⟨g4, 0, none⟩) 4 c4 := hu4
 clear hu4
 subst hu4'
 have d3' := cell_up d3 hb4
 have H4 : Hid _ := H3.out.2.trans (hb4.mono H3.out.2.size)
 clear hO4 hb4 x0 x1 x2 x3 hCl hGr hNo d3
 go_wp2_with fail
 go_ret
 exact ⟨rfl, H4.out⟩
end Go.Proofs.YtplofbabfkkimaaGreatDoor.Ts
/- tauscc: lists of bools by a function. -/
namespace Go.Proofs.YtplofbabfkkimaaGreatDoor.Ts
open Go.RowKit Go.Maps
def bl (M : Nat) (u : Nat → Bool) : List Value := (List.range M).map fun p => .bool (u p)
theorem bl_at {M : Nat} (u : Nat → Bool) {p : Nat} (h : p < M) : (bl M u)[p]? = some (.bool (u p)) := by simp [bl, h]
theorem bl_len (M : Nat) (u : Nat → Bool) : (bl M u).length = M := by simp [bl]
theorem bl_set (M : Nat) (u : Nat → Bool) (p : Nat) (x : Bool) : (bl M u).set p (.bool x) = bl M fun j => if j = p then x else u j := by
 apply List.ext_getElem?
 intro j
 by_cases hj : j < M
 ·by_cases e : p = j
  ·subst e
   rw [List.getElem?_set_self (by rw [bl_len]; exact hj), bl_at _ hj, if_pos rfl]
  ·rw [List.getElem?_set_ne e, bl_at _ hj, bl_at _ hj, if_neg fun e2 => e e2.symm]
 ·rw [List.getElem?_eq_none (by rw [List.length_set, bl_len]; omega), List.getElem?_eq_none (by rw [bl_len]; omega)]
theorem bl_congr {M : Nat} {u v : Nat → Bool} (h : ∀ p, p < M → u p = v p) : bl M u = bl M v := List.map_congr_left fun p hp => by rw [h p (List.mem_range.1 hp)]
theorem bl_false (M : Nat) : List.replicate M (Value.bool false) = bl M fun _ => false := by
 apply List.ext_getElem?
 intro j
 by_cases hj : j < M
 ·rw [bl_at _ hj, List.getElem?_replicate, if_pos hj]
 ·rw [List.getElem?_eq_none (by simp; omega), List.getElem?_eq_none (by rw [bl_len]; omega)]
end Go.Proofs.YtplofbabfkkimaaGreatDoor.Ts
/- tauscc: the document's From: the states that silent steps lead to. -/
namespace Go.Proofs.YtplofbabfkkimaaGreatDoor.Ts
open Go.RowKit Go.Maps
attribute [local go_sem ↓] Go.wp_at_zero Go.wp_at_succ
structure Fr (n : Nat) (out : Nat → List Nat) (p : Nat) (l : List Nat) (i : Nat) : Prop where
 nd : l.Nodup
 sub : ∀ x ∈ l, x < n ∧ Rt out p x
 me : p ∈ l
 le : i ≤ l.length
 cl : ∀ (j x : Nat), j < i → l[j]? = some x → ∀ y ∈ out x, y ∈ l
theorem Fr.new {n : Nat} {out : Nat → List Nat} {p : Nat} (hp : p < n) : Fr n out p [p] 0 :=
 ⟨List.nodup_cons.2 ⟨by simp, .nil⟩, fun x hx => by rw [List.mem_singleton.1 hx]; exact ⟨hp, Rt.refl p⟩, List.mem_singleton.2 rfl, Nat.zero_le _, fun j x hj => absurd hj (Nat.not_lt_zero j)⟩
theorem Fr.grow {n : Nat} {out : Nat → List Nat} {p i y : Nat} {l : List Nat} (h : Fr n out p l i) (hy : y < n) (hR : Rt out p y) (hn : y ∉ l) : Fr n out p (l ++ [y]) i := by
 refine ⟨List.nodup_append.2 ⟨h.nd, List.nodup_cons.2 ⟨by simp, .nil⟩, fun a ha b hb e => ?_⟩, fun x hx => ?_, List.mem_append_left _ h.me, by rw [List.length_append]; exact Nat.le_trans h.le (Nat.le_add_right _ _), fun j x hj hx z hz => ?_⟩
 ·rw [List.mem_singleton.1 hb] at e
  rw [e] at ha
  exact hn ha
 ·rcases List.mem_append.1 hx with hx | hx
  ·exact h.sub x hx
  ·rw [List.mem_singleton.1 hx]; exact ⟨hy, hR⟩
 ·rw [List.getElem?_append_left (Nat.lt_of_lt_of_le hj h.le)] at hx
  exact List.mem_append_left _ (h.cl j x hj hx z hz)
theorem Fr.len {n : Nat} {out : Nat → List Nat} {p i : Nat} {l : List Nat} (h : Fr n out p l i) : l.length ≤ n := by
 have h3 := nodup_sub l (List.range n) h.nd fun x hx => List.mem_range.2 (h.sub x hx).1
 rwa [List.length_range] at h3
theorem Fr.next {n : Nat} {out : Nat → List Nat} {p i x : Nat} {l : List Nat} (h : Fr n out p l i) (hx : l[i]? = some x) (hall : ∀ y ∈ out x, y ∈ l) : Fr n out p l (i + 1) :=
 ⟨h.nd, h.sub, h.me, (List.getElem?_eq_some_iff.1 hx).1, fun j z hj hz => by
  by_cases e : j = i
  ·subst e
   rw [hx] at hz
   cases hz
   exact hall
  ·exact h.cl j z (by omega) hz⟩
theorem Fr.done {n : Nat} {out : Nat → List Nat} {p : Nat} {l : List Nat} (h : Fr n out p l l.length) (x : Nat) : x ∈ l ↔ Rt out p x :=
 ⟨fun hx => (h.sub x hx).2, fun hR => hR.stay (P := fun v => v ∈ l) (fun v hv t ht => by
  obtain ⟨j, hj⟩ := List.mem_iff_getElem?.1 hv
  exact h.cl j v (List.getElem?_eq_some_iff.1 hj).1 hj t ht) h.me⟩
def silF (f : Nat → List BSteps.El) (q : Nat) : List Nat := (Sy.ends (f q) 0).map Int.toNat
theorem silF_mem {f : Nat → List BSteps.El} {q y : Nat} (h0 : ∀ e ∈ f q, 0 ≤ e.2) : y ∈ silF f q ↔ ((0 : Int), (y : Int)) ∈ f q := by
 unfold silF
 rw [List.mem_map]
 constructor
 ·rintro ⟨z, hz, rfl⟩
  have h1 := ends_in.1 hz
  have h2 := h0 _ h1
  simp only at h2
  rw [Int.toNat_of_nonneg h2]
  exact h1
 ·intro h
  exact ⟨(y : Int), ends_in.2 h, by simp⟩
theorem zero_first {row : List BSteps.El} (hr : row.Pairwise fun x y => x.1 ≤ y.1) (h0 : ∀ e ∈ row, 0 ≤ e.1) {k : Nat} (hk : ∀ e, row[k]? = some e → e.1 ≠ 0) {y : Int} (hy : ((0 : Int), y) ∈ row) : ∃ j, j < k ∧ row[j]? = some (0, y) := by
 obtain ⟨j, hj⟩ := List.mem_iff_getElem?.1 hy
 refine ⟨j, ?_, hj⟩
 rcases Nat.lt_or_ge j k with h | h
 ·exact h
 ·exfalso
  have hjl := (List.getElem?_eq_some_iff.1 hj).1
  have hkl : k < row.length := by omega
  have h1 := hk _ (List.getElem?_eq_getElem hkl)
  have h2 := h0 _ (List.getElem_mem hkl)
  rcases Nat.eq_or_lt_of_le h with e | h
  ·subst e
   rw [List.getElem?_eq_getElem hkl] at hj
   rw [Option.some.inj hj] at h1
   exact h1 rfl
  ·have h3 := List.pairwise_iff_getElem.1 hr k j hkl hjl h
   rw [(List.getElem?_eq_some_iff.1 hj).2] at h3
   simp only at h3
   omega
open Classical in
noncomputable def rtB (out : Nat → List Nat) (p x : Nat) : Bool := decide (Rt out p x)
theorem rtB_iff {out : Nat → List Nat} {p x : Nat} : rtB out p x = true ↔ Rt out p x := by unfold rtB; simp
theorem fr_set {n : Nat} (l : List Nat) (y : Nat) : (bl n fun x => decide (x ∈ l)).set y (.bool true) = bl n fun x => decide (x ∈ l ++ [y]) := by
 rw [bl_set]
 refine bl_congr fun x _ => ?_
 by_cases e : x = y
 ·subst e; simp
 ·simp [e]
def RowsAt (w : World) (g n : Nat) (f : Nat → List BSteps.El) : Prop := ∀ q, q < n → ∃ u, w.cell? ⟨g, q, none⟩ = some u ∧ BSteps.Has w u (f q)
theorem RowsAt.below {w w' : World} {g n : Nat} {f : Nat → List BSteps.El} (h : RowsAt w g n f) (hb : Below w.heap.size w w') : RowsAt w' g n f := fun q hq => by
 obtain ⟨u, h1, h2⟩ := h q hq
 exact ⟨u, cell_up h1 hb, h2.below hb⟩
theorem rowsAt_of {w w' : World} {B g n : Nat} {us : List Value} {f : Nat → List BSteps.El} (hA : Arr 84 w w' g us) (hO : Outs w' B us n f) : RowsAt w' g n f := fun q hq => by
 obtain ⟨u, h1, h2⟩ := hO.row q hq
 exact ⟨u, hA.cell h1, h2.has⟩
structure RowsOk (n : Nat) (f : Nat → List BSteps.El) : Prop where
 rise : ∀ q, (f q).Pairwise fun x y => x.1 ≤ y.1
 lab : ∀ q, ∀ e ∈ f q, 0 ≤ e.1
 tgt : ∀ q, ∀ e ∈ f q, 0 ≤ e.2 ∧ e.2 < (n : Int)
 len : ∀ q, (f q).length ≤ 100000
end Go.Proofs.YtplofbabfkkimaaGreatDoor.Ts
/- tauscc: lists of numbers by a function. -/
namespace Go.Proofs.YtplofbabfkkimaaGreatDoor.Ts
open Go.RowKit Go.Maps
def il (M : Nat) (u : Nat → Int) : List Value := (List.range M).map fun p => .int .i64 (u p)
theorem il_at {M : Nat} (u : Nat → Int) {p : Nat} (h : p < M) : (il M u)[p]? = some (.int .i64 (u p)) := by simp [il, h]
theorem il_len (M : Nat) (u : Nat → Int) : (il M u).length = M := by simp [il]
theorem il_set (M : Nat) (u : Nat → Int) (p : Nat) (x : Int) : (il M u).set p (.int .i64 x) = il M fun j => if j = p then x else u j := by
 apply List.ext_getElem?
 intro j
 by_cases hj : j < M
 ·by_cases e : p = j
  ·subst e
   rw [List.getElem?_set_self (by rw [il_len]; exact hj), il_at _ hj, if_pos rfl]
  ·rw [List.getElem?_set_ne e, il_at _ hj, il_at _ hj, if_neg fun e2 => e e2.symm]
 ·rw [List.getElem?_eq_none (by rw [List.length_set, il_len]; omega), List.getElem?_eq_none (by rw [il_len]; omega)]
theorem il_congr {M : Nat} {u v : Nat → Int} (h : ∀ p, p < M → u p = v p) : il M u = il M v := List.map_congr_left fun p hp => by rw [h p (List.mem_range.1 hp)]
theorem il_zero (M : Nat) : List.replicate M (Value.int .i64 0) = il M fun _ => 0 := by
 apply List.ext_getElem?
 intro j
 by_cases hj : j < M
 ·rw [il_at _ hj, List.getElem?_replicate, if_pos hj]
 ·rw [List.getElem?_eq_none (by simp; omega), List.getElem?_eq_none (by rw [il_len]; omega)]
theorem bel13 {w W w8 : World} (hb : Below W.heap.size W w8) (h : Below w.heap.size w W) : Below w.heap.size w w8 := h.trans (hb.mono h.size)
end Go.Proofs.YtplofbabfkkimaaGreatDoor.Ts
/- tauscc: the document's Cycles: plain facts. -/
namespace Go.Proofs.YtplofbabfkkimaaGreatDoor.Ts
def Tg (out : Nat → List Nat) (j k : Nat) : Prop := Rt out j k ∧ Rt out k j
theorem Tg.refl (out : Nat → List Nat) (k : Nat) : Tg out k k := ⟨Rt.refl k, Rt.refl k⟩
theorem Tg.symm {out : Nat → List Nat} {j k : Nat} (h : Tg out j k) : Tg out k j := ⟨h.2, h.1⟩
theorem Tg.trans {out : Nat → List Nat} {a b c : Nat} (h : Tg out a b) (k : Tg out b c) : Tg out a c := ⟨h.1.trans k.1, k.2.trans h.2⟩
def cntF : Nat → List Int → Nat
 | n, [] => n
 | n, c :: r => cntF (if c = (n : Int) then n + 1 else n) r
theorem formG_snoc (l : List Int) (c : Int) : ∀ m, Sy.formG m (l ++ [c]) = (Sy.formG m l && decide (0 ≤ c ∧ c ≤ (cntF m l : Int))) := by
 induction l with
 | nil => intro m; rw [Bool.eq_iff_iff]; simp only [List.nil_append, Sy.formG, cntF, Bool.and_true, Bool.true_and, decide_eq_true_iff]; exact ⟨fun h => decide_eq_true h, fun h => of_decide_eq_true h⟩
 | cons a r ih => intro m; simp only [List.cons_append, Sy.formG, cntF]; rw [ih, Bool.and_assoc]; rfl
theorem cntF_snoc (l : List Int) (c : Int) : ∀ m, cntF m (l ++ [c]) = if c = (cntF m l : Int) then cntF m l + 1 else cntF m l := by
 induction l with
 | nil => intro m; simp only [List.nil_append, cntF]; rfl
 | cons a r ih => intro m; simp only [List.cons_append, cntF]; rw [ih]; rfl
structure Cg (n : Nat) (out : Nat → List Nat) (i c : Nat) (A : Nat → Int) : Prop where
 lo : ∀ k, k < n → A k = -1 ∨ (0 ≤ A k ∧ A k < (c : Int))
 som : ∀ k, k < n → (0 ≤ A k ↔ ∃ j, j < i ∧ Tg out j k)
 iff : ∀ k k', k < n → k' < n → 0 ≤ A k → 0 ≤ A k' → (A k = A k' ↔ Tg out k k')
 form : Sy.formG 0 ((List.range i).map A) = true
 cnt : cntF 0 ((List.range i).map A) = c
theorem Cg.new (n : Nat) (out : Nat → List Nat) : Cg n out 0 0 fun _ => -1 :=
 ⟨fun _ _ => .inl rfl, fun k _ => ⟨fun h => absurd h (by omega), fun ⟨j, hj, _⟩ => absurd hj (Nat.not_lt_zero j)⟩, fun _ _ _ _ h => absurd h (by omega), rfl, rfl⟩
theorem Cg.skip {n i c : Nat} {out : Nat → List Nat} {A : Nat → Int} (h : Cg n out i c A) (hi : i < n) (h0 : 0 ≤ A i) : Cg n out (i + 1) c A := by
 have h1 : A i < (c : Int) := by rcases h.lo i hi with e | e; · omega; (· exact e.2)
 refine ⟨h.lo, fun k hk => ?_, h.iff, ?_, ?_⟩
 ·rw [h.som k hk]
  constructor
  ·rintro ⟨j, hj, hT⟩; exact ⟨j, by omega, hT⟩
  ·rintro ⟨j, hj, hT⟩
   by_cases e : j = i
   ·subst e
    obtain ⟨j', hj', hT'⟩ := (h.som j hi).1 h0
    exact ⟨j', hj', hT'.trans hT⟩
   ·exact ⟨j, by omega, hT⟩
 ·rw [List.range_succ, List.map_append, List.map_singleton, formG_snoc, h.form, h.cnt]
  simp
  omega
 ·rw [List.range_succ, List.map_append, List.map_singleton, cntF_snoc, h.cnt, if_neg (by omega)]
open Classical in
noncomputable def clsT (out : Nat → List Nat) (i c : Nat) (A : Nat → Int) (k0 k : Nat) : Int := if k < k0 ∧ Tg out i k then (c : Int) else A k
theorem Cg.more {n i c : Nat} {out : Nat → List Nat} {A : Nat → Int} (h : Cg n out i c A) (hi : i < n) (h0 : A i < 0) : Cg n out (i + 1) (c + 1) (clsT out i c A n) := by
 have hno : ∀ k, k < n → Tg out i k → ¬ 0 ≤ A k := fun k hk hT h1 => by
  obtain ⟨j, hj, hT'⟩ := (h.som k hk).1 h1
  have := (h.som i hi).2 ⟨j, hj, hT'.trans hT.symm⟩
  omega
 have hT : ∀ k, k < n → Tg out i k → clsT out i c A n k = c := fun k hk h1 => by unfold clsT; rw [if_pos ⟨hk, h1⟩]
 have hF : ∀ k, ¬ Tg out i k → clsT out i c A n k = A k := fun k h1 => by unfold clsT; rw [if_neg fun h2 => h1 h2.2]
 have hmap : (List.range i).map (clsT out i c A n) = (List.range i).map A := List.map_congr_left fun k hk => by
  have hki := List.mem_range.1 hk
  refine hF k fun h1 => ?_
  have := (h.som i hi).2 ⟨k, hki, h1.symm⟩
  omega
 refine ⟨fun k hk => ?_, fun k hk => ?_, fun k k' hk hk' h1 h2 => ?_, ?_, ?_⟩
 ·by_cases ht : Tg out i k
  ·rw [hT k hk ht]; omega
  ·rw [hF k ht]; have := h.lo k hk; omega
 ·by_cases ht : Tg out i k
  ·rw [hT k hk ht]
   exact ⟨fun _ => ⟨i, by omega, ht⟩, fun _ => by omega⟩
  ·rw [hF k ht, h.som k hk]
   constructor
   ·rintro ⟨j, hj, hj2⟩; exact ⟨j, by omega, hj2⟩
   ·rintro ⟨j, hj, hj2⟩
    by_cases e : j = i
    ·subst e; exact absurd hj2 ht
    ·exact ⟨j, by omega, hj2⟩
 ·by_cases ht : Tg out i k
  ·by_cases ht' : Tg out i k'
   ·rw [hT k hk ht, hT k' hk' ht']
    exact ⟨fun _ => ht.symm.trans ht', fun _ => rfl⟩
   ·rw [hT k hk ht, hF k' ht']
    rw [hF k' ht'] at h2
    have := h.lo k' hk'
    exact ⟨fun e => by omega, fun hkk => absurd (ht.trans hkk) ht'⟩
  ·by_cases ht' : Tg out i k'
   ·rw [hF k ht, hT k' hk' ht']
    rw [hF k ht] at h1
    have := h.lo k hk
    exact ⟨fun e => by omega, fun hkk => absurd (ht'.trans hkk.symm) ht⟩
   ·rw [hF k ht, hF k' ht']
    rw [hF k ht] at h1
    rw [hF k' ht'] at h2
    exact h.iff k k' hk hk' h1 h2
 ·rw [List.range_succ, List.map_append, List.map_singleton, hmap, formG_snoc, h.form, h.cnt, hT i hi (Tg.refl out i)]
  simp
 ·rw [List.range_succ, List.map_append, List.map_singleton, hmap, cntF_snoc, h.cnt, hT i hi (Tg.refl out i), if_pos rfl]
theorem clsT_zero (out : Nat → List Nat) (i c : Nat) (A : Nat → Int) (k : Nat) : clsT out i c A 0 k = A k := by unfold clsT; rw [if_neg (by omega)]
theorem clsT_hit {out : Nat → List Nat} {i c k0 : Nat} {A : Nat → Int} (h : Tg out i k0) (k : Nat) : (if k = k0 then (c : Int) else clsT out i c A k0 k) = clsT out i c A (k0 + 1) k := by
 unfold clsT
 by_cases e : k = k0
 ·subst e; rw [if_pos rfl, if_pos ⟨by omega, h⟩]
 ·rw [if_neg e]
  by_cases h1 : k < k0 ∧ Tg out i k
  ·rw [if_pos h1, if_pos ⟨by omega, h1.2⟩]
  ·rw [if_neg h1, if_neg fun h2 => h1 ⟨by omega, h2.2⟩]
theorem clsT_miss {out : Nat → List Nat} {i c k0 : Nat} {A : Nat → Int} (h : ¬ Tg out i k0) (k : Nat) : clsT out i c A k0 k = clsT out i c A (k0 + 1) k := by
 unfold clsT
 by_cases e : k = k0
 ·subst e; rw [if_neg (by omega), if_neg fun h2 => h h2.2]
 ·by_cases h1 : k < k0 ∧ Tg out i k
  ·rw [if_pos h1, if_pos ⟨by omega, h1.2⟩]
  ·rw [if_neg h1, if_neg fun h2 => h1 ⟨by omega, h2.2⟩]
end Go.Proofs.YtplofbabfkkimaaGreatDoor.Ts
/- tauscc: the document's Cycles are the classes: plain facts. -/
namespace Go.Proofs.YtplofbabfkkimaaGreatDoor.Ts
theorem natI_inj {a b : List Nat} (h : natI a = natI b) : a = b := by
 unfold natI at h
 exact (List.map_inj_right fun x y e => Int.ofNat.inj e).1 h
theorem Cg.pos {n c : Nat} {out : Nat → List Nat} {A : Nat → Int} (h : Cg n out n c A) {k : Nat} (hk : k < n) : 0 ≤ A k := (h.som k hk).2 ⟨k, hk, Tg.refl out k⟩
theorem Cg.cl {n c : Nat} {es : List Sy.Ed} {A : Nat → Int} (h : Cg n (sil n es) n c A) : natI ((List.range n).map fun k => (A k).toNat) = (List.range n).map A ∧ Cl n es ((List.range n).map fun k => (A k).toNat) := by
 have e1 : natI ((List.range n).map fun k => (A k).toNat) = (List.range n).map A := by
  unfold natI
  rw [List.map_map]
  exact List.map_congr_left fun k hk => Int.toNat_of_nonneg (h.pos (List.mem_range.1 hk))
 refine ⟨e1, by simp, ?_, fun u v hu hv => ?_⟩
 ·have h1 := h.form
  rw [Sy.formG_iff] at h1
  have h2 : (List.range n).map A = natI (Sy.canon ((List.range n).map A)) := by simpa using h1
  rw [e1]
  refine natI_inj ?_
  rw [← h2, e1]
 ·have gu : ((List.range n).map fun k => (A k).toNat)[u]? = some (A u).toNat := by simp [hu]
  have gv : ((List.range n).map fun k => (A k).toNat)[v]? = some (A v).toNat := by simp [hv]
  rw [gu, gv, Option.some.injEq]
  have p1 := h.pos hu
  have p2 := h.pos hv
  have h3 := h.iff u v hu hv p1 p2
  constructor
  ·intro e; exact h3.1 (by omega)
  ·intro e; rw [h3.2 e]
theorem Cl.same {n : Nat} {es : List Sy.Ed} {a b : List Nat} (ha : Cl n es a) (hb : Cl n es b) : a = b := by
 have hl : (natI a).length = (natI b).length := by simp [natI, ha.len, hb.len]
 have h1 : Sy.canon (natI a) = Sy.canon (natI b) := (Sy.canon_iff hl).2 fun i k x y u v hx hy hu hv => by
  simp only [natI, List.getElem?_map, Option.map_eq_some_iff] at hx hy hu hv
  obtain ⟨x, hx, rfl⟩ := hx
  obtain ⟨y, hy, rfl⟩ := hy
  obtain ⟨u, hu, rfl⟩ := hu
  obtain ⟨v, hv, rfl⟩ := hv
  have hi : i < n := by rw [← ha.len]; exact (List.getElem?_eq_some_iff.1 hx).1
  have hk : k < n := by rw [← ha.len]; exact (List.getElem?_eq_some_iff.1 hy).1
  have g1 := ha.iff i k hi hk
  have g2 := hb.iff i k hi hk
  rw [hx, hy, Option.some.injEq] at g1
  rw [hu, hv, Option.some.injEq] at g2
  have g3 := g1.trans g2.symm
  constructor
  ·intro e; rw [g3.1 (Int.ofNat.inj e)]
  ·intro e; rw [g3.2 (Int.ofNat.inj e)]
 rw [ha.form, hb.form] at h1
 exact h1
theorem Rt.rev {o1 o2 : Nat → List Nat} (h : ∀ x y, y ∈ o1 x → x ∈ o2 y) {a b : Nat} (hR : Rt o1 a b) : Rt o2 b a := by
 induction hR with
 | refl => exact Rt.refl _
 | step _ hw ih => exact (Rt.one (h _ _ hw)).trans ih
theorem steps_rise {l : List Sy.Ed} (h : Sy.Str l) (i : Int) : (Sy.steps l i).Pairwise fun x y => x.1 ≤ y.1 := by
 unfold Sy.steps
 rw [List.pairwise_map]
 refine (((Sy.str_pair h).filter _).imp_of_mem ?_)
 intro a b ha hb hl
 have h1 : a.1 = i := by simpa using (List.mem_filter.1 ha).2
 have h2 : b.1 = i := by simpa using (List.mem_filter.1 hb).2
 rw [Sy.lt_iff] at hl
 show a.2.1 ≤ b.2.1
 omega
theorem steps_len (l : List Sy.Ed) (i : Int) : (Sy.steps l i).length ≤ l.length := by
 unfold Sy.steps
 rw [List.length_map]
 exact List.length_filter_le _ _
theorem rowsOk_of {n : Nat} {L : List Sy.Ed} (hl : L.length ≤ 100000) (h : ∀ e ∈ L, 0 ≤ e.2.2 ∧ e.2.2 < (n : Int) ∧ 0 ≤ e.2.1) : RowsOk n fun i => Sy.steps (Sy.nf L) i :=
 ⟨fun q => steps_rise (Sy.nf_str _) _, fun q e he => (h _ ((Sy.nf_mem _ _).1 (Sy.steps_mem.1 he))).2.2, fun q e he => by
  have h1 := h _ ((Sy.nf_mem _ _).1 (Sy.steps_mem.1 he))
  exact ⟨h1.1, h1.2.1⟩, fun q => Nat.le_trans (steps_len _ _) (Nat.le_trans (Sy.nf_len L) hl)⟩
theorem silF_sil {n : Nat} {k s : Int} {es : List Sy.Ed} (hr : Sy.right n k s es = true) : silF (fun i => Sy.steps (Sy.nf es) i) = sil n es := by
 funext q
 unfold silF sil
 by_cases hq : q < n
 ·congr 2
  unfold Sy.rowOf
  rw [if_pos ⟨Int.natCast_nonneg q, by omega⟩]
 ·have h1 : Sy.rowOf n (Sy.nf es) (q : Int) = [] := by unfold Sy.rowOf; rw [if_neg (by omega)]
  have h2 : Sy.steps (Sy.nf es) (q : Int) = [] := by
   rw [List.eq_nil_iff_forall_not_mem]
   rintro ⟨a, b⟩ hz
   have h3 := (right_parts hr).2.2.2.2.2 _ ((Sy.nf_mem _ _).1 (Sy.steps_mem.1 hz))
   simp only at h3
   omega
  simp only
  rw [h1, h2]
theorem turn_mem2 {es : List Sy.Ed} {a b c : Int} : (a, b, c) ∈ es.map Sy.turn ↔ (c, b, a) ∈ es := by
 rw [List.mem_map]
 constructor
 ·rintro ⟨⟨x, y, z⟩, he, h⟩
  simp only [Sy.turn, Prod.mk.injEq] at h
  obtain ⟨rfl, rfl, rfl⟩ := h
  exact he
 ·intro h; exact ⟨_, h, rfl⟩
theorem silF_turn {n : Nat} {k s : Int} {es : List Sy.Ed} (hr : Sy.right n k s es = true) (x y : Nat) : y ∈ silF (fun i => Sy.steps (Sy.nf (es.map Sy.turn)) i) x ↔ x ∈ sil n es y := by
 rw [← silF_sil hr, silF_mem fun e he => ?_, silF_mem fun e he => ?_, Sy.steps_mem, Sy.steps_mem, Sy.nf_mem, Sy.nf_mem, turn_mem2]
 ·exact ((right_parts hr).2.2.2.2.2 _ ((Sy.nf_mem _ _).1 (Sy.steps_mem.1 he))).2.2.1
 ·have h1 := (Sy.nf_mem _ _).1 (Sy.steps_mem.1 he)
  rw [turn_mem2] at h1
  exact ((right_parts hr).2.2.2.2.2 _ h1).1
theorem both_iff {n : Nat} {k s : Int} {es : List Sy.Ed} (hr : Sy.right n k s es = true) (i j : Nat) : (rtB (silF fun i => Sy.steps (Sy.nf es) i) i j = true ∧ rtB (silF fun i => Sy.steps (Sy.nf (es.map Sy.turn)) i) i j = true) ↔ Tg (sil n es) i j := by
 rw [rtB_iff, rtB_iff, silF_sil hr]
 unfold Tg
 have h1 : Rt (silF fun i => Sy.steps (Sy.nf (es.map Sy.turn)) i) i j ↔ Rt (sil n es) j i :=
  ⟨fun h => h.rev fun x y hxy => (silF_turn hr x y).1 hxy, fun h => h.rev fun x y hxy => (silF_turn hr y x).2 hxy⟩
 rw [h1]
end Go.Proofs.YtplofbabfkkimaaGreatDoor.Ts
/- tauscc: the contract of the document's From. -/
namespace Go.Proofs.YtplofbabfkkimaaGreatDoor.Ts
open Go.RowKit Go.Maps
attribute [local go_sem ↓] Go.wp_at_zero Go.wp_at_succ
structure FrM (w wx : World) (gi n : Nat) (v : Value) (l : List Nat) : Prop where
 arr : Arr 4 w wx gi (bl n fun x => decide (x ∈ l))
 lst : OwnI wx w.heap.size v (cast l)
theorem FrM.put {w wx w4 : World} {gi n N y g4 k4 cu : Nat} {au : Option Addr} {l : List Nat} (h : FrM w wx gi n (.slice au N cu) l) (hN : N = l.length) (hk : Kept (fun b => (Value.slice au N cu).ownBlock = some b) (wx.setCell ⟨gi, y, none⟩ (.bool true)) w4) (hown : w4.ownsRow w.heap.size 3 1 (.slice (some ⟨g4, 0, none⟩) (N + 1) k4) (N + 1) (iC (cast l) ++ [.int .i64 y])) : FrM w w4 gi n (.slice (some ⟨g4, 0, none⟩) (N + 1) k4) (l ++ [y]) := by
 obtain ⟨cs, hc, _⟩ := h.arr.ids
 have hne : ∀ b, (Value.slice au N cu).ownBlock = some b → w.heap.size ≤ b ∧ b ≠ gi := fun b hb => ⟨(h.lst.lt b hb).1, fun e => own_bk h.lst hc (by decide) (by rw [← e]; exact hb)⟩
 refine ⟨?_, ?_⟩
 ·have h1 := (h.arr.set y (.bool true)).kept hk hne
  rw [fr_set] at h1
  exact h1
 ·unfold OwnI
  rw [cast_length, List.length_append, List.length_singleton, ← hN, cast_snoc, show iC (cast l ++ [(y : Int)]) = iC (cast l) ++ [.int .i64 y] by simp [iC]]
  exact hown
theorem arr_of_alloc (w : World) (z : Int) : Arr 3 w (w.alloc (.cells #[.int .i64 z] 3)) w.heap.size [.int .i64 z] := ⟨(Below.refl _ _).alloc (Nat.le_refl _) _, ⟨_, heap_alloc_new w _, rfl⟩, Nat.le_refl _⟩
theorem fr_all {f : Nat → List BSteps.El} {n x k : Nat} {l : List Nat} (hF : RowsOk n f) (hk : ∀ e, (f x)[k]? = some e → e.1 ≠ 0) (hall : ∀ (j : Nat) (e : BSteps.El), j < k → (f x)[j]? = some e → e.1 = 0 ∧ e.2.toNat ∈ l) : ∀ y ∈ silF f x, y ∈ l := fun y hy => by
 obtain ⟨j, hj, he⟩ := zero_first (hF.rise x) (hF.lab x) hk ((silF_mem fun e he => (hF.tgt x e he).1).1 hy)
 have h1 := (hall j _ hj he).2
 simpa using h1
set_option linter.unusedSimpArgs false in
set_option maxRecDepth 100000 in
set_option maxHeartbeats 8000000 in
theorem docFrom_any (n p g : Nat) (f : Nat → List BSteps.El) (w : World) (hn : n ≤ 1000) (hp : p < n) (hR : RowsAt w g n f) (hF : RowsOk n f) :
 Calls Tryz.prog 102 #[.slice (some ⟨g, 0, none⟩) n n, .int .i64 p] w fun e w' => ∃ gi, e = .returned (.slice (some ⟨gi, 0, none⟩) n n) ∧ Arr 4 w w' gi (bl n (rtB (silF f) p)) := by
 obtain ⟨i0, hi0, hz0, hz1, hz2⟩ := info_parts Tryz.infoI4
 have hmk := makeB n (by omega) w
 have hA0 := arr_new 4 (.bool false) rfl n w
 obtain ⟨w1, hw1⟩ : ∃ w1, w1 = w.alloc (.cells (madeV (.bool false) n) 4) := ⟨_, rfl⟩
 rw [← hw1] at hmk hA0
 obtain ⟨gi, hgi⟩ : ∃ gi, gi = w.heap.size := ⟨_, rfl⟩
 rw [← hgi] at hmk hA0
 rw [bl_false] at hA0
 have u0 := hA0.cell (bl_at (fun _ => false) hp)
 have uf := hA0.free p
 have p0 : (0 : Int) ≤ (p : Int) := by omega
 have p1 : (p : Int) < (n : Int) := by omega
 have hM : FrM w ((w1.setCell ⟨gi, p, none⟩ (.bool true)).alloc (.cells #[.int .i64 (p : Int)] 3)) gi n (.slice (some ⟨(w1.setCell ⟨gi, p, none⟩ (.bool true)).heap.size, 0, none⟩) 1 1) [p] := by
  have h1 := hA0.set p (.bool true)
  rw [bl_set, bl_congr (v := fun x => decide (x ∈ [p])) (fun x _ => by by_cases e : x = p <;> simp [e])] at h1
  refine ⟨h1.below ((Below.refl _ _).alloc (Nat.le_refl _) _), ?_⟩
  have h2 := (arr_of_alloc (w1.setCell ⟨gi, p, none⟩ (.bool true)) (p : Int)).own (by unfold maxLen; simp)
  have h3 : w.heap.size ≤ (w1.setCell ⟨gi, p, none⟩ (.bool true)).heap.size := h1.bl.size
  exact row_base h2 h3
 obtain ⟨w2, hw2⟩ : ∃ w2, w2 = (w1.setCell ⟨gi, p, none⟩ (.bool true)).alloc (.cells #[.int .i64 (p : Int)] 3) := ⟨_, rfl⟩
 have hs : (w1.setCell ⟨gi, p, none⟩ (.bool true)).heap.size = w1.heap.size := by simp
 rw [← hw2] at hM
 rw [hs] at hM
 have H : Hid _ := And.intro hM (And.intro hR (And.intro hF hw2))
 clear hA0 hw1 hgi hM hR hF hw2 hs
 go_enter Tryz.func102, Tryz.ntmps102
 go_upto_region 4 with fail
 rw [← H.out.2.2.2]
 clear hmk u0 uf
 go_wp2_with fail
 go_loopg [6, 7] n (fun q s6 s7 wx => ∃ (i : Nat) (l : List Nat), q = n - i ∧ s7 = .int .i64 i ∧ Fr n (silF f) p l i ∧ FrM w wx gi n s6 l)
 case atStart => exact ⟨0, [p], rfl, rfl, Fr.new hp, H.out.1⟩
 case round =>
  obtain ⟨i, l, rfl, rfl, hFr, hM⟩ := hrel
  obtain ⟨al, cl', hs6⟩ := row_shape hM.lst
  obtain ⟨N, hN⟩ : ∃ N, N = l.length := ⟨_, rfl⟩
  rw [cast_length, ← hN] at hs6
  subst hs6
  have hNn : N ≤ n := by rw [hN]; exact hFr.len
  have hiN : i ≤ N := by rw [hN]; exact hFr.le
  by_cases hlt : i < N
  ·obtain ⟨x, hx⟩ : ∃ x, l[i]? = some x := ⟨l[i]'(by omega), List.getElem?_eq_getElem _⟩
   have hxn := (hFr.sub x (List.mem_of_getElem? hx)).1
   obtain ⟨ao9, cap9, he9, hc9⟩ := OwnI.has hM.lst
   obtain ⟨a9, ha9, d0⟩ := hc9 i (x : Int) (cast_at hx)
   injection he9 with e1 e2 e3
   rw [ha9] at e1
   clear hc9 ha9 e2 e3
   subst e1
   obtain ⟨u, cw, huw⟩ := H.out.2.1 x hxn
   obtain ⟨ar, cr, hur, -⟩ := id huw
   obtain ⟨R, hR⟩ : ∃ R, R = (f x).length := ⟨_, rfl⟩
   rw [← hR] at hur
   subst hur
   have hRl : R ≤ 100000 := by rw [hR]; exact H.out.2.2.1.len x
   have cu0 := cell_up cw hM.arr.bl
   have q0 : (0 : Int) ≤ (i : Int) := by omega
   have q1 : (i : Int) < (N : Int) := by omega
   have q2 : (0 : Int) ≤ (x : Int) := by omega
   have q3 : (x : Int) < (n : Int) := by omega
   have q6 : IntKind.i64.wrap ((i : Int) + 1) = (i : Int) + 1 := by rw [IntKind.wrap_i64]; omega
   have HA : Hid _ := And.intro hFr (And.intro hM (And.intro hx (And.intro huw (And.intro hR (And.intro hxn hN)))))
   clear hFr hM hx cw huw hR hN hxn
   obtain ⟨wo, rfl⟩ : ∃ wo, wo = wr := ⟨_, rfl⟩
   go_wp2_with fail
   go_loopg [6, 9] R (fun q s6 s9 wx => ∃ (k : Nat) (l : List Nat), q = R - k ∧ k ≤ R ∧ s9 = .int .i64 k ∧ Fr n (silF f) p l i ∧ FrM w wx gi n s6 l ∧ l[i]? = some x ∧ ∀ (j : Nat) (e : BSteps.El), j < k → (f x)[j]? = some e → e.1 = 0 ∧ e.2.toNat ∈ l)
   case atStart => exact ⟨0, l, rfl, Nat.zero_le _, rfl, HA.out.1, HA.out.2.1, HA.out.2.2.1, fun j e hj => absurd hj (Nat.not_lt_zero j)⟩
   case round =>
    obtain ⟨k, l2, rfl, hk, rfl, hFr, hM, hx, hall⟩ := hrel
    clear cu0 d0
    obtain ⟨al2, cl2, hs6⟩ := row_shape hM.lst
    obtain ⟨N2, hN2⟩ : ∃ N, N = l2.length := ⟨_, rfl⟩
    rw [cast_length, ← hN2] at hs6
    subst hs6
    have hN2n : N2 ≤ n := by rw [hN2]; exact hFr.len
    have hbl := hM.arr.bl
    by_cases hkR : k < R
    ·obtain ⟨⟨e1, e2⟩, he⟩ : ∃ e, (f x)[k]? = some e := ⟨(f x)[k]'(by have := HA.out.2.2.2.2.1; omega), List.getElem?_eq_getElem _⟩
     obtain ⟨a5, hae, g0, g1⟩ := step_at (HA.out.2.2.2.1.below hbl) he
     subst hae
     simp only at g0 g1
     have r0 : (0 : Int) ≤ (k : Int) := by omega
     have r1 : (k : Int) < (R : Int) := by omega
     have r6 : IntKind.i64.wrap ((k : Int) + 1) = (k : Int) + 1 := by rw [IntKind.wrap_i64]; omega
     by_cases hz : e1 = 0
     ·subst hz
      have hto := H.out.2.2.1.tgt x _ (List.mem_of_getElem? he)
      simp only at hto
      obtain ⟨y, rfl⟩ : ∃ y : Nat, e2 = (y : Int) := ⟨e2.toNat, by omega⟩
      have hyn : y < n := by omega
      have hys : y ∈ silF f x := (silF_mem fun e he => (H.out.2.2.1.tgt x e he).1).2 (List.mem_of_getElem? he)
      have hyR : Rt (silF f) p y := (hFr.sub x (List.mem_of_getElem? hx)).2.step hys
      have u0 := hM.arr.cell (bl_at (fun z => decide (z ∈ l2)) hyn)
      have uf := hM.arr.free y
      have r2 : (0 : Int) ≤ (y : Int) := by omega
      have r3 : (y : Int) < (n : Int) := by omega
      by_cases hy : y ∈ l2
      ·simp only [hy, decide_true] at u0
       have HB : Hid _ := And.intro hFr (And.intro hM (And.intro hx (And.intro hall (And.intro he hy))))
       clear hFr hM hx hall he hy hyR hys hbl hN2 hto hyn
       go_wp2_with fail
       go_roundg (R - (k + 1))
       case measure => omega
       case rel =>
        refine ⟨k + 1, l2, rfl, by omega, by go_num, HB.out.1, HB.out.2.1, HB.out.2.2.1, fun j e hj hje => ?_⟩
        by_cases ej : j = k
        ·subst ej
         rw [HB.out.2.2.2.2.1] at hje
         cases hje
         exact ⟨rfl, by simpa using HB.out.2.2.2.2.2⟩
        ·exact HB.out.2.2.2.1 j e (by omega) hje
      ·simp only [hy, decide_false] at u0
       have hgw : w.heap.size ≤ gi := hM.arr.gu
       obtain ⟨w9, hw9⟩ : ∃ w9, w9 = wr.setCell ⟨gi, y, none⟩ (.bool true) := ⟨_, rfl⟩
       have hb9 : Below w.heap.size w w9 := by rw [hw9]; exact hbl.setCell hgw _
       obtain ⟨a6, hae6, g0', g1'⟩ := step_at (HA.out.2.2.2.1.below hb9) he
       cases hae6
       simp only at g0' g1'
       obtain ⟨cs9, hc9, -⟩ := hM.arr.ids
       have hO9 : w9.ownsRow w.heap.size 3 1 (.slice al2 N2 cl2) N2 (iC (cast l2)) := by
        have h1 := own_up hM.lst (Kept.setCell wr gi y (.bool true)) fun b hb e => own_bk hM.lst hc9 (by decide) (by rw [← e]; exact hb)
        unfold OwnI at h1
        rw [cast_length, ← hN2] at h1
        rw [hw9]
        exact h1
       have hml : N2 + 1 ≤ maxLen := by unfold maxLen; omega
       have hby : (N2 + 1) * 8 ≤ 140737488355328 := by omega
       have hsz := hb9.size
       have HB : Hid _ := And.intro hFr (And.intro hM (And.intro hx (And.intro hall (And.intro he (And.intro hy (And.intro hyn (And.intro hyR (And.intro hN2 (And.intro hw9 hO9)))))))))
       clear hFr hM hx hall he hy hyR hys hbl hN2 hto hyn hw9 hO9 hc9 hb9
       go_upto_region 13 with fail
       rw [← HB.out.2.2.2.2.2.2.2.2.2.1]
       clear g0 g1 u0 uf
       go_wp2_with (at_builtin; refine wpList_append_lies _ rfl _ _ 45 rfl w.heap.size 3 i0 (.int .i64 0) 1 8 Tryz.underlying45 hi0 hz0 hz1 hz2 rfl (by decide) (.slice al2 N2 cl2) N2 (iC (cast l2)) rfl (HB.out.2.2.2.2.2.2.2.2.2.2.alloc _) ⟨w9.heap.size, 0, none⟩ 1 1 [.int .i64 (y : Int)] rfl rfl (World.news_of_block (cs := #[.int .i64 (y : Int)]) (t := 3) (fr := (0, 0)) (heap_alloc_new w9 _)) (by simp [Value.oneCell']) Nat.one_pos hml hby (by simp; omega) (w9.heap.size + 1) (by simp) ?_; intro g4 k4 w4 hown4 hgrow4 hat4 hlt4; have hk4 : Kept (fun b => (Value.slice al2 N2 cl2).ownBlock = some b) w9 w4 := grown_alloc hgrow4; have H4 : Hid _ := And.intro hown4 hk4; clear hown4 hgrow4 hat4 hlt4 hk4 g0' g1')
       go_roundg (R - (k + 1))
       case measure => omega
       case rel =>
        refine ⟨k + 1, l2 ++ [y], rfl, by omega, by go_num, HB.out.1.grow HB.out.2.2.2.2.2.2.1 HB.out.2.2.2.2.2.2.2.1 HB.out.2.2.2.2.2.1, HB.out.2.1.put HB.out.2.2.2.2.2.2.2.2.1 (by rw [← HB.out.2.2.2.2.2.2.2.2.2.1]; exact H4.out.2) H4.out.1, ?_, fun j e hj hje => ?_⟩
        ·rw [List.getElem?_append_left (List.getElem?_eq_some_iff.1 HB.out.2.2.1).1]; exact HB.out.2.2.1
        ·by_cases ej : j = k
         ·subst ej
          rw [HB.out.2.2.2.2.1] at hje
          cases hje
          exact ⟨rfl, by simp⟩
         ·obtain ⟨h1, h2⟩ := HB.out.2.2.2.1 j e (by omega) hje
          exact ⟨h1, List.mem_append_left _ h2⟩
     ·have q9 : (e1 == 0) = false := by simp [hz]
      have HB : Hid _ := And.intro hFr (And.intro hM (And.intro hx (And.intro hall (And.intro he hz))))
      clear hFr hM hx hall he hz hbl hN2
      go_wp2_with fail
      go_roundg (n - (i + 1))
      case measure => omega
      case rel => exact ⟨i + 1, l2, rfl, by go_num, HB.out.1.next HB.out.2.2.1 (fr_all H.out.2.2.1 (fun e he => by rw [HB.out.2.2.2.2.1] at he; cases he; exact HB.out.2.2.2.2.2) HB.out.2.2.2.1), HB.out.2.1⟩
    ·obtain rfl : R = k := by omega
     have r1 : ¬ (R : Int) < (R : Int) := by omega
     have HB : Hid _ := And.intro hFr (And.intro hM (And.intro hx hall))
     clear hFr hM hx hall hbl hN2 hk hkR
     go_wp2_with fail
     go_roundg (n - (i + 1))
     case measure => omega
     case rel => exact ⟨i + 1, l2, rfl, by go_num, HB.out.1.next HB.out.2.2.1 (fr_all H.out.2.2.1 (fun e he => by have := (List.getElem?_eq_some_iff.1 he).1; have := HA.out.2.2.2.2.1; omega) HB.out.2.2.2), HB.out.2.1⟩
  ·obtain rfl : N = i := by omega
   have q1 : ¬ (N : Int) < (N : Int) := by omega
   rw [hN] at hFr
   have HA : Hid _ := And.intro hFr hM
   clear hFr hM hN hlt hiN
   go_wp2_with fail
   go_ret
   refine ⟨gi, rfl, ?_⟩
   have h9 := HA.out.2.arr
   rw [bl_congr (v := rtB (silF f) p) (fun x _ => by rw [Bool.eq_iff_iff, decide_eq_true_eq, rtB_iff]; exact HA.out.1.done x)] at h9
   exact h9
end Go.Proofs.YtplofbabfkkimaaGreatDoor.Ts
/- tauscc: the contract of the document's Cycles. -/
namespace Go.Proofs.YtplofbabfkkimaaGreatDoor.Ts
open Go.RowKit Go.Maps
attribute [local go_sem ↓] Go.wp_at_zero Go.wp_at_succ
theorem own_hasE {w : World} {B : Nat} {v : Value} {L : List Sy.Ed} (h : BEdges.Own w B v L) : HasE w v L := by
 have h1 := h.has
 rcases h.2 with ⟨rfl, h0⟩ | ⟨g, cap, cur, rfl, _, _, hc, _⟩
 ·exact ⟨none, 0, by rw [h0], by omega, h1⟩
 ·exact ⟨_, cap, rfl, hc, h1⟩
theorem arr_ownI {w wx : World} {gi n : Nat} {A : Nat → Int} (h : Arr 3 w wx gi (il n A)) (hn : n ≤ 1000000) : OwnI wx w.heap.size (.slice (some ⟨gi, 0, none⟩) n n) ((List.range n).map A) := by
 have h1 := h.own (by rw [il_len]; unfold maxLen; omega)
 rw [il_len] at h1
 unfold OwnI
 rw [List.length_map, List.length_range, show iC ((List.range n).map A) = il n A by simp [iC, il]]
 exact h1
set_option linter.unusedSimpArgs false in
set_option maxRecDepth 100000 in
set_option maxHeartbeats 8000000 in
theorem docCycles_any (n : Nat) (k s : Int) (v : Value) (es : List Sy.Ed) (w : World) (hv : HasE w v es) (hq : Sy.right n k s es = true) :
 Calls Tryz.prog 34 #[sysV n k s v] w fun r w' => ∃ (u : Value) (cl : List Nat), r = .returned u ∧ Cl n es cl ∧ OwnI w' w.heap.size u (natI cl) ∧ Below w.heap.size w w' := by
 obtain ⟨⟨_, hn1⟩, _, hl, _, _, hin⟩ := right_parts hq
 have hn : n ≤ 1000 := by omega
 obtain ⟨w1, hw1⟩ : ∃ w1, w1 = w.alloc (.cells #[.int .i64 n, .int .i64 k, .int .i64 s, v] 24) := ⟨_, rfl⟩
 have hb1 : Below w.heap.size w w1 := by rw [hw1]; exact (Below.refl _ _).alloc (Nat.le_refl _) _
 have hg1 : w1.heap[w.heap.size]? = some (.cells #[.int .i64 n, .int .i64 k, .int .i64 s, v] 24 (0, 0)) := by rw [hw1]; exact heap_alloc_new w _
 have hO := fun W (hb : Below w1.heap.size w1 W) => refOut_any n k s v es W (by omega) ((hv.below hb1).below hb) (by omega) fun e he => ⟨(hin e he).1, (hin e he).2.1⟩
 have hB := fun W (hb : Below w1.heap.size w1 W) => refBack_any n k s v es W ((hv.below hb1).below hb) (by omega)
 have hOB := fun W (u : Value) (hu : HasE W u (es.map Sy.turn)) => refOut_any n k s u (es.map Sy.turn) W (by omega) hu (by rw [List.length_map]; omega) fun e he => by
  obtain ⟨e1, e2, e3⟩ := e
  have h1 := hin _ (turn_mem2.1 he)
  simp only at h1
  exact ⟨h1.2.2.1, h1.2.2.2.1⟩
 have hF1 : RowsOk n fun i => Sy.steps (Sy.nf es) i := rowsOk_of (by omega) fun e he => ⟨(hin e he).2.2.1, (hin e he).2.2.2.1, (hin e he).2.2.2.2.1⟩
 have hF2 : RowsOk n fun i => Sy.steps (Sy.nf (es.map Sy.turn)) i := rowsOk_of (by rw [List.length_map]; omega) fun e he => by
  obtain ⟨e1, e2, e3⟩ := e
  have h1 := hin _ (turn_mem2.1 he)
  simp only at h1
  exact ⟨h1.1, h1.2.1, h1.2.2.2.2.1⟩
 unfold sysV at hO hB hOB ⊢
 have H1 : Hid _ := And.intro hw1 (And.intro hb1 (And.intro hg1 (And.intro hO (And.intro hB (And.intro hOB (And.intro hF1 (And.intro hF2 hq)))))))
 obtain ⟨x0, x1, x2, x3⟩ := four_cells hg1
 have HS : Hid (∀ W, Below w1.heap.size w1 W → (W.cell? ⟨w.heap.size, 0, none⟩ = some (.int .i64 n) ∧ W.cell? ⟨w.heap.size, 1, none⟩ = some (.int .i64 k) ∧ W.cell? ⟨w.heap.size, 2, none⟩ = some (.int .i64 s) ∧ W.cell? ⟨w.heap.size, 3, none⟩ = some v)) := (fun W hb => ⟨cell_up x0 hb, cell_up x1 hb, cell_up x2 hb, cell_up x3 hb⟩ : ∀ W, Below w1.heap.size w1 W → (W.cell? ⟨w.heap.size, 0, none⟩ = some (.int .i64 n) ∧ W.cell? ⟨w.heap.size, 1, none⟩ = some (.int .i64 k) ∧ W.cell? ⟨w.heap.size, 2, none⟩ = some (.int .i64 s) ∧ W.cell? ⟨w.heap.size, 3, none⟩ = some v))
 obtain ⟨va, vn, vc, rfl⟩ : ∃ a m c, v = .slice a m c := by obtain ⟨ao, cap, rfl, _⟩ := hv; exact ⟨_, _, _, rfl⟩
 clear hv hw1 hb1 hg1 hO hB hOB hF1 hF2 hq hin hl hn1
 go_enter Tryz.func34, Tryz.ntmps34
 go_upto_region 1 with fail
 rw [← H1.out.1]
 go_cut [3, 4] (fun s3 s4 wx => ∃ g1 g2 : Nat, s3 = .slice (some ⟨g1, 0, none⟩) n n ∧ s4 = .slice (some ⟨g2, 0, none⟩) n n ∧ Below w1.heap.size w1 wx ∧ RowsAt wx g1 n (fun i => Sy.steps (Sy.nf es) i) ∧ RowsAt wx g2 n (fun i => Sy.steps (Sy.nf (es.map Sy.turn)) i))
 case first =>
  refine wp_region_held_drew (S := (fun W => W.cell? ⟨w.heap.size, 0, none⟩ = some (.int .i64 n) ∧ W.cell? ⟨w.heap.size, 1, none⟩ = some (.int .i64 k) ∧ W.cell? ⟨w.heap.size, 2, none⟩ = some (.int .i64 s) ∧ W.cell? ⟨w.heap.size, 3, none⟩ = some (.slice va vn vc))) (by kernel_rfl) ?_ (fun hHeld => ?_)
  ·exact HS.out _ ((Below.refl _ _).drew)
  refine tk9 0 ?_ rfl (by kernel_rfl) (fun _ _ _ h => h) ⟨by rfl, ?_⟩ (by assumption) ?_; rotate_left; (focus (intro w hSw; (try dsimp only at hSw); go_simp; (try with_reducible rfl))); (try simp only [ty9, Act.put])
  refine tk9 2 ?_ rfl (by kernel_rfl) (fun _ _ _ h => h) ⟨by rfl, ?_⟩ (by assumption) ?_; rotate_left; (focus (intro w hSw; (try dsimp only at hSw); go_simp; (try with_reducible rfl))); (try simp only [ty9, Act.put])
  refine wpAnyH_ready (rs := [1]) (by kernel_rfl) (by simp) ?_
  refine AllReadyH.cons (o := _) rfl (fun K hK => ?_) ?_
  ·(go_simp; go_at_call 37; refine Calls.mono (H1.out.2.2.2.1 _ ((Below.refl _ _).drew)) ?_; rintro r3 w3 ⟨g1, us1, rfl, hA1, hO1⟩; have H3 : Hid _ := And.intro (((Below.refl w1.heap.size w1).drew).trans hA1.bl) (rowsAt_of hA1 hO1); clear hA1 hO1)
   (try go_wp2_with fail)
   refine hK.out _ _ ?_ (fun hHeld => ?_)
   ·exact HS.out _ H3.out.1
   clear hK K
   (try simp only [ty9, Act.put])
   refine wpAnyH_ready (rs := [3]) (by kernel_rfl) (by simp) ?_
   refine AllReadyH.cons (o := _) rfl (fun K hK => ?_) ?_
   ·(go_simp; go_at_call 101; refine Calls.mono (H1.out.2.2.2.2.1 _ H3.out.1) ?_; rintro r4 w4 ⟨ub, rfl, hOb, hb4⟩; have H4 : Hid _ := And.intro (own_hasE hOb) (And.intro hb4 (H3.out.1.trans (hb4.mono H3.out.1.size))); clear hOb hb4)
    (try go_wp2_with fail)
    refine hK.out _ _ ?_ (fun hHeld => ?_)
    ·exact HS.out _ H4.out.2.2
    clear hK K
    (try simp only [ty9, Act.put])
    refine wpAnyH_ready (rs := [4]) (by kernel_rfl) (by simp) ?_
    refine AllReadyH.cons (o := _) rfl (fun K hK => ?_) ?_
    ·(go_simp; go_at_call 37; refine Calls.mono (H1.out.2.2.2.2.2.1 _ ub H4.out.1) ?_; rintro r5 w5 ⟨g2, us2, rfl, hA2, hO2⟩; have H5 : Hid _ := And.intro hA2.bl (rowsAt_of hA2 hO2); clear hA2 hO2)
     (try go_wp2_with fail)
     refine hK.out _ _ ?_ (fun hHeld => ?_)
     ·exact HS.out _ (H4.out.2.2.trans (H5.out.1.mono H4.out.2.2.size))
     clear hK K
     (try simp only [ty9, Act.put])
     refine tk9 5 ?_ rfl (by kernel_rfl) (fun _ _ _ h => h) ⟨by rfl, ?_⟩ (by assumption) ?_; rotate_left; (focus (intro w hSw; (try dsimp only at hSw); go_simp; (try with_reducible rfl))); (try simp only [ty9, Act.put])
     refine tk9 6 ?_ rfl (by kernel_rfl) (fun _ _ _ h => h) ⟨by rfl, ?_⟩ (by assumption) ?_; rotate_left; (focus (intro w hSw; (try dsimp only at hSw); go_simp; (try with_reducible rfl))); (try simp only [ty9, Act.put])
     refine wpAnyH_done (by kernel_rfl) ?_ _
     refine Met.intro ?_
     apply_assumption
     refine Met.intro ?_
     apply_assumption
     (repeat apply Exists.intro)
     refine ⟨?_, rfl⟩
     exact ⟨g1, g2, rfl, rfl, H4.out.2.2.trans (H5.out.1.mono H4.out.2.2.size), (H3.out.2.below H4.out.2.1).below H5.out.1, H5.out.2⟩
    exact AllReadyH.nil
   exact AllReadyH.nil
  exact AllReadyH.nil
 case rest =>
  obtain ⟨g1, g2, rfl, rfl, hbc, hR1, hR2⟩ := hcut
  clear x0 x1 x2 x3
  obtain ⟨x0, x1, x2, x3⟩ := HS.out wc hbc
  have hmk := makeI n (by omega) wc
  have hA0 := arr_new 3 (.int .i64 0) rfl n wc
  obtain ⟨w5, hw5⟩ : ∃ w5, w5 = wc.alloc (.cells (madeV (.int .i64 0) n) 3) := ⟨_, rfl⟩
  rw [← hw5] at hmk hA0
  rw [il_zero] at hA0
  obtain ⟨gi, hgi⟩ : ∃ gi, gi = wc.heap.size := ⟨_, rfl⟩
  rw [← hgi] at hmk hA0
  have hFa := fun W (hb : Below wc.heap.size wc W) (i : Nat) (hi : i < n) => docFrom_any n i g1 _ W hn hi (hR1.below hb) H1.out.2.2.2.2.2.2.1
  have hFb := fun W (hb : Below wc.heap.size wc W) (i : Nat) (hi : i < n) => docFrom_any n i g2 _ W hn hi (hR2.below hb) H1.out.2.2.2.2.2.2.2.1
  have HC : Hid _ := And.intro hbc (And.intro hA0 (And.intro hFa hFb))
  clear hbc hR1 hR2 hA0 hw5 hgi hFa hFb
  go_wp2_with fail
  clear hmk
  go_loopg [6] n (fun q s6 wx => ∃ j : Nat, q = n - j ∧ j ≤ n ∧ s6 = .int .i64 j ∧ Arr 3 wc wx gi (il n fun k => if k < j then -1 else 0))
  case atStart => exact ⟨0, rfl, Nat.zero_le _, rfl, by have h9 := HC.out.2.1; rw [il_congr (v := fun k => if k < 0 then -1 else 0) (fun p _ => by simp)] at h9; exact h9⟩
  case round =>
   obtain ⟨j, rfl, hj, rfl, hA⟩ := hrel
   clear x0 x1 x2 x3
   obtain ⟨x0, x1, x2, x3⟩ := HS.out wr (HC.out.1.trans (hA.bl.mono HC.out.1.size))
   by_cases hlt : j < n
   ·have u0 := hA.cell (il_at (fun k => if k < j then (-1 : Int) else 0) hlt)
    rw [if_neg (Nat.lt_irrefl j)] at u0
    have uf := hA.free j
    have p0 : (0 : Int) ≤ (j : Int) := by omega
    have p1 : (j : Int) < (n : Int) := by omega
    have p6 : IntKind.i64.wrap ((j : Int) + 1) = (j : Int) + 1 := by rw [IntKind.wrap_i64]; omega
    have HA : Hid _ := hA
    clear hA
    go_wp2_with fail
    go_roundg (n - (j + 1))
    case measure => omega
    case rel =>
     refine ⟨j + 1, rfl, by omega, by go_num, ?_⟩
     have h9 := HA.out.set j (.int .i64 (-1))
     rw [il_set, il_congr (v := fun k => if k < j + 1 then -1 else 0) (fun p _ => by
      by_cases e : p = j
      ·subst e; simp
      ·by_cases h : p < j
       ·rw [if_neg e, if_pos h, if_pos (by omega)]
       ·rw [if_neg e, if_neg h, if_neg (by omega)])] at h9
     exact h9
   ·obtain rfl : n = j := by omega
    have p1 : ¬ (n : Int) < (n : Int) := by omega
    rw [il_congr (v := fun _ => -1) (fun p hp => by rw [if_pos hp])] at hA
    have HA : Hid _ := hA
    clear hA hj hlt
    obtain ⟨wo, rfl⟩ : ∃ wo, wo = wr := ⟨_, rfl⟩
    go_wp2_with fail
    go_loopg [7, 8] n (fun q s7 s8 wx => ∃ (i c : Nat) (A : Nat → Int), q = n - i ∧ i ≤ n ∧ c ≤ i ∧ s7 = .int .i64 c ∧ s8 = .int .i64 i ∧ Cg n (sil n es) i c A ∧ Arr 3 wc wx gi (il n A))
    case atStart => exact ⟨0, 0, fun _ => -1, rfl, Nat.zero_le _, Nat.le_refl _, rfl, rfl, Cg.new n (sil n es), HA.out⟩
    case round =>
     obtain ⟨i, c, A, rfl, hi, hci, rfl, rfl, hC, hA⟩ := hrel
     clear x0 x1 x2 x3 p1
     obtain ⟨x0, x1, x2, x3⟩ := HS.out wr (HC.out.1.trans (hA.bl.mono HC.out.1.size))
     by_cases hlt : i < n
     ·have u0 := hA.cell (il_at A hlt)
      obtain ⟨z, hz⟩ : ∃ z, z = A i := ⟨_, rfl⟩
      rw [← hz] at u0
      have p0 : (0 : Int) ≤ (i : Int) := by omega
      have p1 : (i : Int) < (n : Int) := by omega
      have p6 : IntKind.i64.wrap ((i : Int) + 1) = (i : Int) + 1 := by rw [IntKind.wrap_i64]; omega
      have p7 : IntKind.i64.wrap ((c : Int) + 1) = (c : Int) + 1 := by rw [IntKind.wrap_i64]; omega
      by_cases h0 : 0 ≤ z
      ·have HB : Hid _ := And.intro (hC.skip hlt (by rw [← hz]; exact h0)) hA
       clear hC hA hz
       go_wp2_with fail
       go_roundg (n - (i + 1))
       case measure => omega
       case rel => exact ⟨i + 1, c, A, rfl, by omega, by omega, rfl, by go_num, HB.out.1, HB.out.2⟩
      ·have hM := hC.more hlt (by rw [← hz]; omega)
       have HB : Hid _ := And.intro hM (And.intro hA (And.intro hlt hci))
       clear hC hA hz hM
       go_wp2_with fail
       refine Calls.mono (HC.out.2.2.1 wr HB.out.2.1.bl i HB.out.2.2.1) ?_
       rintro r6 w6 ⟨ga, rfl, hAa⟩
       have H6 : Hid _ := And.intro hAa (HB.out.2.1.bl.trans (hAa.bl.mono HB.out.2.1.bl.size))
       clear hAa u0 x0 x1 x2 x3
       obtain ⟨x0, x1, x2, x3⟩ := HS.out w6 (HC.out.1.trans (H6.out.2.mono HC.out.1.size))
       go_wp2_with fail
       refine Calls.mono (HC.out.2.2.2 w6 H6.out.2 i HB.out.2.2.1) ?_
       rintro r7 w7 ⟨gb, rfl, hAb⟩
       have H7 : Hid _ := And.intro hAb (H6.out.2.trans (hAb.bl.mono H6.out.2.size))
       clear hAb
       have hA7 : Arr 3 wc w7 gi (il n (clsT (sil n es) i c A 0)) := by
        have h9 := (HB.out.2.1.below H6.out.1.bl).below H7.out.1.bl
        rw [il_congr (v := clsT (sil n es) i c A 0) (fun p _ => (clsT_zero _ _ _ _ p).symm)] at h9
        exact h9
       have hAa7 := H6.out.1.below H7.out.1.bl
       have hlt6 : gi < w6.heap.size := by have := HB.out.2.1.lt; have := H6.out.1.bl.size; omega
       have H8 : Hid _ := And.intro hA7 (And.intro hAa7 (by have h1 := H6.out.1.gu; have h2 := H7.out.1.gu; have h3 := HB.out.2.1.lt; omega : ¬ ga = gi ∧ ¬ gb = gi))
       clear hA7 hAa7 hlt6 x0 x1 x2 x3
       obtain ⟨x0, x1, x2, x3⟩ := HS.out w7 (HC.out.1.trans (H7.out.2.mono HC.out.1.size))
       obtain ⟨wq, rfl⟩ : ∃ wq, wq = wr := ⟨_, rfl⟩
       go_wp2_with fail
       go_loopg [11] n (fun q s11 wx => ∃ k : Nat, q = n - k ∧ k ≤ n ∧ s11 = .int .i64 k ∧ Arr 3 wc wx gi (il n (clsT (sil n es) i c A k)) ∧ Kept (fun b => b = gi) w7 wx)
       case atStart => exact ⟨0, rfl, Nat.zero_le _, rfl, H8.out.1, Kept.refl _ _⟩
       case round =>
        obtain ⟨kk, rfl, hk, rfl, hA, hK⟩ := hrel
        clear x0 x1 x2 x3
        obtain ⟨x0, x1, x2, x3⟩ := HS.out wr (HC.out.1.trans (hA.bl.mono HC.out.1.size))
        by_cases hkn : kk < n
        ·have a0 := kcell hK H8.out.2.2.1 (H8.out.2.1.cell (bl_at _ hkn))
         have b0 := kcell hK H8.out.2.2.2 (H7.out.1.cell (bl_at _ hkn))
         have u1 := hA.cell (il_at (clsT (sil n es) i c A kk) hkn)
         have uf := hA.free kk
         have r0 : (0 : Int) ≤ (kk : Int) := by omega
         have r1 : (kk : Int) < (n : Int) := by omega
         have r6 : IntKind.i64.wrap ((kk : Int) + 1) = (kk : Int) + 1 := by rw [IntKind.wrap_i64]; omega
         have hbi := both_iff H1.out.2.2.2.2.2.2.2.2 i kk
         obtain ⟨av, hav⟩ : ∃ av, av = rtB (silF fun i => Sy.steps (Sy.nf es) i) i kk := ⟨_, rfl⟩
         obtain ⟨bv, hbv⟩ : ∃ bv, bv = rtB (silF fun i => Sy.steps (Sy.nf (es.map Sy.turn)) i) i kk := ⟨_, rfl⟩
         rw [← hav] at a0 hbi
         rw [← hbv] at b0 hbi
         clear hav hbv
         have HD : Hid _ := And.intro hA (And.intro hK hbi)
         clear hA hK hbi
         cases av with
         | true =>
           cases bv with
           | true =>
             go_wp2_with fail
             go_roundg (n - (kk + 1))
             case measure => omega
             case rel =>
              refine ⟨kk + 1, rfl, by omega, by go_num, ?_, HD.out.2.1.trans (Kept.setCell _ gi kk _)⟩
              have h9 := HD.out.1.set kk (.int .i64 c)
              rw [il_set, il_congr (fun p _ => clsT_hit (HD.out.2.2.1 (by simp)) p)] at h9
              exact h9
           | false =>
             go_wp2_with fail
             go_roundg (n - (kk + 1))
             case measure => omega
             case rel =>
              refine ⟨kk + 1, rfl, by omega, by go_num, ?_, HD.out.2.1⟩
              have h9 := HD.out.1
              rw [il_congr (fun p _ => clsT_miss (fun hT => by have := HD.out.2.2.2 hT; simp at this) p)] at h9
              exact h9
         | false =>
           go_wp2_with fail
           go_roundg (n - (kk + 1))
           case measure => omega
           case rel =>
            refine ⟨kk + 1, rfl, by omega, by go_num, ?_, HD.out.2.1⟩
            have h9 := HD.out.1
            rw [il_congr (fun p _ => clsT_miss (fun hT => by have := HD.out.2.2.2 hT; simp at this) p)] at h9
            exact h9
        ·obtain rfl : n = kk := by omega
         have r1 : ¬ (n : Int) < (n : Int) := by omega
         have HD : Hid _ := hA
         clear hA hK hk hkn
         go_wp2_with fail
         go_roundg (n - (i + 1))
         case measure => have := HB.out.2.2.1; omega
         case rel => exact ⟨i + 1, c + 1, _, rfl, by have := HB.out.2.2.1; omega, by have := HB.out.2.2.2; omega, by go_num, by go_num, HB.out.1, HD.out⟩
     ·obtain rfl : n = i := by omega
      have p1 : ¬ (n : Int) < (n : Int) := by omega
      have HB : Hid _ := And.intro hC hA
      clear hC hA hi hlt
      go_wp2_with fail
      go_ret
      obtain ⟨e1, e2⟩ := HB.out.1.cl
      have b1 := H1.out.2.1.trans (HC.out.1.mono H1.out.2.1.size)
      refine ⟨_, rfl, _, e2, ?_, b1.trans (HB.out.2.bl.mono b1.size)⟩
      rw [e1]
      exact own_lower (arr_ownI HB.out.2 (by omega)) b1.size
end Go.Proofs.YtplofbabfkkimaaGreatDoor.Ts
/- tauscc: Collapse and Order of a collapsed system. -/
namespace Go.Proofs.YtplofbabfkkimaaGreatDoor.Ts
open Go.RowKit Go.Maps
theorem btw_free {cl : List Nat} {es : List Sy.Ed} : ∀ e ∈ Sy.nf (btw cl es), ¬ (e.2.1 = 0 ∧ e.1 = e.2.2) := fun e he h => by
 obtain ⟨d, _, hk, rfl⟩ := btw_mem.1 ((Sy.nf_mem _ _).1 he)
 unfold Ts.onto at h
 simp only at h
 unfold keep at hk
 rw [h.1, h.2] at hk
 simp at hk
structure Again (m : Nat) (k s : Int) (E : List Sy.Ed) : Prop where
 right : Sy.right m k s E = true
 nf : Sy.nf E = E
 acy : Acy m (sil m E)
 free : ∀ e ∈ E, ¬ (e.2.1 = 0 ∧ e.1 = e.2.2)
theorem Cl.again {n : Nat} {k s : Int} {es : List Sy.Ed} {cl : List Nat} (h : Cl n es cl) (hr : Sy.right n k s es = true) : Again (tog cl) k (sta n cl s) (Sy.nf (btw cl es)) :=
 ⟨right_nf (small_right h hr), Sy.nf_idem _, (h.acy hr).nf, btw_free⟩
structure Od (m : Nat) (E : List Sy.Ed) (od : List Nat) : Prop where
 len : od.length = m
 nodup : od.Nodup
 lt : ∀ x ∈ od, x < m
 all : ∀ x, x < m → x ∈ od
 ends : ∀ (j x y : Nat), od[j]? = some x → y ∈ sil m E x → y ∈ od.take j
end Go.Proofs.YtplofbabfkkimaaGreatDoor.Ts
/- tauscc: the contract of the document's Collapse. -/
namespace Go.Proofs.YtplofbabfkkimaaGreatDoor.Ts
open Go.RowKit Go.Maps
attribute [local go_sem ↓] Go.wp_at_zero Go.wp_at_succ
theorem dcol_store {w W : World} {gm : Nat} (hb : Below w.heap.size w W) (hz : W.heap[gm]? = some (.cells #[.int .i64 0, .int .i64 0, .int .i64 0, .slice none 0 0] 24 (0, 0))) (hg : w.heap.size ≤ gm) (a b : Value) : ((((W.setCell ⟨gm, 0, none⟩ a).setCell ⟨gm, 1, none⟩ b).setCell ⟨gm, 2, none⟩ (.int .i64 0)).setCell ⟨gm, 3, none⟩ (.slice none 0 0)).heap[gm]? = some (.cells #[a, b, .int .i64 0, .slice none 0 0] 24 (0, 0)) ∧ Below w.heap.size w ((((W.setCell ⟨gm, 0, none⟩ a).setCell ⟨gm, 1, none⟩ b).setCell ⟨gm, 2, none⟩ (.int .i64 0)).setCell ⟨gm, 3, none⟩ (.slice none 0 0)) :=
 ⟨four_set hz, (((hb.setCell hg _).setCell hg _).setCell hg _).setCell hg _⟩
set_option linter.unusedSimpArgs false in
set_option maxRecDepth 100000 in
set_option maxHeartbeats 8000000 in
theorem docCollapse_any (n : Nat) (k s : Int) (v : Value) (es : List Sy.Ed) (w : World) (hv : HasE w v es) (hq : Sy.right n k s es = true) :
 Calls Tryz.prog 14 #[sysV n k s v] w fun r w' => ∃ (ue u : Value) (cl : List Nat), r = .returned (.tuple #[sysV (tog cl) k (sta n cl s) ue, u]) ∧ Cl n es cl ∧ BEdges.Own w' w.heap.size ue (Sy.nf (btw cl es)) ∧ OwnI w' w.heap.size u (natI cl) ∧ Below w.heap.size w w' := by
 obtain ⟨i0, hi0, hz0, hz1, hz2⟩ := info_parts BEdges.Tryz.infoE
 have hvs := hv
 obtain ⟨va, vc, rfl, hcap, hH⟩ := hvs
 obtain ⟨L, hL⟩ : ∃ L, L = es.length := ⟨_, rfl⟩
 rw [← hL] at hcap hv ⊢
 obtain ⟨w1, hw1⟩ : ∃ w1, w1 = (w.alloc (.cells #[.int .i64 n, .int .i64 k, .int .i64 s, .slice va L vc] 24)).alloc (.cells #[.int .i64 0, .int .i64 0, .int .i64 0, .slice none 0 0] 24) := ⟨_, rfl⟩
 have hb1 : Below w.heap.size w w1 := by rw [hw1]; exact ((Below.refl _ _).alloc (Nat.le_refl _) _).alloc (by simp) _
 have hr1 : w1.heap[w.heap.size + 1]? = some (.cells #[.int .i64 0, .int .i64 0, .int .i64 0, .slice none 0 0] 24 (0, 0)) := by rw [hw1]; exact two_alloc w _ _
 have hg1 : w1.heap[w.heap.size]? = some (.cells #[.int .i64 n, .int .i64 k, .int .i64 s, .slice va L vc] 24 (0, 0)) := by rw [hw1, Below.heap_alloc _ _ _ (by simp)]; exact heap_alloc_new w _
 have hC := docCycles_any n k s (.slice va L vc) es w1 (hv.below hb1) hq
 have hlen : L ≤ 10000 := by rw [hL]; exact (right_parts hq).2.2.1
 obtain ⟨x0, x1, x2, x3⟩ := four_cells hg1
 have hHw : BEdges.Has w (.slice va L vc) es := by rw [hL]; exact hH
 unfold sysV at hC ⊢
 have H1 : Hid _ := And.intro hw1 (And.intro hb1 (And.intro hr1 (And.intro hg1 (And.intro hHw (And.intro hL hq)))))
 have HC : Hid _ := hC
 clear hv hcap hH hHw hL hw1 hb1 hr1 hg1 hC hq
 go_enter Tryz.func14, Tryz.ntmps14
 go_upto_region 1 with fail
 rw [← H1.out.1]
 go_wp2_with fail
 refine Calls.mono HC.out ?_
 rintro r w2 ⟨u, cl, rfl, hCl, hOc, hb2⟩
 obtain ⟨au, cu, hu⟩ := row_shape hOc
 have hcn : (natI cl).length = n := by simp [natI, hCl.len]
 rw [hcn] at hu
 subst hu
 have hT := fun W (hb : Below w2.heap.size w2 W) => refTogether_any (.slice au n cu) (natI cl) W (OwnI.has (own_up4 hOc hb)) (by rw [hcn]; have := (right_parts H1.out.2.2.2.2.2.2).1.2; omega)
 obtain ⟨tg, htg⟩ : ∃ t : Nat, t = tog cl := ⟨_, rfl⟩
 have hT' : ∀ W, Below w2.heap.size w2 W → Calls Tryz.prog 35 #[.slice au n cu] W fun e w' => e = .returned (.int .i64 (tg : Int)) ∧ Below W.heap.size W w' := fun W hb => by rw [htg]; exact hT W hb
 have hb12 := H1.out.2.1.trans (hb2.mono H1.out.2.1.size)
 have hg2 := (hb2.block _ (t_lt H1.out.2.2.2.1)).trans H1.out.2.2.2.1
 have hr2 := (hb2.block _ (t_lt H1.out.2.2.1)).trans H1.out.2.2.1
 clear x0 x1 x2 x3 hT
 obtain ⟨x0, x1, x2, x3⟩ := four_cells hg2
 have c1 := x1
 have HT : Hid _ := hT'
 have H2 : Hid _ := And.intro hCl (And.intro hOc (And.intro hb12 (And.intro hg2 (And.intro hr2 (And.intro htg hcn)))))
 clear hCl hOc hb2 hb12 hg2 hr2 htg hcn hT'
 go_upto_region 2 with fail
 go_cut [5] (fun s5 wx => ∃ gm : Nat, s5 = .pointer (some ⟨gm, 0, none⟩) ∧ w2.heap.size ≤ gm ∧ wx.heap[gm]? = some (.cells #[.int .i64 tg, .int .i64 k, .int .i64 0, .slice none 0 0] 24 (0, 0)) ∧ Below w2.heap.size w2 wx)
 case first =>
  refine wp_region_held_drew (S := (fun w' => w'.cell? ⟨w.heap.size, 1, none⟩ = some (.int .i64 k))) (by kernel_rfl) ?_ (fun hHeld => ?_)
  ·exact c1
  have hb0 : Below w2.heap.size w2 w2.drew := (Below.refl _ _).drew
  refine tk9 0 ?_ rfl (by kernel_rfl) (fun _ _ _ h => h) ⟨by rfl, ?_⟩ (by assumption) ?_; rotate_left; (focus (intro w hSw; (try dsimp only at hSw); go_simp; (try with_reducible rfl))); (try simp only [ty9, Act.put])
  refine tk9 2 ?_ rfl (by kernel_rfl) (fun _ _ _ h => h) ⟨by rfl, ?_⟩ (by assumption) ?_; rotate_left; (focus (intro w hSw; (try dsimp only at hSw); go_simp; (try with_reducible rfl))); (try simp only [ty9, Act.put])
  refine tk9 3 ?_ rfl (by kernel_rfl) (fun _ _ _ h => h) ⟨by rfl, ?_⟩ (by assumption) ?_; rotate_left; (focus (intro w hSw; (try dsimp only at hSw); go_simp; (try with_reducible rfl))); (try simp only [ty9, Act.put])
  refine wpAnyH_ready (rs := [1, 5]) (by kernel_rfl) (by simp) ?_
  refine AllReadyH.cons (o := _) rfl (fun K hK => ?_) ?_
  ·(go_simp; go_at_call 35; refine Calls.mono (HT.out _ hb0) ?_; rintro r4 w4 ⟨rfl, hb⟩; have hb4 : Below w2.heap.size w2 w4 := hb0.trans (hb.mono hb0.size); have HB4 : Hid _ := hb; clear hb)
   (try go_wp2_with fail)
   refine hK.out _ _ ?_ (fun hHeld => ?_)
   ·exact cell_up c1 hb4
   clear hK K
   (try simp only [ty9, Act.put])
   refine tk9 4 ?_ rfl (by kernel_rfl) (fun _ _ _ h => h) ⟨by rfl, ?_⟩ (by assumption) ?_; rotate_left; (focus (intro w hSw; (try dsimp only at hSw); go_simp; (try with_reducible rfl))); (try simp only [ty9, Act.put])
   refine wpAnyH_ready (rs := [5]) (by kernel_rfl) (by simp) ?_
   refine AllReadyH.cons (o := _) rfl (fun K hK => ?_) ?_
   ·(go_simp)
    (try go_wp2_with fail)
    refine hK.out _ _ ?_ (fun hHeld => ?_)
    ·exact cell_al hHeld _
    clear hK K
    obtain ⟨wa, hwa⟩ : ∃ wa, wa = w4.alloc (.cells #[.int .i64 0, .int .i64 0, .int .i64 0, .slice none 0 0] 24) := ⟨_, rfl⟩
    obtain ⟨gm, hgm⟩ : ∃ gm, gm = w4.heap.size := ⟨_, rfl⟩
    have hza : wa.heap[gm]? = some (.cells #[.int .i64 0, .int .i64 0, .int .i64 0, .slice none 0 0] 24 (0, 0)) := (by rw [hwa, hgm]; exact heap_alloc_new w4 _)
    have hba : Below w2.heap.size w2 wa := (by rw [hwa]; exact (hb4.alloc hb4.size _))
    have hgu : w2.heap.size ≤ gm := (by rw [hgm]; exact hb4.size)
    rw [← hwa, ← hgm]
    rw [← hwa] at hHeld
    clear hwa hgm
    (try simp only [ty9, Act.put])
    have hz : wa.heap[gm]? = some (.cells #[.int .i64 0, .int .i64 0, .int .i64 0, .slice none 0 0] 24 (0, 0)) := hza
    obtain ⟨z0, z1, z2, z3⟩ := four_cells hz
    have f0 := blk_free hz 0
    have f1 := blk_free hz 1
    have f2 := blk_free hz 2
    have f3 := blk_free hz 3
    have H9 := dcol_store hba hz hgu (.int .i64 tg) (.int .i64 k)
    have HZ : Hid _ := H9
    clear H9 hz
    refine wpAnyH_ready (rs := [6]) (by kernel_rfl) (by simp) ?_
    refine AllReadyH.cons (o := _) rfl (fun K hK => ?_) ?_
    ·(go_simp)
     (try go_wp2_with fail)
     refine hK.out _ _ ?_ (fun hHeld => ?_)
     ·exact cell_up c1 HZ.out.2
     clear hK K
     (try simp only [ty9, Act.put])
     refine wpAnyH_done (by kernel_rfl) ?_ _
     refine Met.intro ?_
     apply_assumption
     refine Met.intro ?_
     apply_assumption
     (repeat apply Exists.intro)
     refine ⟨?_, rfl⟩
     exact ⟨gm, rfl, hgu, HZ.out.1, HZ.out.2⟩
    exact AllReadyH.nil
   exact AllReadyH.nil
  refine AllReadyH.cons (o := _) rfl (fun K hK => ?_) ?_
  ·(go_simp)
   (try go_wp2_with fail)
   refine hK.out _ _ ?_ (fun hHeld => ?_)
   ·exact cell_al hHeld _
   clear hK K
   obtain ⟨wa, hwa⟩ : ∃ wa, wa = (w2.alloc (.cells #[.int .i64 0, .int .i64 0, .int .i64 0, .slice none 0 0] 24)).drew := ⟨_, rfl⟩
   obtain ⟨gm, hgm⟩ : ∃ gm, gm = w2.heap.size := ⟨_, rfl⟩
   have hza : wa.heap[gm]? = some (.cells #[.int .i64 0, .int .i64 0, .int .i64 0, .slice none 0 0] 24 (0, 0)) := (by rw [hwa, hgm]; exact heap_alloc_new w2 _)
   have hba : Below w2.heap.size w2 wa := (by rw [hwa]; exact ((Below.refl w2.heap.size w2).alloc (Below.refl w2.heap.size w2).size _).drew)
   have hgu : w2.heap.size ≤ gm := (by rw [hgm]; exact (Below.refl w2.heap.size w2).size)
   rw [← hwa, ← hgm]
   rw [← hwa] at hHeld
   clear hwa hgm
   (try simp only [ty9, Act.put])
   refine wpAnyH_ready (rs := [1]) (by kernel_rfl) (by simp) ?_
   refine AllReadyH.cons (o := _) rfl (fun K hK => ?_) ?_
   ·(go_simp; go_at_call 35; refine Calls.mono (HT.out _ hba) ?_; rintro r4 w4 ⟨rfl, hb⟩; have hb4 : Below w2.heap.size w2 w4 := hba.trans (hb.mono hba.size); have HB4 : Hid _ := hb; clear hb)
    (try go_wp2_with fail)
    refine hK.out _ _ ?_ (fun hHeld => ?_)
    ·exact cell_up c1 hb4
    clear hK K
    (try simp only [ty9, Act.put])
    refine tk9 4 ?_ rfl (by kernel_rfl) (fun _ _ _ h => h) ⟨by rfl, ?_⟩ (by assumption) ?_; rotate_left; (focus (intro w hSw; (try dsimp only at hSw); go_simp; (try with_reducible rfl))); (try simp only [ty9, Act.put])
    have hz : w4.heap[gm]? = some (.cells #[.int .i64 0, .int .i64 0, .int .i64 0, .slice none 0 0] 24 (0, 0)) := (HB4.out.block _ (t_lt hza)).trans hza
    obtain ⟨z0, z1, z2, z3⟩ := four_cells hz
    have f0 := blk_free hz 0
    have f1 := blk_free hz 1
    have f2 := blk_free hz 2
    have f3 := blk_free hz 3
    have H9 := dcol_store hb4 hz hgu (.int .i64 tg) (.int .i64 k)
    have HZ : Hid _ := H9
    clear H9 hz
    refine wpAnyH_ready (rs := [6]) (by kernel_rfl) (by simp) ?_
    refine AllReadyH.cons (o := _) rfl (fun K hK => ?_) ?_
    ·(go_simp)
     (try go_wp2_with fail)
     refine hK.out _ _ ?_ (fun hHeld => ?_)
     ·exact cell_up c1 HZ.out.2
     clear hK K
     (try simp only [ty9, Act.put])
     refine wpAnyH_done (by kernel_rfl) ?_ _
     refine Met.intro ?_
     apply_assumption
     refine Met.intro ?_
     apply_assumption
     (repeat apply Exists.intro)
     refine ⟨?_, rfl⟩
     exact ⟨gm, rfl, hgu, HZ.out.1, HZ.out.2⟩
    exact AllReadyH.nil
   exact AllReadyH.nil
  exact AllReadyH.nil
 case rest =>
  obtain ⟨gm, rfl, hgu, hgm, hbc⟩ := hcut
  clear x0 x1 x2 x3 c1
  obtain ⟨w5, rfl⟩ : ∃ w5, w5 = wc := ⟨_, rfl⟩
  have hgc := (hbc.block _ (t_lt H2.out.2.2.2.1)).trans H2.out.2.2.2.1
  obtain ⟨x0, x1, x2, x3⟩ := four_cells hgc
  obtain ⟨m0, m1, m2, m3⟩ := four_cells hgm
  have g2 := blk_free hgm 2
  have hOw := own_up4 H2.out.2.1 hbc
  have HM : Hid _ := And.intro hgu (And.intro hgm (And.intro hbc (And.intro hgc hOw)))
  clear hgu hgm hbc hgc hOw
  go_upto_if 18 with fail
  go_cut [18] (fun s18 wx => ∃ b : Bool, s18 = .bool b ∧ wx.heap[gm]? = some (.cells #[.int .i64 tg, .int .i64 k, .int .i64 (sta n cl s), .slice none 0 0] 24 (0, 0)) ∧ Kept (fun b => b = gm) w5 wx)
  case first =>
   by_cases hn : 0 < n
   ·have n1 : (0 : Int) < (n : Int) := by omega
    have hr := (right_parts H1.out.2.2.2.2.2.2).2.2.2.2.1 n1
    obtain ⟨p, hp⟩ : ∃ p : Nat, s = (p : Int) := ⟨s.toNat, by omega⟩
    obtain ⟨x, hx⟩ : ∃ x, cl[p]? = some x := ⟨_, List.getElem?_eq_getElem (by rw [H2.out.1.len]; omega)⟩
    obtain ⟨gc, cc, hc1, d0⟩ := own_cell HM.out.2.2.2.2 (natI_at hx)
    simp only [Value.slice.injEq] at hc1
    obtain ⟨rfl, -, -⟩ := hc1
    have hsta : sta n cl s = (x : Int) := by unfold sta; rw [if_pos hn, hp, cla_at hx]
    have p0 : (0 : Int) ≤ (p : Int) := by omega
    have p1 : (p : Int) < (n : Int) := by omega
    rw [hp] at x2
    have HS : Hid _ := hsta
    clear hr hp hx hsta hn
    go_wp2_with fail
    go_meet
    exact ⟨_, rfl, by rw [HS.out]; exact heap_setCell_same w5 gm 2 _ _ _ HM.out.2.1, Kept.setCell w5 gm 2 _⟩
   ·have n1 : ¬ (0 : Int) < (n : Int) := by omega
    have hsta : sta n cl s = 0 := by unfold sta; rw [if_neg hn]
    have HS : Hid _ := hsta
    clear hn hsta
    go_wp2_with fail
    go_meet
    exact ⟨_, rfl, by rw [HS.out]; exact HM.out.2.1, Kept.refl _ _⟩
  case rest =>
   obtain ⟨b18, rfl, hgm, hK⟩ := hcut
   have b5c : Below w2.heap.size w2 wc := HM.out.2.2.1.trans (hK.below HM.out.2.2.1.size fun x hx => by have := HM.out.1; omega)
   have hgc := (b5c.block _ (t_lt H2.out.2.2.2.1)).trans H2.out.2.2.2.1
   have hrc := (b5c.block _ (t_lt H2.out.2.2.2.2.1)).trans H2.out.2.2.2.2.1
   have hOw := own_up4 H2.out.2.1 b5c
   have bw : Below w.heap.size w wc := H2.out.2.2.1.trans (b5c.mono H2.out.2.2.1.size)
   clear x0 x1 x2 x3 m0 m1 m2 m3 g2
   obtain ⟨x0, x1, x2, x3⟩ := four_cells hgc
   have HN : Hid _ := And.intro hgm (And.intro hgc (And.intro hrc (And.intro hOw bw)))
   clear hgm hK b5c hgc hrc hOw bw
   go_wp2_with fail
   go_loopg [6, 7] L (fun q s6 s7 wx => ∃ j : Nat, q = L - j ∧ j ≤ L ∧ s7 = .int .i64 j ∧ BEdges.Own wx wc.heap.size s6 (btw cl (es.take j)) ∧ Below wc.heap.size wc wx)
   case atStart => exact ⟨0, rfl, Nat.zero_le _, rfl, World.ownsRow_nil _ _ _ _, Below.refl _ _⟩
   case round =>
    obtain ⟨j, rfl, hj, rfl, hO, hbl⟩ := hrel
    clear x0 x1 x2 x3
    obtain ⟨x0, x1, x2, x3⟩ := four_cells ((hbl.block _ (t_lt HN.out.2.1)).trans HN.out.2.1)
    by_cases hlt : j < L
    ·obtain ⟨⟨e1, e2, e3⟩, hz⟩ : ∃ e, es[j]? = some e := ⟨es[j]'(by have := H1.out.2.2.2.2.2.1; omega), List.getElem?_eq_getElem _⟩
     have hin := (right_parts H1.out.2.2.2.2.2.2).2.2.2.2.2 _ (List.mem_of_getElem? hz)
     simp only at hin
     obtain ⟨p, rfl⟩ : ∃ p : Nat, e1 = (p : Int) := ⟨e1.toNat, by omega⟩
     obtain ⟨r3, rfl⟩ : ∃ p : Nat, e3 = (p : Int) := ⟨e3.toNat, by omega⟩
     have hcl := H2.out.1.len
     have gp : cl[p]? = some (cl[p]'(by omega)) := List.getElem?_eq_getElem _
     have gr : cl[r3]? = some (cl[r3]'(by omega)) := List.getElem?_eq_getElem _
     have hy1 := cla_at gp
     have hy3 := cla_at gr
     have b0 : Below w.heap.size w wr := HN.out.2.2.2.2.trans (hbl.mono HN.out.2.2.2.2.size)
     have hOr := own_up4 HN.out.2.2.2.1 hbl
     obtain ⟨gc, cc, hc1, d3⟩ := own_cell hOr (natI_at gp)
     obtain ⟨gc', cc', hc2, d4⟩ := own_cell hOr (natI_at gr)
     simp only [Value.slice.injEq] at hc1 hc2
     obtain ⟨rfl, -, -⟩ := hc1
     obtain ⟨hc3, -, -⟩ := hc2
     obtain rfl : gc = gc' := by injection hc3 with h; injection h
     clear hc3
     rw [← hy1] at d3
     rw [← hy3] at d4
     obtain ⟨a4, hae, d0, d1, d2⟩ := edge_at (H1.out.2.2.2.2.1.below b0) hz
     subst hae
     simp only at d0 d1 d2
     obtain ⟨y1, hY1⟩ : ∃ y, y = cla cl (p : Int) := ⟨_, rfl⟩
     obtain ⟨y3, hY3⟩ : ∃ y, y = cla cl (r3 : Int) := ⟨_, rfl⟩
     rw [← hY1] at d3
     rw [← hY3] at d4
     have hOn : Ts.onto cl ((p : Int), e2, (r3 : Int)) = (y1, e2, y3) := by unfold Ts.onto; rw [hY1, hY3]
     have hKp : keep cl ((p : Int), e2, (r3 : Int)) = !(decide (e2 = 0) && decide (y1 = y3)) := by unfold keep; rw [hY1, hY3]
     have htk : es.take (j + 1) = es.take j ++ [((p : Int), e2, (r3 : Int))] := by rw [List.take_add_one, hz]; rfl
     obtain ⟨al, cl6, hu⟩ := row_shape hO
     obtain ⟨N, hN⟩ : ∃ N, N = (btw cl (es.take j)).length := ⟨_, rfl⟩
     rw [← hN] at hu
     subst hu
     have hN1 : N ≤ j := by
      have h1 := btw_len cl (es.take j)
      rw [List.length_take] at h1
      omega
     have hml : N + 1 ≤ maxLen := by unfold maxLen; omega
     have hby : (N + 1) * 24 ≤ 140737488355328 := by omega
     have HS : Hid (∀ W, Below wr.heap.size wr W → (W.cell? ⟨w.heap.size, 3, none⟩ = some (.slice (some a4) L vc) ∧ W.cell? (a4.add (j * 3)) = some (.int .i64 p) ∧ W.cell? ⟨(a4.add (j * 3)).block, (a4.add (j * 3)).off + 1, none⟩ = some (.int .i64 e2) ∧ W.cell? ⟨(a4.add (j * 3)).block, (a4.add (j * 3)).off + 2, none⟩ = some (.int .i64 r3) ∧ W.cell? ⟨gc, p, none⟩ = some (.int .i64 y1) ∧ W.cell? ⟨gc, r3, none⟩ = some (.int .i64 y3))) := (fun W hb => ⟨cell_up x3 hb, (hb.cell (World.block_lt_of_cell? _ _ d0)).trans d0, cell_up d1 hb, cell_up d2 hb, cell_up d3 hb, cell_up d4 hb⟩ : ∀ W, Below wr.heap.size wr W → (W.cell? ⟨w.heap.size, 3, none⟩ = some (.slice (some a4) L vc) ∧ W.cell? (a4.add (j * 3)) = some (.int .i64 p) ∧ W.cell? ⟨(a4.add (j * 3)).block, (a4.add (j * 3)).off + 1, none⟩ = some (.int .i64 e2) ∧ W.cell? ⟨(a4.add (j * 3)).block, (a4.add (j * 3)).off + 2, none⟩ = some (.int .i64 r3) ∧ W.cell? ⟨gc, p, none⟩ = some (.int .i64 y1) ∧ W.cell? ⟨gc, r3, none⟩ = some (.int .i64 y3)))
     have p0 : (0 : Int) ≤ (j : Int) := by omega
     have p1 : (j : Int) < (L : Int) := by omega
     have p2 : (0 : Int) ≤ (p : Int) := by omega
     have p3 : (p : Int) < (n : Int) := by omega
     have p4 : (0 : Int) ≤ (r3 : Int) := by omega
     have p5 : (r3 : Int) < (n : Int) := by omega
     have p6 : IntKind.i64.wrap ((j : Int) + 1) = (j : Int) + 1 := by rw [IntKind.wrap_i64]; omega
     have HB : Hid _ := And.intro hO (And.intro hbl (And.intro hN (And.intro htk (And.intro hOn hKp))))
     clear hO hbl hN htk hOn hKp hin hcl gp gr hy1 hy3 hY1 hY3 b0 hOr hz d0 d1 d2 d3 d4 hN1
     go_upto_region 9 with fail
     refine wp_region_held_drew (S := (fun W => W.cell? ⟨w.heap.size, 3, none⟩ = some (.slice (some a4) L vc) ∧ W.cell? (a4.add (j * 3)) = some (.int .i64 p) ∧ W.cell? ⟨(a4.add (j * 3)).block, (a4.add (j * 3)).off + 1, none⟩ = some (.int .i64 e2) ∧ W.cell? ⟨(a4.add (j * 3)).block, (a4.add (j * 3)).off + 2, none⟩ = some (.int .i64 r3) ∧ W.cell? ⟨gc, p, none⟩ = some (.int .i64 y1) ∧ W.cell? ⟨gc, r3, none⟩ = some (.int .i64 y3))) (by kernel_rfl) ?_ (fun hHeld => ?_)
     ·exact HS.out _ ((Below.refl _ _).drew)
     refine tk9 0 ?_ rfl (by kernel_rfl) (fun _ _ _ h => h) ⟨by rfl, ?_⟩ (by assumption) ?_; rotate_left; (focus (intro w hSw; (try dsimp only at hSw); go_simp; (try with_reducible rfl))); (try simp only [ty9, Act.put])
     refine tk9 1 ?_ rfl (by kernel_rfl) (fun _ _ _ h => h) ⟨by rfl, ?_⟩ (by assumption) ?_; rotate_left; (focus (intro w hSw; (try dsimp only at hSw); go_simp; (try with_reducible rfl))); (try simp only [ty9, Act.put])
     refine tk9 2 ?_ rfl (by kernel_rfl) (fun _ _ _ h => h) ⟨by rfl, ?_⟩ (by assumption) ?_; rotate_left; (focus (intro w hSw; (try dsimp only at hSw); go_simp; (try with_reducible rfl))); (try simp only [ty9, Act.put])
     refine tk9 3 ?_ rfl (by kernel_rfl) (fun _ _ _ h => h) ⟨by rfl, ?_⟩ (by assumption) ?_; rotate_left; (focus (intro w hSw; (try dsimp only at hSw); go_simp; (try with_reducible rfl))); (try simp only [ty9, Act.put])
     refine tk9 4 ?_ rfl (by kernel_rfl) (fun _ _ _ h => h) ⟨by rfl, ?_⟩ (by assumption) ?_; rotate_left; (focus (intro w hSw; (try dsimp only at hSw); go_simp; (try with_reducible rfl))); (try simp only [ty9, Act.put])
     refine tk9 5 ?_ rfl (by kernel_rfl) (fun _ _ _ h => h) ⟨by rfl, ?_⟩ (by assumption) ?_; rotate_left; (focus (intro w hSw; (try dsimp only at hSw); go_simp; (try with_reducible rfl))); (try simp only [ty9, Act.put])
     refine tk9 6 ?_ rfl (by kernel_rfl) (fun _ _ _ h => h) ⟨by rfl, ?_⟩ (by assumption) ?_; rotate_left; (focus (intro w hSw; (try dsimp only at hSw); go_simp; (try with_reducible rfl))); (try simp only [ty9, Act.put])
     refine tk9 7 ?_ rfl (by kernel_rfl) (fun _ _ _ h => h) ⟨by rfl, ?_⟩ (by assumption) ?_; rotate_left; (focus (intro w hSw; (try dsimp only at hSw); go_simp; (try with_reducible rfl))); (try simp only [ty9, Act.put])
     refine tk9 8 ?_ rfl (by kernel_rfl) (fun _ _ _ h => h) ⟨by rfl, ?_⟩ (by assumption) ?_; rotate_left; (focus (intro w hSw; (try dsimp only at hSw); go_simp; (try with_reducible rfl))); (try simp only [ty9, Act.put])
     refine tk9 9 ?_ rfl (by kernel_rfl) (fun _ _ _ h => h) ⟨by rfl, ?_⟩ (by assumption) ?_; rotate_left; (focus (intro w hSw; (try dsimp only at hSw); go_simp; (try with_reducible rfl))); (try simp only [ty9, Act.put])
     refine tk9 10 ?_ rfl (by kernel_rfl) (fun _ _ _ h => h) ⟨by rfl, ?_⟩ (by assumption) ?_; rotate_left; (focus (intro w hSw; (try dsimp only at hSw); go_simp; (try with_reducible rfl))); (try simp only [ty9, Act.put])
     refine tk9 11 ?_ rfl (by kernel_rfl) (fun _ _ _ h => h) ⟨by rfl, ?_⟩ (by assumption) ?_; rotate_left; (focus (intro w hSw; (try dsimp only at hSw); go_simp; (try with_reducible rfl))); (try simp only [ty9, Act.put])
     refine tk9 12 ?_ rfl (by kernel_rfl) (fun _ _ _ h => h) ⟨by rfl, ?_⟩ (by assumption) ?_; rotate_left; (focus (intro w hSw; (try dsimp only at hSw); go_simp; (try with_reducible rfl))); (try simp only [ty9, Act.put])
     refine tk9 13 ?_ rfl (by kernel_rfl) (fun _ _ _ h => h) ⟨by rfl, ?_⟩ (by assumption) ?_; rotate_left; (focus (intro w hSw; (try dsimp only at hSw); go_simp; (try with_reducible rfl))); (try simp only [ty9, Act.put])
     refine tk9 14 ?_ rfl (by kernel_rfl) (fun _ _ _ h => h) ⟨by rfl, ?_⟩ (by assumption) ?_; rotate_left; (focus (intro w hSw; (try dsimp only at hSw); go_simp; (try with_reducible rfl))); (try simp only [ty9, Act.put])
     refine tk9 15 ?_ rfl (by kernel_rfl) (fun _ _ _ h => h) ⟨by rfl, ?_⟩ (by assumption) ?_; rotate_left; (focus (intro w hSw; (try dsimp only at hSw); go_simp; (try with_reducible rfl))); (try simp only [ty9, Act.put])
     refine tk9 16 ?_ rfl (by kernel_rfl) (fun _ _ _ h => h) ⟨by rfl, ?_⟩ (by assumption) ?_; rotate_left; (focus (intro w hSw; (try dsimp only at hSw); go_simp; (try with_reducible rfl))); (try simp only [ty9, Act.put])
     refine tk9 17 ?_ rfl (by kernel_rfl) (fun _ _ _ h => h) ⟨by rfl, ?_⟩ (by assumption) ?_; rotate_left; (focus (intro w hSw; (try dsimp only at hSw); go_simp; (try with_reducible rfl))); (try simp only [ty9, Act.put])
     refine tk9 18 ?_ rfl (by kernel_rfl) (fun _ _ _ h => h) ⟨by rfl, ?_⟩ (by assumption) ?_; rotate_left; (focus (intro w hSw; (try dsimp only at hSw); go_simp; (try with_reducible rfl))); (try simp only [ty9, Act.put])
     refine tk9 19 ?_ rfl (by kernel_rfl) (fun _ _ _ h => h) ⟨by rfl, ?_⟩ (by assumption) ?_; rotate_left; (focus (intro w hSw; (try dsimp only at hSw); go_simp; (try with_reducible rfl))); (try simp only [ty9, Act.put])
     refine tk9 20 ?_ rfl (by kernel_rfl) (fun _ _ _ h => h) ⟨by rfl, ?_⟩ (by assumption) ?_; rotate_left; (focus (intro w hSw; (try dsimp only at hSw); go_simp; (try with_reducible rfl))); (try simp only [ty9, Act.put])
     refine tk9 21 ?_ rfl (by kernel_rfl) (fun _ _ _ h => h) ⟨by rfl, ?_⟩ (by assumption) ?_; rotate_left; (focus (intro w hSw; (try dsimp only at hSw); go_simp; (try with_reducible rfl))); (try simp only [ty9, Act.put])
     refine tk9 22 ?_ rfl (by kernel_rfl) (fun _ _ _ h => h) ⟨by rfl, ?_⟩ (by assumption) ?_; rotate_left; (focus (intro w hSw; (try dsimp only at hSw); go_simp; (try with_reducible rfl))); (try simp only [ty9, Act.put])
     refine tk9 23 ?_ rfl (by kernel_rfl) (fun _ _ _ h => h) ⟨by rfl, ?_⟩ (by assumption) ?_; rotate_left; (focus (intro w hSw; (try dsimp only at hSw); go_simp; (try with_reducible rfl))); (try simp only [ty9, Act.put])
     refine tk9 24 ?_ rfl (by kernel_rfl) (fun _ _ _ h => h) ⟨by rfl, ?_⟩ (by assumption) ?_; rotate_left; (focus (intro w hSw; (try dsimp only at hSw); go_simp; (try with_reducible rfl))); (try simp only [ty9, Act.put])
     refine wpAnyH_ready (rs := [25]) (by kernel_rfl) (by simp) ?_
     refine AllReadyH.cons (o := _) rfl (fun K hK => ?_) ?_
     ·(go_simp)
      (try go_wp2_with fail)
      refine hK.out _ _ ?_ (fun hHeld => ?_)
      ·exact HS.out _ (by repeat (first | exact Below.refl _ _ | refine Below.drew ?_ | refine Below.setCell ?_ (by simp) _ | refine Below.alloc ?_ (by simp) _))
      clear hK K
      (try simp only [ty9, Act.put])
      refine wpAnyH_ready (rs := [26]) (by kernel_rfl) (by simp) ?_
      refine AllReadyH.cons (o := _) rfl (fun K hK => ?_) ?_
      ·(go_simp)
       (try go_wp2_with fail)
       refine hK.out _ _ ?_ (fun hHeld => ?_)
       ·exact HS.out _ (by repeat (first | exact Below.refl _ _ | refine Below.drew ?_ | refine Below.setCell ?_ (by simp) _ | refine Below.alloc ?_ (by simp) _))
       clear hK K
       (try simp only [ty9, Act.put])
       refine wpAnyH_done (by kernel_rfl) ?_ _
       (try go_simp)
       obtain ⟨w6, hw6⟩ : ∃ w6, w6 = (wr.alloc (.cells #[.int .i64 y1, .int .i64 e2, .int .i64 y3] 61)).drew := ⟨_, rfl⟩
       rw [← hw6]
       have hb6 : Below wr.heap.size wr w6 := by rw [hw6]; exact ((Below.refl _ _).alloc (Nat.le_refl _) _).drew
       have hx6 : w6.heap[wr.heap.size]? = some (.cells #[.int .i64 y1, .int .i64 e2, .int .i64 y3] 61 (0, 0)) := by rw [hw6]; exact heap_alloc_new wr _
       have f0 : w6.cell? ⟨wr.heap.size, 0, none⟩ = some (.int .i64 y1) := cell0_of hx6 rfl
       have f1 : w6.cell? ⟨wr.heap.size, 1, none⟩ = some (.int .i64 e2) := cell0_of hx6 rfl
       have f2 : w6.cell? ⟨wr.heap.size, 2, none⟩ = some (.int .i64 y3) := cell0_of hx6 rfl
       have hO1 : w6.ownsRow wc.heap.size 61 3 (.slice al N cl6) N (BEdges.C (btw cl (es.take j))) := by
        have h1 := HB.out.1
        unfold BEdges.Own at h1
        rw [← HB.out.2.2.1] at h1
        exact trow_at h1 fun b hb => hb6.block b (h1.lt b hb).2
       have hl1 : wc.heap.size ≤ w6.heap.size := Nat.le_trans HB.out.2.1.size hb6.size
       have hle : wc.heap.size ≤ (w6.alloc (.cells #[.int .i64 y1, .int .i64 e2, .int .i64 y3] 61)).heap.size := by rw [World.size_alloc]; omega
       have HW : Hid _ := And.intro hb6 (And.intro hO1 hl1)
       clear hw6 hb6 hx6 hO1 hl1 hHeld x0 x1 x2 x3
       by_cases h20 : e2 = 0
       ·subst h20
        by_cases h13 : y1 = y3
        ·have o3 : (y1 != y3) = false := by simp [h13]
         have HK : Hid _ := (by rw [HB.out.2.2.2.2.2]; simp [h13] : keep cl ((p : Int), 0, (r3 : Int)) = false)
         clear h13
         go_wp2_with fail
         go_roundg (L - (j + 1))
         case measure => omega
         case rel =>
          refine ⟨j + 1, rfl, by omega, by go_num, ?_, HB.out.2.1.trans (HW.out.1.mono HB.out.2.1.size)⟩
          rw [HB.out.2.2.2.1, btw_snoc, if_neg (by rw [HK.out]; simp)]
          unfold BEdges.Own
          rw [← HB.out.2.2.1]
          exact HW.out.2.1
        ·have o3 : (y1 != y3) = true := by simp [h13]
         have HK : Hid _ := (by rw [HB.out.2.2.2.2.2]; simp [h13] : keep cl ((p : Int), 0, (r3 : Int)) = true)
         clear h13
         go_wp2_with (at_builtin; refine wpList_append_own_at _ rfl _ _ 22 rfl wc.heap.size 61 i0 (.agg #[.int .i64 0, .int .i64 0, .int .i64 0]) 3 24 Tryz.underlying22 hi0 hz0 hz1 hz2 rfl (by decide) (.slice al N cl6) N (BEdges.C (btw cl (es.take j))) rfl (HW.out.2.1.alloc _) ⟨w6.heap.size, 0, none⟩ 1 1 [.int .i64 y1, .int .i64 0, .int .i64 y3] rfl rfl (World.news_of_block (cs := #[.int .i64 y1, .int .i64 0, .int .i64 y3]) (t := 61) (fr := (0, 0)) (heap_alloc_new w6 _)) (by simp [Value.oneCell']) hml hby hle ?_; intro v7 w7 hO7 hg7 hnil7 hat7; have hk7 := grown_alloc hg7; have H7 : Hid _ := And.intro hO7 hk7; clear hO7 hg7 hk7 hnil7 hat7)
         go_roundg (L - (j + 1))
         case measure => omega
         case rel =>
          have h1 := edges_grow (HB.out.2.1.trans (HW.out.1.mono HB.out.2.1.size)) (L := btw cl (es.take j)) (by unfold BEdges.Own; rw [← HB.out.2.2.1]; exact HW.out.2.1) HB.out.2.2.1 (y1, 0, y3) H7.out.1 H7.out.2
          refine ⟨j + 1, rfl, by omega, by go_num, ?_, h1.1⟩
          rw [HB.out.2.2.2.1, btw_snoc, if_pos HK.out, HB.out.2.2.2.2.1]
          exact h1.2
       ·have o2 : (e2 != 0) = true := by simp [h20]
        have HK : Hid _ := (by rw [HB.out.2.2.2.2.2]; simp [h20] : keep cl ((p : Int), e2, (r3 : Int)) = true)
        clear h20
        go_wp2_with (at_builtin; refine wpList_append_own_at _ rfl _ _ 22 rfl wc.heap.size 61 i0 (.agg #[.int .i64 0, .int .i64 0, .int .i64 0]) 3 24 Tryz.underlying22 hi0 hz0 hz1 hz2 rfl (by decide) (.slice al N cl6) N (BEdges.C (btw cl (es.take j))) rfl (HW.out.2.1.alloc _) ⟨w6.heap.size, 0, none⟩ 1 1 [.int .i64 y1, .int .i64 e2, .int .i64 y3] rfl rfl (World.news_of_block (cs := #[.int .i64 y1, .int .i64 e2, .int .i64 y3]) (t := 61) (fr := (0, 0)) (heap_alloc_new w6 _)) (by simp [Value.oneCell']) hml hby hle ?_; intro v7 w7 hO7 hg7 hnil7 hat7; have hk7 := grown_alloc hg7; have H7 : Hid _ := And.intro hO7 hk7; clear hO7 hg7 hk7 hnil7 hat7)
        go_roundg (L - (j + 1))
        case measure => omega
        case rel =>
         have h1 := edges_grow (HB.out.2.1.trans (HW.out.1.mono HB.out.2.1.size)) (L := btw cl (es.take j)) (by unfold BEdges.Own; rw [← HB.out.2.2.1]; exact HW.out.2.1) HB.out.2.2.1 (y1, e2, y3) H7.out.1 H7.out.2
         refine ⟨j + 1, rfl, by omega, by go_num, ?_, h1.1⟩
         rw [HB.out.2.2.2.1, btw_snoc, if_pos HK.out, HB.out.2.2.2.2.1]
         exact h1.2
      exact AllReadyH.nil
     exact AllReadyH.nil
    ·obtain rfl : L = j := by omega
     have p1 : ¬ (L : Int) < (L : Int) := by omega
     rw [List.take_of_length_le (by have := H1.out.2.2.2.2.2.1; omega)] at hO
     have hbL := btw_len cl es
     have hSo := refSorted_any _ _ wr (own_hasE hO) (by have := H1.out.2.2.2.2.2.1; omega)
     unfold SortedAt at hSo
     obtain ⟨al, cl6, hu⟩ := row_shape hO
     obtain ⟨N, hN⟩ : ∃ N, N = (btw cl es).length := ⟨_, rfl⟩
     rw [← hN] at hu
     subst hu
     have HB : Hid _ := And.intro hbl hSo
     clear hO hbl hN hbL hSo hj hlt
     go_upto_region 12 with fail
     go_wp2_with fail
     refine Calls.mono HB.out.2 ?_
     rintro r6 w6 ⟨ue, rfl, hOe, hb6⟩
     obtain ⟨ae, ce, hue⟩ := row_shape hOe
     obtain ⟨le, hle⟩ : ∃ l, l = (Sy.nf (btw cl es)).length := ⟨_, rfl⟩
     rw [← hle] at hue
     subst hue
     have bc6 : Below wc.heap.size wc w6 := HB.out.1.trans (hb6.mono HB.out.1.size)
     have hg6 := (bc6.block _ (t_lt HN.out.1)).trans HN.out.1
     have hr6 := (bc6.block _ (t_lt HN.out.2.2.1)).trans HN.out.2.2.1
     have g3 := blk_free hg6 3
     obtain ⟨m0, m1, m2, m3⟩ := four_cells hg6
     obtain ⟨w7, hw7⟩ : ∃ w7, w7 = w6.setCell ⟨gm, 3, none⟩ (.slice ae le ce) := ⟨_, rfl⟩
     have hg7 : w7.heap[gm]? = some (.cells #[.int .i64 tg, .int .i64 k, .int .i64 (sta n cl s), .slice ae le ce] 24 (0, 0)) := by rw [hw7]; exact heap_setCell_same w6 gm 3 _ _ _ hg6
     have hne : gm ≠ w.heap.size + 1 := by have h1 := HM.out.1; have h2 := t_lt H2.out.2.2.2.2.1; omega
     have hr7 : w7.heap[w.heap.size + 1]? = some (.cells #[.int .i64 0, .int .i64 0, .int .i64 0, .slice none 0 0] 24 (0, 0)) := by rw [hw7]; exact ((Kept.setCell w6 gm 3 _).block _ (t_lt hr6) (fun e => hne e.symm)).trans hr6
     have hk67 : Kept (fun b => b = gm) w6 w7 := by rw [hw7]; exact Kept.setCell w6 gm 3 _
     have HE : Hid _ := And.intro hOe (And.intro bc6 (And.intro hg6 (And.intro hw7 (And.intro hr7 (And.intro hk67 hg7)))))
     clear hOe hb6 bc6 hg6 hw7 hle hr6 hk67
     clear x0 x1 x2 x3
     go_upto_region 13 with fail
     rw [← HE.out.2.2.2.1]
     clear g3 m0 m1 m2 m3
     obtain ⟨m0, m1, m2, m3⟩ := four_cells hg7
     obtain ⟨z0, z1, z2, z3⟩ := four_cells hr7
     have f0 := blk_free hr7 0
     have f1 := blk_free hr7 1
     have f2 := blk_free hr7 2
     have f3 := blk_free hr7 3
     clear hg7 hr7
     go_wp2_with fail
     obtain ⟨wf, hwf⟩ : ∃ wf, wf = ((((w7.setCell ⟨w.heap.size + 1, 0, none⟩ (.int .i64 tg)).setCell ⟨w.heap.size + 1, 1, none⟩ (.int .i64 k)).setCell ⟨w.heap.size + 1, 2, none⟩ (.int .i64 (sta n cl s))).setCell ⟨w.heap.size + 1, 3, none⟩ (.slice ae le ce)) := ⟨_, rfl⟩
     rw [← hwf]
     have hgf : wf.heap[w.heap.size + 1]? = some (.cells #[.int .i64 tg, .int .i64 k, .int .i64 (sta n cl s), .slice ae le ce] 24 (0, 0)) := by rw [hwf]; exact four_set HE.out.2.2.2.2.1
     have hkf : Kept (fun b => b = w.heap.size + 1) w7 wf := by rw [hwf]; exact (((Kept.setCell _ _ _ _).trans (Kept.setCell _ _ _ _)).trans (Kept.setCell _ _ _ _)).trans (Kept.setCell _ _ _ _)
     clear hwf z0 z1 z2 z3 f0 f1 f2 f3 m0 m1 m2 m3
     obtain ⟨d0, d1, d2, d3⟩ := four_cells hgf
     refine bodyPost_ret (v := .tuple #[.agg #[.int .i64 tg, .int .i64 k, .int .i64 (sta n cl s), .slice ae le ce], .slice au n cu]) (by simp [results, Tryz.results14, go_sem, d0, d1, d2, d3]) rfl ?_
     have hgw : w.heap.size ≤ gm := Nat.le_trans H2.out.2.2.1.size HM.out.1
     have hk6f : Kept (fun b => b = gm ∨ b = w.heap.size + 1) w6 wf := (HE.out.2.2.2.2.2.1.mono fun b _ h => .inl h).trans (hkf.mono fun b _ h => .inr h)
     have hB6 : Below w.heap.size w w6 := HN.out.2.2.2.2.trans (HE.out.2.1.mono HN.out.2.2.2.2.size)
     have hO6 := own_up4 HN.out.2.2.2.1 HE.out.2.1
     have hrt : ∀ {B : Nat} {e : TypeId} {sz m : Nat} {v : Value} {xs : List Value}, w6.ownsRow B e sz v m xs → e ≠ 24 → ∀ b, v.ownBlock = some b → wf.heap[b]? = w6.heap[b]? := fun h hne b hb => hk6f.block b (h.lt b hb).2 fun e => by
      rcases e with e | e
      ·exact own_bk h HE.out.2.2.1 hne (by rw [← e]; exact hb)
      ·have hr6 : w6.heap[w.heap.size + 1]? = some (.cells #[.int .i64 0, .int .i64 0, .int .i64 0, .slice none 0 0] 24 (0, 0)) := (HE.out.2.1.block _ (t_lt HN.out.2.2.1)).trans HN.out.2.2.1
       exact own_bk h hr6 hne (by rw [← e]; exact hb)
     refine ⟨.slice ae le ce, .slice au n cu, cl, ?_, H2.out.1, ?_, ?_, hB6.trans (hk6f.below hB6.size fun x hx => by omega)⟩
     ·rw [← H2.out.2.2.2.2.2.1]
     ·exact edge_lower (trow_at HE.out.1 (hrt HE.out.1 (by decide))) (by have := HB.out.1.size; have := HN.out.2.2.2.2.size; omega)
     ·exact own_lower (trow_at hO6 (hrt hO6 (by decide))) H1.out.2.1.size
end Go.Proofs.YtplofbabfkkimaaGreatDoor.Ts
