/- Texts of this claim, joined: SyView, RoPure, RoText, Shelf, SoInts, RoSig, RoSig2. -/
import Derived.Test.YtgehimdkdeldaabGreatDoorPart0
import GoSem.Claim
import Derived.Lib.ItoaNum
import Derived.Lib.SlicesCompact
import Derived.Shelf.Small.Bits
import Derived.Shelf.Small.Wraps
import Derived.Shelf.Strconv.Itoa0
import Derived.Shelf.Strconv.Itoa1
import Derived.Shelf.LaysM
import Derived.Shelf.Strconv.Itoa2
import Derived.Shelf.Sort.Plain
import Derived.Shelf.Strconv.AppendUint10
import Derived.Shelf.Strconv.AppendInt10
import Derived.Shelf.Strconv.AppendIntPublic10
import Derived.Shelf.Bits.Mul64
import Derived.Shelf.Slices.Equal
import Derived.Ground.Names2Prog
import Derived.Shelf.Slices.Clone
import Derived.Shelf.Slices.CompactI
import Derived.Shelf.Slices.SearchI
import Derived.Shelf.Slices.Cells
import Derived.Shelf.Slices.In.SortNone
import Derived.Shelf.Slices.Empties2
import Derived.Ground.SlgnProg
import Derived.Shelf.SlicesE.Clone
import Derived.Test.YtgehimdkdeldaabGreatDoorProg
import Derived.Sort.OwnSortedInts
import Derived.Laws.IdiomStrings
import Derived.Lib.AppendIntMem
import Derived.WalkSmall
import Derived.Deep.RegionHeld3
import Derived.Deep.DrawnRows
/- Contracts of cmp's Compare and Or at ints, of the program's views and their comparison. -/
namespace Go.Proofs.YtgehimdkdeldaabGreatDoor
open Go.RowKit Go.Maps
attribute [local go_sem ↓] Go.wp_at_zero Go.wp_at_succ
def cmpI (a b : Int) : Int := if a < b then -1 else if b < a then 1 else 0
theorem isNaN_any (a : Int) (w : World) : Calls Tryz.prog 111 #[.int .i64 a] w fun r w' => r = .returned (.bool false) /\ w' = w := by
 have e : (a != a) = false := by simp
 go_enter Tryz.func111, Tryz.ntmps111
 go_wp2
 go_ret
 exact ⟨by simp, rfl⟩
set_option maxRecDepth 100000 in
theorem cmpI_any (a b : Int) (w : World) : Calls Tryz.prog 76 #[.int .i64 a, .int .i64 b] w fun r w' => r = .returned (.int .i64 (cmpI a b)) /\ w' = w := by
 have hN := fun (x : Int) (W : World) => isNaN_any x W
 have HN : Hid _ := hN
 clear hN
 by_cases h1 : a < b
 ·go_enter Tryz.func76, Tryz.ntmps76
  go_wp2_with (go_at_call 111; refine (HN.out _ _).mono ?_; rintro r w' ⟨rfl, hw⟩; obtain rfl := hw.symm)
  go_ret
  exact ⟨by simp [cmpI, h1], rfl⟩
 ·by_cases h2 : b < a
  ·go_enter Tryz.func76, Tryz.ntmps76
   go_wp2_with (go_at_call 111; refine (HN.out _ _).mono ?_; rintro r w' ⟨rfl, hw⟩; obtain rfl := hw.symm)
   go_ret
   exact ⟨by simp [cmpI, h1, h2], rfl⟩
  ·go_enter Tryz.func76, Tryz.ntmps76
   go_wp2_with (go_at_call 111; refine (HN.out _ _).mono ?_; rintro r w' ⟨rfl, hw⟩; obtain rfl := hw.symm)
   go_ret
   exact ⟨by simp [cmpI]; split <;> (try split) <;> omega, rfl⟩
def orI (a b c : Int) : Int := if a = 0 then if b = 0 then c else b else a
set_option maxRecDepth 100000 in
set_option maxHeartbeats 1000000 in
theorem orI_any (g : Nat) (a b c : Int) (w : World) (hg : w.heap[g]? = some (.cells #[.int .i64 a, .int .i64 b, .int .i64 c] 3 (0, 0))) : Calls Tryz.prog 75 #[.slice (some ⟨g, 0, none⟩) 3 3] w fun r w' => r = .returned (.int .i64 (orI a b c)) /\ w' = w := by
 have c0 : w.cell? ⟨g, 0, none⟩ = some (.int .i64 a) := cell0_of hg rfl
 have c1 : w.cell? ⟨g, 1, none⟩ = some (.int .i64 b) := cell0_of hg rfl
 have c2 : w.cell? ⟨g, 2, none⟩ = some (.int .i64 c) := cell0_of hg rfl
 have cs : ∀ (i : Nat) (z : Int), [a, b, c][i]? = some z -> w.cell? ⟨g, i, none⟩ = some (.int .i64 z) := fun i z h => by
  match i, h with
  | 0, h => simp at h; rw [<- h]; exact c0
  | 1, h => simp at h; rw [<- h]; exact c1
  | 2, h => simp at h; rw [<- h]; exact c2
  | i + 3, h => simp at h
 have HC : Hid _ := cs
 clear cs hg c0 c1 c2
 go_enter Tryz.func75, Tryz.ntmps75
 go_wp2_with fail
 go_loopg [8] 3 (fun q iv wr => ∃ i : Nat, q = 3 - i /\ i <= 3 /\ iv = .int .i64 i /\ wr = w /\ ∀ x ∈ [a, b, c].take i, x = 0)
 case atStart => exact ⟨0, rfl, by omega, rfl, rfl, fun x hx => by simp at hx⟩
 case round =>
  obtain ⟨i, rfl, hi, rfl, rfl, hz⟩ := hrel
  by_cases hlt : i < 3
  ·obtain ⟨z, hz1⟩ : ∃ z, [a, b, c][i]? = some z := ⟨[a, b, c][i]'(by simp; omega), List.getElem?_eq_getElem _⟩
   have cz := HC.out i z hz1
   have q0 : (0 : Int) <= (i : Int) := by omega
   have q1 : (i : Int) < 3 := by omega
   have HZ : Hid _ := And.intro hz hz1
   clear hz hz1
   by_cases h0 : z = 0
   ·have e0 : (z != 0) = false := by simp [h0]
    have HE : Hid _ := h0
    clear h0
    go_wp2
    go_roundg (3 - (i + 1))
    case measure => omega
    case rel =>
     refine ⟨i + 1, rfl, by omega, by go_num, rfl, fun x hx => ?_⟩
     rw [take_succ_of HZ.out.2] at hx
     rcases List.mem_append.1 hx with hx | hx
     ·exact HZ.out.1 x hx
     ·rw [List.mem_singleton.1 hx]; exact HE.out
   ·have e0 : (z != 0) = true := by simp [h0]
    have HE : Hid _ := h0
    clear h0
    go_wp2
    go_ret
    refine ⟨?_, rfl⟩
    have h1 := HZ.out.2
    have h2 := HZ.out.1
    have h3 := HE.out
    show Ending.returned (Value.int .i64 z) = _
    congr 2
    match i, h1, h2 with
    | 0, h1, h2 => simp at h1; subst h1; unfold orI; rw [if_neg h3]
    | 1, h1, h2 => simp at h1 h2; subst h1; unfold orI; rw [if_pos h2, if_neg h3]
    | 2, h1, h2 => simp at h1 h2; subst h1; unfold orI; rw [if_pos h2.1, if_pos h2.2]
    | i + 3, h1, h2 => simp at h1
  ·obtain rfl : i = 3 := by omega
   have HZ : Hid _ := hz
   clear hz
   go_wp2
   go_ret
   refine ⟨?_, rfl⟩
   have h2 := HZ.out
   simp at h2
   simp [orI, h2]
def cmpE (a b : Sy.Ed) : Int := orI (cmpI a.1 b.1) (cmpI a.2.1 b.2.1) (cmpI a.2.2 b.2.2)
theorem cmpE_lt (a b : Sy.Ed) : decide (cmpE a b < 0) = Sy.lt a b := by
 rw [Bool.eq_iff_iff, Sy.lt_iff, decide_eq_true_eq]
 unfold cmpE orI cmpI
 (repeat' split) <;> omega
def ViewAt (f : Nat) (vw : Sy.Ed -> Sy.Ed) : Prop := (∀ args w, (callFunc f args).run Tryz.prog w = .ok (.enter f args) w) /\ ∀ (x : Sy.Ed) (w : World), Calls Tryz.prog f #[edV x] w fun r w' => r = .returned (.tuple #[.int .i64 (vw x).1, .agg #[.int .i64 (vw x).2.1, .int .i64 (vw x).2.2]]) /\ Below w.heap.size w w'
set_option maxRecDepth 100000 in
set_option maxHeartbeats 1000000 in
theorem forward_at : ViewAt 32 fun x => x := ⟨enters_of Tryz.func32 (by kernel_rfl) rfl, fun x w => by
 obtain ⟨x0, x1, x2⟩ := x
 unfold edV
 go_enter Tryz.func32, Tryz.ntmps32
 go_wp2_with fail
 go_region
 all_goals
  go_wp2_with fail
  refine bodyPost_ret (v := .tuple #[.int .i64 x0, .agg #[.int .i64 x1, .int .i64 x2]]) (by simp [results, Tryz.results32, go_sem]) rfl ⟨rfl, ?_⟩
  first | exact (by repeat (first | exact Below.refl _ _ | assumption | refine Below.drew ?_ | refine Below.setCell ?_ (by simp) _ | refine Below.alloc ?_ (by simp) _)) | exact (by repeat (first | exact Below.refl _ _ | assumption | refine Below.setCell ?_ (by simp) _ | refine Below.alloc ?_ (by simp) _ | refine Below.drew ?_))⟩
set_option maxRecDepth 100000 in
set_option maxHeartbeats 1000000 in
theorem backward_at : ViewAt 34 Sy.turn := ⟨enters_of Tryz.func34 (by kernel_rfl) rfl, fun x w => by
 obtain ⟨x0, x1, x2⟩ := x
 unfold edV
 go_enter Tryz.func34, Tryz.ntmps34
 go_wp2_with fail
 go_region
 all_goals
  go_wp2_with fail
  refine bodyPost_ret (v := .tuple #[.int .i64 x2, .agg #[.int .i64 x1, .int .i64 x0]]) (by simp [results, Tryz.results34, go_sem]) rfl ⟨rfl, ?_⟩
  first | exact (by repeat (first | exact Below.refl _ _ | assumption | refine Below.drew ?_ | refine Below.setCell ?_ (by simp) _ | refine Below.alloc ?_ (by simp) _)) | exact (by repeat (first | exact Below.refl _ _ | assumption | refine Below.setCell ?_ (by simp) _ | refine Below.alloc ?_ (by simp) _ | refine Below.drew ?_))⟩
theorem enter_cmp : ∀ args w, (callFunc 49 args).run Tryz.prog w = .ok (.enter 49 args) w := enters_of Tryz.func49 (by kernel_rfl) rfl
set_option maxRecDepth 100000 in
set_option maxHeartbeats 4000000 in
theorem compare_any (f : Nat) (vw : Sy.Ed -> Sy.Ed) (hV : ViewAt f vw) (a b : Sy.Ed) (w : World) :
 Calls Tryz.prog 49 #[.func (.func f) #[] #[], edV a, edV b] w fun r w' => r = .returned (.int .i64 (cmpE (vw a) (vw b))) /\ Below w.heap.size w w' := by
 obtain ⟨he, hv⟩ := hV
 obtain ⟨a0, a1, a2⟩ := a
 obtain ⟨b0, b1, b2⟩ := b
 obtain ⟨w0, hw0⟩ : ∃ w0, w0 = (w.alloc (.cells #[.int .i64 a0, .int .i64 a1, .int .i64 a2] 29)).alloc (.cells #[.int .i64 b0, .int .i64 b1, .int .i64 b2] 29) := ⟨_, rfl⟩
 have hb0 : Below w.heap.size w w0 := by rw [hw0]; exact ((Below.refl _ _).alloc (Nat.le_refl _) _).alloc (by simp) _
 have hgb : w0.heap[w.heap.size + 1]? = some (.cells #[.int .i64 b0, .int .i64 b1, .int .i64 b2] 29 (0, 0)) := by rw [hw0]; exact two_alloc w _ _
 have hA := hv (a0, a1, a2)
 have hB := hv (b0, b1, b2)
 unfold cmpE
 generalize vw (a0, a1, a2) = p at hA ⊢
 generalize vw (b0, b1, b2) = q at hB ⊢
 obtain ⟨p0, p1, p2⟩ := p
 obtain ⟨q0, q1, q2⟩ := q
 unfold edV at hA hB ⊢
 have HA : Hid _ := And.intro hA hB
 have H0 : Hid _ := And.intro hb0 (And.intro hgb hw0)
 clear hA hB hb0 hgb hw0 hv
 simp only at HA ⊢
 go_enter Tryz.func49, Tryz.ntmps49
 go_wp2_with fail
 rw [<- H0.out.2.2]
 refine Calls.mono (HA.out.1 _) ?_
 rintro r w1 ⟨rfl, hb1⟩
 have hgb1 := (hb1.block _ (t_lt H0.out.2.1)).trans H0.out.2.1
 obtain ⟨w2, hw2⟩ : ∃ w2, w2 = (w1.alloc (.cells #[.int .i64 p1, .int .i64 p2] 111)) := ⟨_, rfl⟩
 have hb2 : Below w1.heap.size w1 w2 := by rw [hw2]; exact (Below.refl _ _).alloc (Nat.le_refl _) _
 have hg2 : w2.heap[w1.heap.size]? = some (.cells #[.int .i64 p1, .int .i64 p2] 111 (0, 0)) := by rw [hw2]; exact heap_alloc_new w1 _
 have hgb2 := (hb2.block _ (t_lt hgb1)).trans hgb1
 have c0 : (w1.alloc (.cells #[.int .i64 p1, .int .i64 p2] 111)).cell? ⟨w.heap.size + 1, 0, none⟩ = some (.int .i64 b0) := by rw [<- hw2]; exact cell0_of hgb2 rfl
 have c1 : (w1.alloc (.cells #[.int .i64 p1, .int .i64 p2] 111)).cell? ⟨w.heap.size + 1, 1, none⟩ = some (.int .i64 b1) := by rw [<- hw2]; exact cell0_of hgb2 rfl
 have c2 : (w1.alloc (.cells #[.int .i64 p1, .int .i64 p2] 111)).cell? ⟨w.heap.size + 1, 2, none⟩ = some (.int .i64 b2) := by rw [<- hw2]; exact cell0_of hgb2 rfl
 have hbw : Below w.heap.size w w2 := (H0.out.1.trans (hb1.mono H0.out.1.size)).trans (hb2.mono (by have := H0.out.1.size; have := hb1.size; omega))
 have H1 : Hid _ := And.intro hbw (And.intro hg2 hw2)
 clear hb1 hgb1 hb2 hg2 hgb2 hw2 H0 hbw
 go_wp2_with fail
 rw [<- H1.out.2.2]
 refine Calls.mono (HA.out.2 _) ?_
 rintro r w3 ⟨rfl, hb3⟩
 have hg3 := (hb3.block _ (t_lt H1.out.2.1)).trans H1.out.2.1
 obtain ⟨w4, hw4⟩ : ∃ w4, w4 = (w3.alloc (.cells #[.int .i64 q1, .int .i64 q2] 111)) := ⟨_, rfl⟩
 have hb4 : Below w3.heap.size w3 w4 := by rw [hw4]; exact (Below.refl _ _).alloc (Nat.le_refl _) _
 have hg4 : w4.heap[w3.heap.size]? = some (.cells #[.int .i64 q1, .int .i64 q2] 111 (0, 0)) := by rw [hw4]; exact heap_alloc_new w3 _
 have hp4 := (hb4.block _ (t_lt hg3)).trans hg3
 have x0 : w4.cell? ⟨w1.heap.size, 0, none⟩ = some (.int .i64 p1) := cell0_of hp4 rfl
 have x1 : w4.cell? ⟨w1.heap.size, 1, none⟩ = some (.int .i64 p2) := cell0_of hp4 rfl
 have x2 : w4.cell? ⟨w3.heap.size, 0, none⟩ = some (.int .i64 q1) := cell0_of hg4 rfl
 have x3 : w4.cell? ⟨w3.heap.size, 1, none⟩ = some (.int .i64 q2) := cell0_of hg4 rfl
 have hbw : Below w.heap.size w w4 := (H1.out.1.trans (hb3.mono H1.out.1.size)).trans (hb4.mono (by have := H1.out.1.size; have := hb3.size; omega))
 have H2 : Hid _ := And.intro hbw hw4
 have hC : ∀ (x y : Int) (W : World), Calls Tryz.prog 76 #[.int .i64 x, .int .i64 y] W fun r w' => r = .returned (.int .i64 (cmpI x y)) /\ Below W.heap.size W w' := fun x y W => (cmpI_any x y W).mono fun r w' ⟨hr, hw⟩ => ⟨hr, by rw [hw]; exact Below.refl _ _⟩
 have hO : ∀ (x y z : Int) (W : World), Calls Tryz.prog 75 #[.slice (some ⟨W.heap.size, 0, none⟩) 3 3] (W.alloc (.cells #[.int .i64 x, .int .i64 y, .int .i64 z] 3)) fun r w' => r = .returned (.int .i64 (orI x y z)) /\ Below (W.alloc (.cells #[.int .i64 x, .int .i64 y, .int .i64 z] 3)).heap.size (W.alloc (.cells #[.int .i64 x, .int .i64 y, .int .i64 z] 3)) w' := fun x y z W => (orI_any _ x y z _ (heap_alloc_new W _)).mono fun r w' ⟨hr, hw⟩ => ⟨hr, by rw [hw]; exact Below.refl _ _⟩
 have HC : Hid _ := And.intro hC hO
 clear hb3 hg3 hb4 hg4 hp4 hw4 hbw H1 HA c0 c1 c2 hC hO
 go_upto_region 3 with fail
 rw [<- H2.out.2]
 have HB : Hid _ := H2.out.1
 clear H2
 go_region_held3 (fun w' => (w'.cell? ⟨w1.heap.size, 0, none⟩ = some (.int .i64 p1) /\ w'.cell? ⟨w1.heap.size, 1, none⟩ = some (.int .i64 p2) /\ w'.cell? ⟨w3.heap.size, 0, none⟩ = some (.int .i64 q1) /\ w'.cell? ⟨w3.heap.size, 1, none⟩ = some (.int .i64 q2)) /\ Hid (Below w4.heap.size w4 w')) (first | exact rg_up4 hb5 (by assumption) | exact rg_up4 ((Below.refl _ _).alloc (Nat.le_refl _) _) (by assumption) | exact ⟨⟨x0, x1, x2, x3⟩, ((Below.refl _ _).drew : Below w4.heap.size w4 w4.drew)⟩ | go_keep)
  ((first
    | (go_at_call 76; refine (HC.out.1 _ _ _).mono ?_; rintro r w5 ⟨rfl, hb5⟩)
    | (go_at_call 75; refine (HC.out.2 _ _ _ _).mono ?_; rintro r w5 ⟨rfl, hb5⟩)
    | fail))
 all_goals
  have HF : Hid (Below w4.heap.size w4 w5) := (rg_b (by assumption) : Below w4.heap.size w4 w5)
  clear hb5
  go_wp2_with fail
  go_ret
  exact ⟨rfl, HB.out.trans (HF.out.mono HB.out.size)⟩
end Go.Proofs.YtgehimdkdeldaabGreatDoor
/- Plain facts on keys that are numbered in the order in which they come, and on rounds. Nothing of the program is in it. -/
namespace Go.Proofs.YtgehimdkdeldaabGreatDoor.Ro
section
variable {K : Type} [DecidableEq K]
def place (c : K) : List K -> Nat
 | [] => 0
 | a :: r => if a = c then 0 else place c r + 1
def more (c : K) (l : List K) : List K := if c ∈ l then l else l ++ [c]
def dd (l : List K) : List K := l.foldl (fun s c => more c s) []
def num (l : List K) : List Nat := l.map fun z => place z (dd l)
theorem place_le (c : K) (l : List K) : place c l <= l.length := by
 induction l with
 | nil => simp [place]
 | cons a r ih => unfold place; split <;> simp <;> omega
theorem place_lt {c : K} {l : List K} : place c l < l.length ↔ c ∈ l := by
 induction l with
 | nil => simp [place]
 | cons a r ih =>
   unfold place
   by_cases h : a = c
   ·simp [h]
   ·rw [if_neg h, List.length_cons, Nat.add_lt_add_iff_right, ih, List.mem_cons]
    exact ⟨fun h1 => .inr h1, fun h1 => h1.elim (fun e => absurd e.symm h) id⟩
theorem place_no {c : K} {l : List K} (h : c ∉ l) : place c l = l.length := by
 have h1 := place_le c l
 have h2 : ¬ place c l < l.length := fun h2 => h (place_lt.1 h2)
 omega
theorem place_at {c : K} {l : List K} (h : c ∈ l) : l[place c l]? = some c := by
 induction l with
 | nil => simp at h
 | cons a r ih =>
   unfold place
   by_cases h1 : a = c
   ·simp [h1]
   ·rw [if_neg h1, List.getElem?_cons_succ]
    exact ih ((List.mem_cons.1 h).elim (fun e => absurd e.symm h1) id)
theorem place_inj {a b : K} {l : List K} (ha : a ∈ l) (hb : b ∈ l) (h : place a l = place b l) : a = b := by
 have h1 := place_at ha
 rw [h, place_at hb] at h1
 exact (Option.some.inj h1).symm
theorem place_left {c : K} {a : List K} (b : List K) (h : c ∈ a) : place c (a ++ b) = place c a := by
 induction a with
 | nil => simp at h
 | cons x r ih =>
   simp only [List.cons_append, place]
   by_cases h1 : x = c
   ·simp [h1]
   ·rw [if_neg h1, if_neg h1, ih ((List.mem_cons.1 h).elim (fun e => absurd e.symm h1) id)]
theorem place_more (c : K) (l : List K) : place c (more c l) = place c l := by
 unfold more
 split
 ·rfl
 ·rename_i h
  rw [place_no h]
  induction l with
  | nil => simp [place]
  | cons x r ih =>
    have hx : x ≠ c := fun e => h (by rw [e]; exact List.mem_cons_self)
    have hr : c ∉ r := fun e => h (List.mem_cons_of_mem _ e)
    simp only [List.cons_append, place]
    rw [if_neg hx, ih hr]
    simp
theorem dd_snoc (l : List K) (c : K) : dd (l ++ [c]) = more c (dd l) := by simp [dd]
theorem mem_more {c x : K} {l : List K} : x ∈ more c l ↔ x ∈ l \/ x = c := by
 unfold more
 split
 ·rename_i h
  exact ⟨.inl, fun h1 => h1.elim id fun e => by rw [e]; exact h⟩
 ·simp
theorem snoc_ind {α : Type} {P : List α -> Prop} (h0 : P []) (hs : ∀ l x, P l -> P (l ++ [x])) (l : List α) : P l := by
 have h : ∀ n (l : List α), l.length = n -> P l := fun n => by
  induction n with
  | zero => intro l hl; rw [List.length_eq_zero_iff.1 hl]; exact h0
  | succ n ih =>
    intro l hl
    rcases List.eq_nil_or_concat l with rfl | ⟨m, x, rfl⟩
    ·simp at hl
    ·rw [List.concat_eq_append]
     exact hs m x (ih m (by simp at hl; omega))
 exact h _ l rfl
theorem mem_dd {x : K} (l : List K) : x ∈ dd l ↔ x ∈ l := by
 refine snoc_ind (P := fun l => x ∈ dd l ↔ x ∈ l) (by simp [dd]) (fun l c ih => ?_) l
 rw [dd_snoc, mem_more, ih]
 simp
theorem num_len (l : List K) : (num l).length = l.length := by simp [num]
theorem num_snoc (l : List K) (c : K) : num (l ++ [c]) = num l ++ [place c (dd l)] := by
 unfold num
 rw [List.map_append, dd_snoc]
 congr 1
 ·refine List.map_congr_left fun z hz => ?_
  have h1 : z ∈ dd l := (mem_dd l).2 hz
  unfold more
  split
  ·rfl
  ·exact place_left _ h1
 ·simp [place_more]
theorem num_at {l : List K} {i : Nat} {x : K} (h : l[i]? = some x) : (num l)[i]? = some (place x (dd l)) := by
 unfold num
 rw [List.getElem?_map, h]
 rfl
theorem num_eq {l : List K} {i j : Nat} {x y : K} (hi : l[i]? = some x) (hj : l[j]? = some y) {u v : Nat} (hu : (num l)[i]? = some u) (hv : (num l)[j]? = some v) : u = v ↔ x = y := by
 rw [num_at hi] at hu
 rw [num_at hj] at hv
 simp only [Option.some.injEq] at hu hv
 subst hu; subst hv
 exact ⟨fun e => place_inj ((mem_dd l).2 (List.mem_of_getElem? hi)) ((mem_dd l).2 (List.mem_of_getElem? hj)) e, fun e => by rw [e]⟩
theorem dd_len_snoc (l : List K) (c : K) : (dd (l ++ [c])).length = (dd l).length + if c ∈ l then 0 else 1 := by
 rw [dd_snoc]
 unfold more
 by_cases h : c ∈ l
 ·rw [if_pos ((mem_dd l).2 h), if_pos h]
  rfl
 ·rw [if_neg (fun h1 => h ((mem_dd l).1 h1)), if_neg h]
  simp
theorem dd_le (l : List K) : (dd l).length <= l.length := by
 refine snoc_ind (P := fun l => (dd l).length <= l.length) (by simp [dd]) (fun l c ih => ?_) l
 rw [dd_len_snoc]
 simp only [List.length_append, List.length_cons, List.length_nil]
 split <;> omega
theorem num_lt {l : List K} {u : Nat} (h : u ∈ num l) : u < (dd l).length := by
 obtain ⟨z, hz, rfl⟩ := List.mem_map.1 h
 exact place_lt.2 ((mem_dd l).2 hz)
end
theorem finer {A B : Type} [DecidableEq A] [DecidableEq B] (l : List (A × B)) (hf : ∀ p ∈ l, ∀ q ∈ l, p.1 = q.1 -> p.2 = q.2) :
 (dd (l.map (·.2))).length <= (dd (l.map (·.1))).length /\ ((dd (l.map (·.2))).length = (dd (l.map (·.1))).length -> num (l.map (·.1)) = num (l.map (·.2))) := by
 revert hf
 refine snoc_ind (P := fun l : List (A × B) => (∀ p ∈ l, ∀ q ∈ l, p.1 = q.1 -> p.2 = q.2) -> (dd (l.map (·.2))).length <= (dd (l.map (·.1))).length /\ ((dd (l.map (·.2))).length = (dd (l.map (·.1))).length -> num (l.map (·.1)) = num (l.map (·.2)))) (fun _ => ⟨by simp [dd], fun _ => rfl⟩) (fun l x ih hf => ?_) l
 obtain ⟨ih1, ih2⟩ := ih fun p hp q hq => hf p (List.mem_append_left _ hp) q (List.mem_append_left _ hq)
 simp only [List.map_append, List.map_cons, List.map_nil]
 rw [dd_len_snoc, dd_len_snoc, num_snoc, num_snoc]
 by_cases hx : x.1 ∈ l.map (·.1)
 ·obtain ⟨q, hq, hqe⟩ := List.mem_map.1 hx
  have h2 := hf q (List.mem_append_left _ hq) x (List.mem_append_right _ List.mem_cons_self) hqe
  have hy : x.2 ∈ l.map (·.2) := List.mem_map.2 ⟨q, hq, h2⟩
  rw [if_pos hx, if_pos hy]
  refine ⟨by omega, fun e => ?_⟩
  have h3 := ih2 (by omega)
  obtain ⟨i, hi⟩ := List.mem_iff_getElem?.1 hq
  have a1 := num_at (l := l.map (·.1)) (i := i) (x := q.1) (by rw [List.getElem?_map, hi]; rfl)
  have a2 := num_at (l := l.map (·.2)) (i := i) (x := q.2) (by rw [List.getElem?_map, hi]; rfl)
  rw [h3, a2] at a1
  rw [h3, <- hqe, <- h2, Option.some.inj a1]
 ·rw [if_neg hx]
  by_cases hy : x.2 ∈ l.map (·.2)
  ·rw [if_pos hy]
   exact ⟨by omega, fun e => by omega⟩
  ·rw [if_neg hy]
   refine ⟨by omega, fun e => ?_⟩
   have e2 : (dd (l.map (·.2))).length = (dd (l.map (·.1))).length := by omega
   rw [ih2 e2, place_no (fun h => hx ((mem_dd _).1 h)), place_no (fun h => hy ((mem_dd _).1 h)), e2]
theorem num_congr {A B : Type} [DecidableEq A] [DecidableEq B] {a : List A} {b : List B} (hl : a.length = b.length) (h : ∀ (i j : Nat) (x y : A) (u v : B), a[i]? = some x -> a[j]? = some y -> b[i]? = some u -> b[j]? = some v -> (x = y ↔ u = v)) : num a = num b := by
 have hz1 : (a.zip b).map (·.1) = a := by rw [List.map_fst_zip (by omega)]
 have hz2 : (a.zip b).map (·.2) = b := by rw [List.map_snd_zip (by omega)]
 have hm : ∀ p ∈ a.zip b, ∃ i : Nat, a[i]? = some p.1 /\ b[i]? = some p.2 := fun p hp => by
  obtain ⟨i, hi⟩ := List.mem_iff_getElem?.1 hp
  rw [List.getElem?_zip_eq_some] at hi
  exact ⟨i, hi⟩
 have f1 := finer (a.zip b) fun p hp q hq e => by
  obtain ⟨i, hi1, hi2⟩ := hm p hp
  obtain ⟨j, hj1, hj2⟩ := hm q hq
  exact (h i j _ _ _ _ hi1 hj1 hi2 hj2).1 e
 have hb : ∀ (l : List (A × B)), (l.map Prod.swap).map (·.1) = l.map (·.2) /\ (l.map Prod.swap).map (·.2) = l.map (·.1) := fun l => by simp
 have f2 := finer ((a.zip b).map Prod.swap) fun p hp q hq e => by
  obtain ⟨p', hp', rfl⟩ := List.mem_map.1 hp
  obtain ⟨q', hq', rfl⟩ := List.mem_map.1 hq
  obtain ⟨i, hi1, hi2⟩ := hm p' hp'
  obtain ⟨j, hj1, hj2⟩ := hm q' hq'
  exact (h i j _ _ _ _ hi1 hj1 hi2 hj2).2 e
 rw [(hb _).1, (hb _).2] at f2
 rw [hz1, hz2] at f1 f2
 exact f1.2 (by omega)
theorem num_num {A : Type} [DecidableEq A] (l : List A) : num (num l) = num l := by
 refine num_congr (num_len l) fun i j x y u v hx hy hu hv => ?_
 exact num_eq hu hv hx hy
def Rise (l : List Int) : Prop := l.Pairwise (· < ·)
theorem rise_unique {a b : List Int} (ha : Rise a) (hb : Rise b) (h : ∀ x, x ∈ a ↔ x ∈ b) : a = b := by
 induction a generalizing b with
 | nil =>
   cases b with
   | nil => rfl
   | cons y s => exact absurd ((h y).2 List.mem_cons_self) (by simp)
 | cons x r ih =>
   cases b with
   | nil => exact absurd ((h x).1 List.mem_cons_self) (by simp)
   | cons y s =>
     obtain ⟨hx, hr⟩ := List.pairwise_cons.1 ha
     obtain ⟨hy, hs⟩ := List.pairwise_cons.1 hb
     have e : x = y := by
      rcases List.mem_cons.1 ((h x).1 List.mem_cons_self) with e | h1
      ·exact e
      ·rcases List.mem_cons.1 ((h y).2 List.mem_cons_self) with e | h2
       ·exact e.symm
       ·have := hx y h2; have := hy x h1; omega
     subst e
     congr 1
     refine ih hr hs fun z => ⟨fun hz => ?_, fun hz => ?_⟩
     ·rcases List.mem_cons.1 ((h z).1 (List.mem_cons_of_mem _ hz)) with e | h1
      ·have := hx z hz; omega
      ·exact h1
     ·rcases List.mem_cons.1 ((h z).2 (List.mem_cons_of_mem _ hz)) with e | h1
      ·have := hy z hz; omega
      ·exact h1
def ins (x : Int) : List Int -> List Int
 | [] => [x]
 | a :: r => if x < a then x :: a :: r else if a = x then a :: r else a :: ins x r
theorem mem_ins {x y : Int} {l : List Int} : y ∈ ins x l ↔ y = x \/ y ∈ l := by
 induction l with
 | nil => simp [ins]
 | cons a r ih =>
   unfold ins
   split
   ·simp
   ·split
    ·rename_i h; subst h; simp
    ·simp only [List.mem_cons, ih]
     constructor
     ·rintro (h | h | h) <;> simp [h]
     ·rintro (h | h | h) <;> simp [h]
theorem ins_rise {x : Int} {l : List Int} (h : Rise l) : Rise (ins x l) := by
 induction l with
 | nil => exact List.pairwise_singleton _ _
 | cons a r ih =>
   obtain ⟨ha, hr⟩ := List.pairwise_cons.1 h
   unfold ins
   split
   ·rename_i h1
    exact List.pairwise_cons.2 ⟨fun y hy => by rcases List.mem_cons.1 hy with rfl | hy; exact h1; have := ha y hy; omega, h⟩
   ·split
    ·exact h
    ·rename_i h1 h2
     exact List.pairwise_cons.2 ⟨fun y hy => by rcases mem_ins.1 hy with rfl | hy; omega; exact ha y hy, ih hr⟩
def sd : List Int -> List Int
 | [] => []
 | a :: r => ins a (sd r)
theorem mem_sd {x : Int} {l : List Int} : x ∈ sd l ↔ x ∈ l := by
 induction l with
 | nil => simp [sd]
 | cons a r ih => simp [sd, mem_ins, ih]
theorem sd_rise (l : List Int) : Rise (sd l) := by
 induction l with
 | nil => exact List.Pairwise.nil
 | cons a r ih => exact ins_rise ih
theorem sd_of {l m : List Int} (h : Rise m) (hm : ∀ x, x ∈ m ↔ x ∈ l) : m = sd l := rise_unique h (sd_rise l) fun x => (hm x).trans mem_sd.symm
theorem sd_eq {l m : List Int} : sd l = sd m ↔ ∀ x, x ∈ l ↔ x ∈ m := ⟨fun h x => by rw [<- mem_sd, h, mem_sd], fun h => sd_of (sd_rise l) fun x => mem_sd.trans (h x)⟩
abbrev St : Type := Int × Int
def cl (c : List Nat) (t : Int) : Nat := (c[t.toNat]?).getD 0
def ends (M : Int) (c : List Nat) (l : List St) : List Int := l.map fun z => z.1 * M + cl c z.2
def leads (c : List Nat) (l : List St) (b : Int) (k : Nat) : Prop := ∃ z ∈ l, z.1 = b /\ cl c z.2 = k
theorem mul_inj {a b M : Int} {k m : Nat} (hk : (k : Int) < M) (hm : (m : Int) < M) (h : a * M + k = b * M + m) : a = b /\ k = m := by
 have e : a = b := by
  rcases Int.lt_trichotomy a b with h1 | h1 | h1
  ·have h2 : (a + 1) * M <= b * M := Int.mul_le_mul_of_nonneg_right (by omega) (by omega)
   rw [Int.add_mul] at h2; omega
  ·exact h1
  ·have h2 : (b + 1) * M <= a * M := Int.mul_le_mul_of_nonneg_right (by omega) (by omega)
   rw [Int.add_mul] at h2; omega
 subst e
 exact ⟨rfl, by omega⟩
theorem ends_eq {M : Int} {c : List Nat} {l m : List St} (h1 : ∀ z ∈ l, (cl c z.2 : Int) < M) (h2 : ∀ z ∈ m, (cl c z.2 : Int) < M) : sd (ends M c l) = sd (ends M c m) ↔ ∀ b k, leads c l b k ↔ leads c m b k := by
 have half : ∀ {l m : List St}, (∀ z ∈ l, (cl c z.2 : Int) < M) -> (∀ z ∈ m, (cl c z.2 : Int) < M) -> (∀ x, x ∈ ends M c l -> x ∈ ends M c m) -> ∀ b k, leads c l b k -> leads c m b k := fun {l m} h1 h2 h b k hL => by
  obtain ⟨z, hz, rfl, rfl⟩ := hL
  obtain ⟨y, hy, he⟩ := List.mem_map.1 (h _ (List.mem_map.2 ⟨z, hz, rfl⟩))
  obtain ⟨e1, e2⟩ := mul_inj (h2 y hy) (h1 z hz) he
  exact ⟨y, hy, e1, e2⟩
 have back : ∀ {l m : List St}, (∀ b k, leads c l b k -> leads c m b k) -> ∀ x, x ∈ ends M c l -> x ∈ ends M c m := fun {l m} h x hx => by
  obtain ⟨z, hz, rfl⟩ := List.mem_map.1 hx
  obtain ⟨y, hy, e1, e2⟩ := h _ _ ⟨z, hz, rfl, rfl⟩
  exact List.mem_map.2 ⟨y, hy, by rw [e1, e2]⟩
 rw [sd_eq]
 constructor
 ·exact fun h b k => ⟨half h1 h2 (fun x => (h x).1) b k, half h2 h1 (fun x => (h x).2) b k⟩
 ·exact fun h x => ⟨back (fun b k => (h b k).1) x, back (fun b k => (h b k).2) x⟩
def key (out : Nat -> List St) (c : List Nat) (i : Nat) : Int × List Int := ((c[i]?).getD 0, sd (ends 1001 c (out i)))
def nx (n : Nat) (out : Nat -> List St) (c : List Nat) : List Nat := num ((List.range n).map (key out c))
def rnd (n : Nat) (out : Nat -> List St) : Nat -> List Nat
 | 0 => List.replicate n 0
 | k + 1 => nx n out (rnd n out k)
theorem nx_len (n : Nat) (out : Nat -> List St) (c : List Nat) : (nx n out c).length = n := by simp [nx, num_len]
theorem rnd_len (n : Nat) (out : Nat -> List St) (k : Nat) : (rnd n out k).length = n := by
 cases k with
 | zero => simp [rnd]
 | succ k => exact nx_len n out _
theorem nx_lt {n : Nat} {out : Nat -> List St} {c : List Nat} {u : Nat} (h : u ∈ nx n out c) : u < n := by
 have h1 := num_lt h
 have h2 := dd_le ((List.range n).map (key out c))
 simp at h2
 omega
theorem rnd_lt {n : Nat} {out : Nat -> List St} {k u : Nat} (h : u ∈ rnd n out k) : u < n := by
 cases k with
 | zero => obtain ⟨h1, rfl⟩ := List.mem_replicate.1 h; omega
 | succ k => exact nx_lt h
theorem key_at {n i : Nat} (out : Nat -> List St) (c : List Nat) (h : i < n) : ((List.range n).map (key out c))[i]? = some (key out c i) := by
 rw [List.getElem?_map, List.getElem?_range h]; rfl
theorem nx_eq {n : Nat} {out : Nat -> List St} {c : List Nat} (hc : c.length = n) (hn : n <= 1000) (hlt : ∀ u ∈ c, u < n) {i j u v x y : Nat} (hu : (nx n out c)[i]? = some u) (hv : (nx n out c)[j]? = some v) (hx : c[i]? = some x) (hy : c[j]? = some y) : u = v ↔ x = y /\ ∀ b k, leads c (out i) b k ↔ leads c (out j) b k := by
 have hi : i < n := by have := (List.getElem?_eq_some_iff.1 hx).1; omega
 have hj : j < n := by have := (List.getElem?_eq_some_iff.1 hy).1; omega
 have hM : ∀ t : Int, (cl c t : Int) < 1001 := fun t => by
  unfold cl
  cases h : c[t.toNat]? with
  | none => simp
  | some w => have := hlt w (List.mem_of_getElem? h); simp; omega
 have h1 := num_eq (key_at out c hi) (key_at out c hj) hu hv
 rw [h1]
 unfold key
 rw [hx, hy, Prod.mk.injEq, ends_eq (fun z _ => hM z.2) (fun z _ => hM z.2)]
 exact and_congr_left fun _ => (by simp only [Option.getD_some]; omega)
theorem rnd_num (n : Nat) (out : Nat -> List St) (k : Nat) : num (rnd n out k) = rnd n out k := by
 cases k with
 | zero =>
   show num (List.replicate n 0) = List.replicate n 0
   refine snoc_ind (P := fun l : List Nat => (∀ x ∈ l, x = 0) -> num l = l) (fun _ => rfl) (fun l x ih h => ?_) (List.replicate n 0) (fun x hx => (List.mem_replicate.1 hx).2)
   have hx : x = 0 := h x (List.mem_append_right _ List.mem_cons_self)
   subst hx
   have hl : ∀ y ∈ l, y = 0 := fun y hy => h y (List.mem_append_left _ hy)
   rw [num_snoc, ih hl]
   congr 2
   by_cases h0 : (0 : Nat) ∈ dd l
   ·have hlen : (dd l).length <= 1 := by
     clear ih h
     refine snoc_ind (P := fun l : List Nat => (∀ x ∈ l, x = 0) -> (dd l).length <= 1) (fun _ => by simp [dd]) (fun l x ih h => ?_) l hl
     have h1 := ih fun y hy => h y (List.mem_append_left _ hy)
     rw [dd_len_snoc]
     split
     ·omega
     ·rename_i hx
      have : l = [] := by
       cases l with
       | nil => rfl
       | cons y s => exact absurd (by rw [h x (List.mem_append_right _ List.mem_cons_self), <- h y List.mem_cons_self]; exact List.mem_cons_self) hx
      subst this
      simp [dd]
    have := place_lt.2 h0
    omega
   ·rw [place_no h0]
    cases l with
    | nil => simp [dd]
    | cons y s => exact absurd ((mem_dd _).2 (by rw [<- hl y List.mem_cons_self]; exact List.mem_cons_self)) h0
 | succ k => exact num_num _
theorem nx_stop {n : Nat} {out : Nat -> List St} {c : List Nat} (hc : c.length = n) (hnum : num c = c) : (dd c).length <= (dd (nx n out c)).length /\ ((dd c).length = (dd (nx n out c)).length -> nx n out c = c) := by
 have hf := finer ((nx n out c).zip c) fun p hp q hq e => by
  obtain ⟨i, hi⟩ := List.mem_iff_getElem?.1 hp
  obtain ⟨j, hj⟩ := List.mem_iff_getElem?.1 hq
  rw [List.getElem?_zip_eq_some] at hi hj
  have hil : i < n := by have := (List.getElem?_eq_some_iff.1 hi.2).1; omega
  have hjl : j < n := by have := (List.getElem?_eq_some_iff.1 hj.2).1; omega
  have h1 := (num_eq (key_at out c hil) (key_at out c hjl) hi.1 hj.1).1 e
  have h2 := (Prod.mk.injEq .. ▸ h1 : _ /\ _).1
  rw [hi.2, hj.2] at h2
  simp only [Option.getD_some] at h2
  omega
 rw [List.map_fst_zip (by rw [nx_len, hc]; exact Nat.le_refl _), List.map_snd_zip (by rw [nx_len, hc]; exact Nat.le_refl _)] at hf
 refine ⟨hf.1, fun e => ?_⟩
 have h1 := hf.2 e
 rw [hnum] at h1
 have h2 : num (nx n out c) = nx n out c := num_num _
 rw [<- h2, h1]
theorem rnd_stop {n : Nat} {out : Nat -> List St} {k : Nat} (h : (dd (rnd n out k)).length = (dd (rnd n out (k + 1))).length) : rnd n out (k + 1) = rnd n out k := (nx_stop (rnd_len n out k) (rnd_num n out k)).2 h
theorem rnd_grow {n : Nat} {out : Nat -> List St} {k : Nat} (hn : 0 < n) (h : ∀ j, j < k -> rnd n out (j + 1) ≠ rnd n out j) : k + 1 <= (dd (rnd n out k)).length := by
 induction k with
 | zero =>
   have : (0 : Nat) ∈ dd (rnd n out 0) := (mem_dd _).2 (List.mem_replicate.2 ⟨by omega, rfl⟩)
   exact List.length_pos_of_mem this
 | succ k ih =>
   have h1 := ih fun j hj => h j (by omega)
   have h2 := (nx_stop (out := out) (rnd_len n out k) (rnd_num n out k)).1
   have h3 : (dd (rnd n out k)).length ≠ (dd (rnd n out (k + 1))).length := fun e => h k (by omega) (rnd_stop e)
   show k + 1 + 1 <= (dd (rnd n out (k + 1))).length
   have h4 : (dd (rnd n out k)).length <= (dd (rnd n out (k + 1))).length := h2
   omega
def Last (n : Nat) (out : Nat -> List St) (R : Nat) : Prop := rnd n out (R + 1) = rnd n out R /\ ∀ j, j < R -> rnd n out (j + 1) ≠ rnd n out j
theorem changes_lt {n : Nat} {out : Nat -> List St} {k : Nat} (h : ∀ j, j < k -> rnd n out (j + 1) ≠ rnd n out j) : k < max n 1 := by
 by_cases hn : 0 < n
 ·have h1 := rnd_grow hn h
  have h2 := dd_le (rnd n out k)
  rw [rnd_len] at h2
  omega
 ·obtain rfl : n = 0 := by omega
  rcases Nat.eq_zero_or_pos k with rfl | hk
  ·simp
  ·exact absurd (by rw [List.length_eq_zero_iff.1 (rnd_len 0 out (0 + 1)), List.length_eq_zero_iff.1 (rnd_len 0 out 0)]) (h 0 hk)
theorem Last.lt {n : Nat} {out : Nat -> List St} {R : Nat} (h : Last n out R) : R < max n 1 := changes_lt h.2
theorem exists_last (n : Nat) (out : Nat -> List St) : ∃ R, Last n out R := by
 have h : ∀ f k, k + f = max n 1 -> (∀ j, j < k -> rnd n out (j + 1) ≠ rnd n out j) -> ∃ R, Last n out R := fun f => by
  induction f with
  | zero => intro k hk hc; have := changes_lt hc; omega
  | succ f ih =>
    intro k hk hc
    by_cases e : rnd n out (k + 1) = rnd n out k
    ·exact ⟨k, e, hc⟩
    ·exact ih (k + 1) (by omega) fun j hj => by
      rcases Nat.lt_or_ge j k with h1 | h1
      ·exact hc j h1
      ·obtain rfl : j = k := by omega
       exact e
 exact h (max n 1) 0 (by omega) fun j hj => by omega
theorem Last.ge {n : Nat} {out : Nat -> List St} {R k : Nat} (h : Last n out R) (hc : ∀ j, j < k -> rnd n out (j + 1) ≠ rnd n out j) : k <= R := by
 rcases Nat.lt_or_ge R k with h1 | h1
 ·exact absurd h.1 (hc R h1)
 ·exact h1
theorem Last.unique {n : Nat} {out : Nat -> List St} {R S : Nat} (h : Last n out R) (k : Last n out S) : R = S := by
 rcases Nat.lt_trichotomy R S with h1 | h1 | h1
 ·exact absurd h.1 (k.2 R h1)
 ·exact h1
 ·exact absurd k.1 (h.2 S h1)
def rounds (n : Nat) (out : Nat -> List St) (k : Nat) : List (List Nat) := (List.range k).map (rnd n out)
def rankG (n : Nat) (out : Nat -> List St) (p q : Nat) (k : Nat) : Nat -> Int
 | 0 => -1
 | f + 1 => if (rnd n out k)[p]? = (rnd n out k)[q]? then rankG n out p q (k + 1) f else k
def rank (n : Nat) (out : Nat -> List St) (R p q : Nat) : Int := rankG n out p q 0 (R + 1)
end Go.Proofs.YtgehimdkdeldaabGreatDoor.Ro
/- The text of a state's signature: no two signatures have one. What slices.Compact leaves of numbers in order. Nothing of the program is in it. -/
namespace Go.Proofs.YtgehimdkdeldaabGreatDoor.Ro
open Go.Lib
def val (l : List UInt8) : Nat := l.foldl (fun a b => a * 10 + (b.toNat - 48)) 0
theorem dig_toNat {d : Nat} (h : d < 10) : (UInt8.ofNat (48 + d)).toNat = 48 + d := by
 rw [UInt8.toNat_ofNat']
 omega
theorem val_dec (u : Nat) : val (decDigits u) = u := by
 induction u using Nat.strongRecOn with
 | _ u ih =>
   by_cases h : u < 10
   ·rw [decDigits, dif_pos h]
    unfold val
    simp only [List.foldl_cons, List.foldl_nil, dig_toNat h]
    omega
   ·rw [decDigits, dif_neg h]
    have h1 := ih (u / 10) (by omega)
    unfold val at h1 ⊢
    rw [List.foldl_append, h1]
    simp only [List.foldl_cons, List.foldl_nil, dig_toNat (Nat.mod_lt u (by decide))]
    omega
theorem dec_digit (u : Nat) : ∀ b ∈ decDigits u, b ≠ 32 := by
 induction u using Nat.strongRecOn with
 | _ u ih =>
   have h48 : ∀ d, d < 10 -> UInt8.ofNat (48 + d) ≠ 32 := fun d hd e => by
    have h1 := congrArg UInt8.toNat e
    rw [dig_toNat hd] at h1
    have h2 : (32 : UInt8).toNat = 32 := rfl
    omega
   by_cases h : u < 10
   ·rw [decDigits, dif_pos h]
    intro b hb
    rw [List.mem_singleton.1 hb]
    exact h48 u h
   ·rw [decDigits, dif_neg h]
    intro b hb
    rcases List.mem_append.1 hb with hb | hb
    ·exact ih (u / 10) (by omega) b hb
    ·rw [List.mem_singleton.1 hb]
     exact h48 _ (Nat.mod_lt u (by decide))
theorem itoa_dec {n : Int} (h : 0 <= n) : itoa n = decDigits n.toNat := by unfold itoa; rw [if_neg (by omega)]
theorem itoa_inj {a b : Int} (ha : 0 <= a) (hb : 0 <= b) (h : itoa a = itoa b) : a = b := by
 rw [itoa_dec ha, itoa_dec hb] at h
 have h1 := congrArg val h
 rw [val_dec, val_dec] at h1
 omega
theorem itoa_len (n : Int) (h0 : 0 <= n) (h : n < 1000000) : (itoa n).length <= 6 := by
 rw [itoa_dec h0, decDigits_length]
 have h6 : ∀ (k u : Nat), u < 10 ^ (k + 1) -> nDigits u <= k + 1 := fun k => by
  induction k with
  | zero => intro u hu; rw [nDigits_small (by simpa using hu)]; omega
  | succ k ih =>
    intro u hu
    by_cases h : u < 10
    ·rw [nDigits_small h]; omega
    ·rw [nDigits_big h]
     have := ih (u / 10) (by rw [Nat.pow_succ] at hu; omega)
     omega
 exact h6 5 _ (by omega)
def words (es : List Int) : List UInt8 := es.flatMap fun e => 32 :: itoa e
def sigL (c : Int) (es : List Int) : List UInt8 := itoa c ++ words es
theorem words_snoc (es : List Int) (e : Int) : words (es ++ [e]) = words es ++ (32 :: itoa e) := by simp [words]
theorem cut_eq {A B R S : List UInt8} (hA : ∀ b ∈ A, b ≠ 32) (hB : ∀ b ∈ B, b ≠ 32) (hR : R = [] \/ ∃ t, R = 32 :: t) (hS : S = [] \/ ∃ t, S = 32 :: t) (h : A ++ R = B ++ S) : A = B /\ R = S := by
 induction A generalizing B with
 | nil =>
   cases B with
   | nil => exact ⟨rfl, h⟩
   | cons y t =>
     simp only [List.nil_append, List.cons_append] at h
     rcases hR with rfl | ⟨u, rfl⟩
     ·cases h
     ·injection h with h1 h2
      exact absurd h1.symm (hB y List.mem_cons_self)
 | cons x r ih =>
   cases B with
   | nil =>
     simp only [List.nil_append, List.cons_append] at h
     rcases hS with rfl | ⟨u, rfl⟩
     ·cases h
     ·injection h with h1 h2
      exact absurd h1 (hA x List.mem_cons_self)
   | cons y t =>
     injection h with h1 h2
     obtain ⟨h3, h4⟩ := ih (fun b hb => hA b (List.mem_cons_of_mem _ hb)) (fun b hb => hB b (List.mem_cons_of_mem _ hb)) h2
     exact ⟨by rw [h1, h3], h4⟩
theorem words_head (es : List Int) : words es = [] \/ ∃ t, words es = 32 :: t := by
 cases es with
 | nil => exact .inl rfl
 | cons e r => exact .inr ⟨_, by simp [words]; rfl⟩
theorem itoa_digit {n : Int} (h : 0 <= n) : ∀ b ∈ itoa n, b ≠ 32 := by rw [itoa_dec h]; exact dec_digit _
theorem words_inj {es fs : List Int} (he : ∀ e ∈ es, 0 <= e) (hf : ∀ e ∈ fs, 0 <= e) (h : words es = words fs) : es = fs := by
 induction es generalizing fs with
 | nil =>
   cases fs with
   | nil => rfl
   | cons f r => simp [words] at h
 | cons e r ih =>
   cases fs with
   | nil => simp [words] at h
   | cons f s =>
     have h1 : itoa e ++ words r = itoa f ++ words s := by
      have h2 : (32 :: itoa e) ++ words r = (32 :: itoa f) ++ words s := by simpa [words] using h
      simpa using h2
     obtain ⟨a, b⟩ := cut_eq (itoa_digit (he e List.mem_cons_self)) (itoa_digit (hf f List.mem_cons_self)) (words_head r) (words_head s) h1
     rw [itoa_inj (he e List.mem_cons_self) (hf f List.mem_cons_self) a, ih (fun x hx => he x (List.mem_cons_of_mem _ hx)) (fun x hx => hf x (List.mem_cons_of_mem _ hx)) b]
theorem sig_inj {c d : Int} {es fs : List Int} (hc : 0 <= c) (hd : 0 <= d) (he : ∀ e ∈ es, 0 <= e) (hf : ∀ e ∈ fs, 0 <= e) : sigL c es = sigL d fs ↔ c = d /\ es = fs := by
 constructor
 ·intro h
  obtain ⟨a, b⟩ := cut_eq (itoa_digit hc) (itoa_digit hd) (words_head es) (words_head fs) h
  exact ⟨itoa_inj hc hd a, words_inj he hf b⟩
 ·rintro ⟨rfl, rfl⟩; rfl
theorem get_bang {zs : List Int} {i : Nat} (h : i < zs.length) : zs.toArray[i]! = zs[i] := by simp [h]
theorem compact_sd {zs : List Int} (hs : zs.Pairwise (· <= ·)) : compact zs = sd zs := by
 have hle : ∀ (i j : Nat) (hi : i < zs.length) (hj : j < zs.length), i <= j -> zs[i] <= zs[j] := fun i j hi hj hij => by
  rcases Nat.lt_or_ge i j with h | h
  ·exact List.pairwise_iff_getElem.1 hs i j hi hj h
  ·obtain rfl : i = j := by omega
   exact Int.le_refl _
 refine sd_of ?_ fun x => ?_
 ·unfold Rise compact compactUpTo
  rw [List.pairwise_map]
  refine ((List.pairwise_lt_range).filter _).imp_of_mem ?_
  intro a b ha hb hab
  obtain ⟨ha1, _⟩ := List.mem_filter.1 ha
  obtain ⟨hb1, hb2⟩ := List.mem_filter.1 hb
  have hal := List.mem_range.1 ha1
  have hbl := List.mem_range.1 hb1
  rw [get_bang hal, get_bang hbl]
  have h1 := hle a (b - 1) hal (by omega) (by omega)
  have h2 := hle (b - 1) b (by omega) hbl (by omega)
  have h3 : zs[b] ≠ zs[b - 1] := fun e => by
   have := keeps_neg (d := zs.toArray) (m := b) (by omega) (by rw [get_bang hbl, get_bang (by omega)]; exact e)
   rw [this] at hb2
   cases hb2
  omega
 ·unfold compact compactUpTo
  rw [List.mem_map]
  constructor
  ·rintro ⟨i, hi, rfl⟩
   have hl := List.mem_range.1 (List.mem_filter.1 hi).1
   rw [get_bang hl]
   exact List.getElem_mem hl
  ·intro hx
   have hp : ∃ i, ∃ h : i < zs.length, zs[i] = x := by
    obtain ⟨i, h, e⟩ := List.mem_iff_getElem.1 hx
    exact ⟨i, h, e⟩
   have least : ∀ n, (∃ i, i < n /\ ∃ h : i < zs.length, zs[i] = x) -> ∃ i, ∃ h : i < zs.length, zs[i] = x /\ ∀ j (hj : j < i), zs[j] ≠ x := fun n => by
    induction n with
    | zero => rintro ⟨i, hi, _⟩; omega
    | succ n ih =>
      rintro ⟨i, hi, h, e⟩
      by_cases hq : ∃ i, i < n /\ ∃ h : i < zs.length, zs[i] = x
      ·exact ih hq
      ·exact ⟨i, h, e, fun j hj ej => hq ⟨j, by omega, by omega, ej⟩⟩
   obtain ⟨i0, h0, e0⟩ := hp
   obtain ⟨i, h, e, hmin⟩ := least zs.length ⟨i0, h0, h0, e0⟩
   refine ⟨i, List.mem_filter.2 ⟨List.mem_range.2 h, ?_⟩, by rw [get_bang h]; exact e⟩
   rcases Nat.eq_zero_or_pos i with rfl | hi
   ·exact keeps_lt_one _ 0 (by omega)
   ·refine keeps_pos ?_
    rw [get_bang h, get_bang (by omega), e]
    exact fun e2 => hmin (i - 1) (by omega) e2.symm
theorem sd_len (l : List Int) : (sd l).length <= l.length := by
 have hi : ∀ x l, (ins x l).length <= l.length + 1 := fun x l => by
  induction l with
  | nil => simp [ins]
  | cons a r ih => unfold ins; split <;> (try split) <;> simp <;> omega
 induction l with
 | nil => simp [sd]
 | cons a r ih => have := hi a (sd r); simp only [sd, List.length_cons]; omega
theorem sigL_snoc (c : Int) (es : List Int) (e : Int) : sigL c es ++ (32 :: itoa e) = sigL c (es ++ [e]) := by unfold sigL; rw [words_snoc, List.append_assoc]
theorem words_len {es : List Int} (h : ∀ e ∈ es, 0 <= e /\ e < 1000000) : (words es).length <= 7 * es.length := by
 induction es with
 | nil => simp [words]
 | cons e r ih =>
   have h1 := ih fun x hx => h x (List.mem_cons_of_mem _ hx)
   have h2 := h e List.mem_cons_self
   have h3 := itoa_len e h2.1 h2.2
   have h4 : words (e :: r) = (32 :: itoa e) ++ words r := by simp [words]
   rw [h4, List.length_append]
   simp only [List.length_cons]
   omega
theorem sigL_len (c : Int) (es : List Int) (h0 : 0 <= c) (h1 : c < 1000000) (h : ∀ e ∈ es, 0 <= e /\ e < 1000000) : (sigL c es).length <= 6 + 7 * es.length := by
 unfold sigL
 rw [List.length_append]
 have := itoa_len c h0 h1
 have := words_len h
 omega
theorem sigL_pos (c : Int) (es : List Int) : 0 < (sigL c es).length := by
 unfold sigL itoa
 have hd : ∀ u, 0 < (decDigits u).length := fun u => by rw [decDigits_length]; have := nDigits_pos u; omega
 rw [List.length_append]
 split
 ·simp only [List.length_cons]; omega
 ·have := hd c.toNat; omega
end Go.Proofs.YtgehimdkdeldaabGreatDoor.Ro
/- Contracts of three functions of Go's library at this program, laid by the shelf's own tools in plain words. -/
namespace Go.Proofs
open Go.Shelf
def Tryz.lays128_ren : Go.Shelf.Ren := ⟨fun | 128 => 109 | n => n, fun | 51 => 179 | 3 => 3 | 4 => 4 | 46 => 146 | 5 => 5 | 9 => 9 | n => n, fun | n => n⟩
def Tryz.lays125_ren : Go.Shelf.Ren := ⟨fun | 125 => 74 | 128 => 109 | 129 => 110 | n => n, fun | 46 => 146 | 3 => 3 | 51 => 179 | 53 => 182 | 4 => 4 | 5 => 5 | 9 => 9 | n => n, fun | n => n⟩
theorem Tryz.lays125 : Go.Proofs.Lays.n125 Tryz.prog Tryz.lays125_ren := {
 mixed := by kernel_rfl
 f125 := Tryz.func74.trans (congrArg some (by kernel_rfl))
 f128 := Tryz.func109.trans (congrArg some (by kernel_rfl))
 f129 := Tryz.func110.trans (congrArg some (by kernel_rfl))
 t3 := Tryz.underlying3
 a3 := Tryz.isAgg3
 z3 := Tryz.sizeOf3
 v3 := Tryz.zeroValue3
 t4 := Tryz.underlying4
 a4 := Tryz.isAgg4
 z4 := Tryz.sizeOf4
 v4 := Tryz.zeroValue4
 t5 := Tryz.underlying5
 a5 := Tryz.isAgg5
 z5 := Tryz.sizeOf5
 v5 := Tryz.zeroValue5
 t9 := Tryz.underlying9
 a9 := Tryz.isAgg9
 z9 := Tryz.sizeOf9
 v9 := Tryz.zeroValue9
 t46 := Tryz.underlying146
 a46 := Tryz.isAgg146
 z46 := Tryz.sizeOf146
 v46 := Tryz.zeroValue146
 t51 := Tryz.underlying179
 a51 := Tryz.isAgg179
 z51 := Tryz.sizeOf179
 v51 := Tryz.zeroValue179
 t53 := Tryz.underlying182
 a53 := Tryz.isAgg182
 z53 := Tryz.sizeOf182
 v53 := Tryz.zeroValue182 }
theorem Tryz.bits_Len (x : Int) (w : World) (h0 : 0 <= x) (h1 : x <= 18446744073709551615) :
 Calls Tryz.prog 74 #[.int .u64 x] w fun e w' => e = .returned (.int .i64 (Lib.bitLen x.toNat)) /\ w' = w := Any.bits_Len Tryz.lays125 x w h0 h1
def Tryz.lays215_ren : Go.Shelf.Ren := ⟨fun | 215 => 111 | n => n, fun | 3 => 3 | 4 => 4 | n => n, fun | n => n⟩
def Tryz.lays122_ren : Go.Shelf.Ren := ⟨fun | 122 => 76 | 215 => 111 | n => n, fun | 3 => 3 | 4 => 4 | n => n, fun | n => n⟩
def Tryz.lays129_ren : Go.Shelf.Ren := ⟨fun | 129 => 110 | n => n, fun | 53 => 182 | 3 => 3 | 4 => 4 | 46 => 146 | 5 => 5 | 9 => 9 | n => n, fun | n => n⟩
def Tryz.lays317_ren : Go.Shelf.Ren := ⟨fun | 317 => 161 | n => n, fun | 3 => 3 | 46 => 146 | n => n, fun | n => n⟩
def Tryz.lays318_ren : Go.Shelf.Ren := ⟨fun | 318 => 162 | n => n, fun | 3 => 3 | 4 => 4 | n => n, fun | n => n⟩
def Tryz.lays283_ren : Go.Shelf.Ren := ⟨fun | 283 => 156 | n => n, fun | 3 => 3 | 9 => 9 | 4 => 4 | n => n, fun | n => n⟩
def Tryz.laysM284_ren : Go.Shelf.Ren := ⟨fun | 284 => 157 | 129 => 110 | 317 => 161 | 318 => 162 | n => n, fun | 53 => 182 | 3 => 3 | 212 => 265 | 0 => 0 | 4 => 4 | 46 => 146 | 5 => 5 | 9 => 9 | n => n, fun | 17 => 7 | n => n⟩
def Tryz.lays285_ren : Go.Shelf.Ren := ⟨fun | 285 => 158 | n => n, fun | 37 => 224 | 53 => 182 | 3 => 3 | 4 => 4 | 51 => 179 | 9 => 9 | 5 => 5 | 0 => 0 | n => n, fun | n => n⟩
def Tryz.lays189_ren : Go.Shelf.Ren := ⟨fun | 189 => 112 | 125 => 74 | 257 => 136 | 128 => 109 | 129 => 110 | 294 => 143 | 295 => 144 | 296 => 145 | 297 => 146 | 298 => 147 | 299 => 148 | 216 => 149 | 300 => 150 | 301 => 151 | 328 => 153 | 329 => 132 | 330 => 133 | 331 => 154 | 332 => 155 | 215 => 111 | 343 => 160 | n => n, fun | 28 => 39 | 3 => 3 | 46 => 146 | 0 => 0 | 51 => 179 | 53 => 182 | 4 => 4 | 183 => 217 | 182 => 216 | 131 => 78 | 5 => 5 | 9 => 9 | 218 => 239 | 222 => 243 | 228 => 247 | 229 => 203 | n => n, fun | n => n⟩
theorem Tryz.lays189 : Go.Proofs.Lays.n189 Tryz.prog Tryz.lays189_ren := {
 mixed := by kernel_rfl
 f125 := Tryz.func74.trans (congrArg some (by kernel_rfl))
 f128 := Tryz.func109.trans (congrArg some (by kernel_rfl))
 f129 := Tryz.func110.trans (congrArg some (by kernel_rfl))
 f189 := Tryz.func112.trans (congrArg some (by kernel_rfl))
 f215 := Tryz.func111.trans (congrArg some (by kernel_rfl))
 f216 := Tryz.func149.trans (congrArg some (by kernel_rfl))
 f257 := Tryz.func136.trans (congrArg some (by kernel_rfl))
 f294 := Tryz.func143.trans (congrArg some (by kernel_rfl))
 f295 := Tryz.func144.trans (congrArg some (by kernel_rfl))
 f296 := Tryz.func145.trans (congrArg some (by kernel_rfl))
 f297 := Tryz.func146.trans (congrArg some (by kernel_rfl))
 f298 := Tryz.func147.trans (congrArg some (by kernel_rfl))
 f299 := Tryz.func148.trans (congrArg some (by kernel_rfl))
 f300 := Tryz.func150.trans (congrArg some (by kernel_rfl))
 f301 := Tryz.func151.trans (congrArg some (by kernel_rfl))
 f328 := Tryz.func153.trans (congrArg some (by kernel_rfl))
 f329 := Tryz.func132.trans (congrArg some (by kernel_rfl))
 f330 := Tryz.func133.trans (congrArg some (by kernel_rfl))
 f331 := Tryz.func154.trans (congrArg some (by kernel_rfl))
 f332 := Tryz.func155.trans (congrArg some (by kernel_rfl))
 f343 := Tryz.func160.trans (congrArg some (by kernel_rfl))
 t0 := Tryz.underlying0
 a0 := Tryz.isAgg0
 z0 := Tryz.sizeOf0
 v0 := Tryz.zeroValue0
 t3 := Tryz.underlying3
 a3 := Tryz.isAgg3
 z3 := Tryz.sizeOf3
 v3 := Tryz.zeroValue3
 t4 := Tryz.underlying4
 a4 := Tryz.isAgg4
 z4 := Tryz.sizeOf4
 v4 := Tryz.zeroValue4
 t5 := Tryz.underlying5
 a5 := Tryz.isAgg5
 z5 := Tryz.sizeOf5
 v5 := Tryz.zeroValue5
 t9 := Tryz.underlying9
 a9 := Tryz.isAgg9
 z9 := Tryz.sizeOf9
 v9 := Tryz.zeroValue9
 t28 := Tryz.underlying39
 a28 := Tryz.isAgg39
 z28 := Tryz.sizeOf39
 v28 := Tryz.zeroValue39
 t46 := Tryz.underlying146
 a46 := Tryz.isAgg146
 z46 := Tryz.sizeOf146
 v46 := Tryz.zeroValue146
 t51 := Tryz.underlying179
 a51 := Tryz.isAgg179
 z51 := Tryz.sizeOf179
 v51 := Tryz.zeroValue179
 t53 := Tryz.underlying182
 a53 := Tryz.isAgg182
 z53 := Tryz.sizeOf182
 v53 := Tryz.zeroValue182
 t131 := Tryz.underlying78
 a131 := Tryz.isAgg78
 z131 := Tryz.sizeOf78
 v131 := Tryz.zeroValue78
 t182 := Tryz.underlying216
 a182 := Tryz.isAgg216
 z182 := Tryz.sizeOf216
 v182 := Tryz.zeroValue216
 t183 := Tryz.underlying217
 a183 := Tryz.isAgg217
 z183 := Tryz.sizeOf217
 v183 := Tryz.zeroValue217
 t218 := Tryz.underlying239
 a218 := Tryz.isAgg239
 z218 := Tryz.sizeOf239
 v218 := Tryz.zeroValue239
 t222 := Tryz.underlying243
 a222 := Tryz.isAgg243
 z222 := Tryz.sizeOf243
 v222 := Tryz.zeroValue243
 t228 := Tryz.underlying247
 a228 := Tryz.isAgg247
 z228 := Tryz.sizeOf247
 v228 := Tryz.zeroValue247
 t229 := Tryz.underlying203
 a229 := Tryz.isAgg203
 z229 := Tryz.sizeOf203
 v229 := Tryz.zeroValue203 }
open Go.Sort Go.RowKit in
theorem Tryz.slices_Sort_int (blk off cap : Nat) (zs : List Int) (w : World) (hH : Holds (Value.int .i64) w blk off zs.toArray) (hblk : blk < w.heap.size) (hsz : zs.length < 4611686018427387904) :
 Calls Tryz.prog 112 #[.slice (some ⟨blk, off, none⟩) zs.length cap] w fun e w' =>
  e = .returned (.tuple #[]) /\ ∃ n os, w' = grow (putRow (Value.int .i64) (Sort.ahead w n) blk off (zs.mergeSort fun x y => decide (x <= y)).toArray) os := Any.slices_Sort_int Tryz.lays189 blk off cap zs w hH hblk hsz
def Tryz.laysM288_ren : Go.Shelf.Ren := ⟨fun | 288 => 152 | 283 => 156 | 284 => 157 | 285 => 158 | 286 => 159 | 129 => 110 | 317 => 161 | 318 => 162 | 319 => 163 | 320 => 164 | 337 => 165 | 338 => 166 | n => n, fun | 37 => 224 | 53 => 182 | 3 => 3 | 4 => 4 | 9 => 9 | 171 => 258 | 0 => 0 | 173 => 260 | 212 => 265 | 51 => 179 | 5 => 5 | 20 => 20 | 213 => 266 | 46 => 146 | 232 => 267 | 233 => 268 | n => n, fun | 17 => 7 | 18 => 8 | 19 => 9 | n => n⟩
def Tryz.laysM249_ren : Go.Shelf.Ren := ⟨fun | 249 => 137 | 288 => 152 | 283 => 156 | 284 => 157 | 285 => 158 | 286 => 159 | 129 => 110 | 317 => 161 | 318 => 162 | 319 => 163 | 320 => 164 | 337 => 165 | 338 => 166 | n => n, fun | 37 => 224 | 2 => 2 | 3 => 3 | 53 => 182 | 4 => 4 | 9 => 9 | 171 => 258 | 0 => 0 | 173 => 260 | 212 => 265 | 51 => 179 | 5 => 5 | 20 => 20 | 213 => 266 | 46 => 146 | 232 => 267 | 233 => 268 | n => n, fun | 17 => 7 | 18 => 8 | 19 => 9 | n => n⟩
def Tryz.laysM176_ren : Go.Shelf.Ren := ⟨fun | 176 => 113 | 249 => 137 | 288 => 152 | 283 => 156 | 284 => 157 | 285 => 158 | 286 => 159 | 129 => 110 | 317 => 161 | 318 => 162 | 319 => 163 | 320 => 164 | 337 => 165 | 338 => 166 | n => n, fun | 37 => 224 | 2 => 2 | 3 => 3 | 53 => 182 | 4 => 4 | 9 => 9 | 171 => 258 | 0 => 0 | 173 => 260 | 212 => 265 | 51 => 179 | 5 => 5 | 20 => 20 | 213 => 266 | 46 => 146 | 232 => 267 | 233 => 268 | n => n, fun | 17 => 7 | 18 => 8 | 19 => 9 | n => n⟩
theorem Tryz.laysM176 : Go.Proofs.LaysM.n176 Tryz.prog Tryz.laysM176_ren := {
 mixed := by kernel_rfl
 f129 := Tryz.func110.trans (congrArg some (by kernel_rfl))
 f176 := Tryz.func113.trans (congrArg some (by kernel_rfl))
 f249 := Tryz.func137.trans (congrArg some (by kernel_rfl))
 f283 := Tryz.func156.trans (congrArg some (by kernel_rfl))
 f284 := Tryz.func157.trans (congrArg some (by kernel_rfl))
 f285 := Tryz.func158.trans (congrArg some (by kernel_rfl))
 f286 := Tryz.func159.trans (congrArg some (by kernel_rfl))
 f288 := Tryz.func152.trans (congrArg some (by kernel_rfl))
 f317 := Tryz.func161.trans (congrArg some (by kernel_rfl))
 f318 := Tryz.func162.trans (congrArg some (by kernel_rfl))
 f319 := Tryz.func163.trans (congrArg some (by kernel_rfl))
 f320 := Tryz.func164.trans (congrArg some (by kernel_rfl))
 f337 := Tryz.func165.trans (congrArg some (by kernel_rfl))
 f338 := Tryz.func166.trans (congrArg some (by kernel_rfl))
 t0 := Tryz.underlying0
 a0 := Tryz.isAgg0
 z0 := Tryz.sizeOf0
 v0 := Tryz.zeroValue0
 t2 := Tryz.underlying2
 a2 := Tryz.isAgg2
 z2 := Tryz.sizeOf2
 v2 := Tryz.zeroValue2
 t3 := Tryz.underlying3
 a3 := Tryz.isAgg3
 z3 := Tryz.sizeOf3
 v3 := Tryz.zeroValue3
 t4 := Tryz.underlying4
 a4 := Tryz.isAgg4
 z4 := Tryz.sizeOf4
 v4 := Tryz.zeroValue4
 t5 := Tryz.underlying5
 a5 := Tryz.isAgg5
 z5 := Tryz.sizeOf5
 v5 := Tryz.zeroValue5
 t9 := Tryz.underlying9
 a9 := Tryz.isAgg9
 z9 := Tryz.sizeOf9
 v9 := Tryz.zeroValue9
 t20 := Tryz.underlying20
 a20 := Tryz.isAgg20
 z20 := Tryz.sizeOf20
 v20 := Tryz.zeroValue20
 t37 := Tryz.underlying224
 a37 := Tryz.isAgg224
 z37 := Tryz.sizeOf224
 v37 := Tryz.zeroValue224
 t46 := Tryz.underlying146
 a46 := Tryz.isAgg146
 z46 := Tryz.sizeOf146
 v46 := Tryz.zeroValue146
 t51 := Tryz.underlying179
 a51 := Tryz.isAgg179
 z51 := Tryz.sizeOf179
 v51 := Tryz.zeroValue179
 t53 := Tryz.underlying182
 a53 := Tryz.isAgg182
 z53 := Tryz.sizeOf182
 v53 := Tryz.zeroValue182
 t171 := Tryz.underlying258
 a171 := Tryz.isAgg258
 z171 := Tryz.sizeOf258
 v171 := Tryz.zeroValue258
 t173 := Tryz.underlying260
 a173 := Tryz.isAgg260
 z173 := Tryz.sizeOf260
 v173 := Tryz.zeroValue260
 t212 := Tryz.underlying265
 a212 := Tryz.isAgg265
 z212 := Tryz.sizeOf265
 v212 := Tryz.zeroValue265
 t213 := Tryz.underlying266
 a213 := Tryz.isAgg266
 z213 := Tryz.sizeOf266
 t232 := Tryz.underlying267
 a232 := Tryz.isAgg267
 z232 := Tryz.sizeOf267
 v232 := Tryz.zeroValue267
 t233 := Tryz.underlying268
 a233 := Tryz.isAgg268
 z233 := Tryz.sizeOf268
 v233 := Tryz.zeroValue268
 g17 := by kernel_rfl
 g18 := by kernel_rfl
 g19 := by kernel_rfl
 i0 := by kernel_rfl
 i2 := by kernel_rfl
 i3 := by kernel_rfl
 i4 := by kernel_rfl
 i5 := by kernel_rfl
 i9 := by kernel_rfl
 i20 := by kernel_rfl
 i37 := by kernel_rfl
 i46 := by kernel_rfl
 i51 := by kernel_rfl
 i53 := by kernel_rfl
 i171 := by kernel_rfl
 i173 := by kernel_rfl
 i212 := by kernel_rfl
 i232 := by kernel_rfl
 i233 := by kernel_rfl
 m17 := by kernel_rfl
 m18 := by kernel_rfl
 m19 := by kernel_rfl }
open Go.RowKit Go.Sort Go.Lib in
theorem Tryz.strconv_AppendInt_10 (B n : Nat) (i : Int) (h0 : -9223372036854775808 <= i) (h1 : i <= 9223372036854775807) (sv : Value) (xs : List Value) (w : World) (hown : w.ownsRow B 5 1 sv n xs) (hBw : B <= w.heap.size) (hlim : n + 21 <= 140737488355328) (htab : Lib.TabBelow Tryz.prog B w "internal/strconv.uint64pow10" .u64 Lib.pow10Tab) :
 Calls Tryz.prog 113 #[sv, .int .i64 i, .int .i64 10] w fun e w' => ∃ v', e = .returned v' /\ w'.ownsRow B 5 1 v' (n + (Lib.itoa i).length) (xs ++ Lib.byteCells (Lib.itoa i)) /\ Below B w w' /\ Lib.OthersKept 5 none w w' := Any.strconv_AppendInt_10 Tryz.laysM176 B n i h0 h1 sv xs w hown hBw hlim htab
def Tryz.lays264_ren : Go.Shelf.Ren := ⟨fun | 264 => 81 | n => n, fun | 53 => 182 | 46 => 146 | n => n, fun | n => n⟩
def Tryz.lays212_ren : Go.Shelf.Ren := ⟨fun | 212 => 57 | 263 => 80 | 264 => 81 | n => n, fun | 46 => 146 | 51 => 179 | 146 => 180 | 53 => 182 | 148 => 183 | n => n, fun | n => n⟩
theorem Tryz.lays212 : Go.Proofs.Lays.n212 Tryz.prog Tryz.lays212_ren := {
 mixed := by kernel_rfl
 f212 := Tryz.func57.trans (congrArg some (by kernel_rfl))
 f263 := Tryz.func80.trans (congrArg some (by kernel_rfl))
 f264 := Tryz.func81.trans (congrArg some (by kernel_rfl))
 t46 := Tryz.underlying146
 a46 := Tryz.isAgg146
 z46 := Tryz.sizeOf146
 v46 := Tryz.zeroValue146
 t51 := Tryz.underlying179
 a51 := Tryz.isAgg179
 z51 := Tryz.sizeOf179
 v51 := Tryz.zeroValue179
 t53 := Tryz.underlying182
 a53 := Tryz.isAgg182
 z53 := Tryz.sizeOf182
 v53 := Tryz.zeroValue182
 t146 := Tryz.underlying180
 a146 := Tryz.isAgg180
 z146 := Tryz.sizeOf180
 v146 := Tryz.zeroValue180
 t148 := Tryz.underlying183
 a148 := Tryz.isAgg183
 z148 := Tryz.sizeOf183
 v148 := Tryz.zeroValue183 }
open Go.RowKit Go.Lib in
theorem Tryz.bits_Mul (x y : Nat) (hx : x < 18446744073709551616) (hy : y < 18446744073709551616) (w : World) :
 Calls Tryz.prog 57 #[.int .u64 x, .int .u64 y] w fun e w' => e = .returned (.tuple #[.int .u64 ((x * y / 18446744073709551616 : Nat) : Int), .int .u64 ((x * y % 18446744073709551616 : Nat) : Int)]) /\ w' = w := Any.bits_Mul Tryz.lays212 x y hx hy w
def Tryz.lays111_ren : Go.Shelf.Ren := ⟨fun | 111 => 56 | n => n, fun | 28 => 39 | 3 => 3 | 4 => 4 | 0 => 0 | n => n, fun | n => n⟩
def Tryz.laysNm215_ren : Go.Shelf.Ren := ⟨fun | 15 => 120 | n => n, fun | 22 => 39 | 3 => 3 | 4 => 4 | n => n, fun | n => n⟩
def Tryz.laysNm220_ren : Go.Shelf.Ren := ⟨fun | 20 => 114 | n => n, fun | 22 => 39 | 3 => 3 | 4 => 4 | 0 => 0 | n => n, fun | n => n⟩
theorem Tryz.laysNm220 : Go.Proofs.Lays2.n20 Tryz.prog Tryz.laysNm220_ren := {
 mixed := by kernel_rfl
 f20 := Tryz.func114.trans (congrArg some (by kernel_rfl))
 t0 := Tryz.underlying0
 a0 := Tryz.isAgg0
 z0 := Tryz.sizeOf0
 v0 := Tryz.zeroValue0
 t3 := Tryz.underlying3
 a3 := Tryz.isAgg3
 z3 := Tryz.sizeOf3
 v3 := Tryz.zeroValue3
 t4 := Tryz.underlying4
 a4 := Tryz.isAgg4
 z4 := Tryz.sizeOf4
 v4 := Tryz.zeroValue4
 t22 := Tryz.underlying39
 a22 := Tryz.isAgg39
 z22 := Tryz.sizeOf39
 v22 := Tryz.zeroValue39
 i3 := by kernel_rfl }
open Go.RowKit Go.Lib Go.Sort in
theorem Tryz.slices_Compact_int (blk off cap : Nat) (zs : List Int) (w : World) (hH : Holds (Value.int .i64) w blk off zs.toArray) (hsz : zs.length <= 9223372036854775807) (hcap : zs.length <= cap) :
 Calls Tryz.prog 114 #[.slice (some ⟨blk, off, none⟩) zs.length cap] w fun e w' => e = .returned (.slice (some ⟨blk, off, none⟩) (Lib.compact zs).length cap) /\ ∃ q, w' = putRow (Value.int .i64) (Sort.ahead w q) blk off (Lib.compact zs ++ List.replicate (zs.length - (Lib.compact zs).length) 0).toArray := Any.slices_Compact_int Tryz.laysNm220 blk off cap zs w hH hsz hcap
def Tryz.laysNm237_ren : Go.Shelf.Ren := ⟨fun | 37 => 111 | n => n, fun | 3 => 3 | 4 => 4 | n => n, fun | n => n⟩
def Tryz.laysNm231_ren : Go.Shelf.Ren := ⟨fun | 31 => 149 | 37 => 111 | n => n, fun | 3 => 3 | 4 => 4 | n => n, fun | n => n⟩
def Tryz.laysSlE041_f120_ren : Go.Shelf.Ren := ⟨fun | 41 => 120 | n => n, fun | 22 => 39 | 23 => 3 | 4 => 4 | n => n, fun | n => n⟩
end Go.Proofs
/- slices.Sort of a list of numbers that is the call's own. -/
namespace Go.Proofs.YtgehimdkdeldaabGreatDoor
open Go.RowKit Go.Maps
theorem sortI_any (w : World) (B g cap : Nat) (zs : List Int) (h : OwnI w B (.slice (some ⟨g, 0, none⟩) zs.length cap) zs) (hn : zs.length <= 1000000) :
 Calls Tryz.prog 112 #[.slice (some ⟨g, 0, none⟩) zs.length cap] w fun e w' => e = .returned (.tuple #[]) /\ OwnI w' B (.slice (some ⟨g, 0, none⟩) zs.length cap) (zs.mergeSort fun x y => decide (x <= y)) /\ w.grownBy w' (some g) := by
 rcases h.2 with ⟨e, _⟩ | ⟨g', cap', cur, e, hg, hb, hc, hm, hs, ht⟩
 ·cases e
 injection e with e1 e2 e3
 have e4 := Option.some.inj e1
 injection e4 with e5
 subst e5; subst e3
 rw [Nat.mul_one] at ht
 refine (Tryz.slices_Sort_int g 0 cap zs w (holds_of_blockI hb ht) (t_lt hb) (by omega)).mono ?_
 rintro r w' ⟨rfl, n, os, rfl⟩
 have hl : (zs.mergeSort fun x y => decide (x <= y)).length = zs.length := List.length_mergeSort _
 refine ⟨rfl, ?_, grownBy_sortedI _⟩
 have := ownsRow_sortedI (n := n) (os := os) hl hg hb hc hm hs
 unfold OwnI
 rw [hl]
 exact this
theorem sort_perm (zs : List Int) : (zs.mergeSort fun x y => decide (x <= y)).Perm zs := List.mergeSort_perm _ _
theorem sort_rise (zs : List Int) : (zs.mergeSort fun x y => decide (x <= y)).Pairwise (· <= ·) := by
 have h := List.pairwise_mergeSort (le := fun x y : Int => decide (x <= y)) (fun a b c h1 h2 => by simp at *; omega) (fun a b => by simp; omega) zs
 exact h.imp fun h => by simpa using h
end Go.Proofs.YtgehimdkdeldaabGreatDoor
/- Contract of the program's signature: the text of a state's class, and of the labels and classes that its steps lead to. -/
namespace Go.Proofs.YtgehimdkdeldaabGreatDoor
open Go.RowKit Go.Maps
attribute [local go_sem ↓] Go.wp_at_zero Go.wp_at_succ
def Pow (w : World) : Prop := Lib.TabBelow Tryz.prog w.heap.size w "internal/strconv.uint64pow10" .u64 Lib.pow10Tab
theorem Pow.below {w w' : World} (h : Pow w) (hb : Below w.heap.size w w') : Pow w' := Lib.tabBelow_of_tabIs (h w' hb)
theorem Pow.from {w w' : World} (h : Pow w) (hb : Below w.heap.size w w') : Lib.TabBelow Tryz.prog w.heap.size w' "internal/strconv.uint64pow10" .u64 Lib.pow10Tab := Lib.TabBelow.on h hb
theorem Tryz.infoU8 : (Tryz.prog.info? 5).map (fun i => (i.zero, i.size, i.bytes)) = some (some (.int .u8 0), 1, 1) := by kernel_rfl
theorem compactI_any (w : World) (B g cap : Nat) (zs : List Int) (h : OwnI w B (.slice (some ⟨g, 0, none⟩) zs.length cap) zs) (hs : zs.Pairwise (· <= ·)) :
 Calls Tryz.prog 114 #[.slice (some ⟨g, 0, none⟩) zs.length cap] w fun e w' => e = .returned (.slice (some ⟨g, 0, none⟩) (Ro.sd zs).length cap) /\ (∃ cur, w'.heap[g]? = some (.cells cur 3 (0, 0)) /\ ∀ (i : Nat) (z : Int), (Ro.sd zs)[i]? = some z -> cur[i]? = some (.int .i64 z)) /\ w.grownBy w' (some g) := by
 rcases h.2 with ⟨e, _⟩ | ⟨g', cap', cur, e, hg, hb, hc, hm, hsz, ht⟩
 ·cases e
 injection e with e1 e2 e3
 have e4 := Option.some.inj e1
 injection e4 with e5
 subst e5; subst e3
 rw [Nat.mul_one] at ht hsz
 refine (Tryz.slices_Compact_int g 0 cap zs w (holds_of_blockI hb ht) (by unfold maxLen at hm; omega) (by omega)).mono ?_
 rintro r w' ⟨rfl, q, hw'⟩
 rw [Ro.compact_sd hs] at hw' ⊢
 obtain ⟨d, hd⟩ : ∃ d, d = Ro.sd zs ++ List.replicate (zs.length - (Ro.sd zs).length) 0 := ⟨_, rfl⟩
 rw [<- hd] at hw'
 have hdl : d.length <= zs.length := by
  have hp : (Ro.sd zs).length <= zs.length := by rw [<- Ro.compact_sd hs]; unfold Lib.compact Lib.compactUpTo; rw [List.length_map]; exact Nat.le_trans (List.length_filter_le _ _) (by simp)
  rw [hd]; simp; omega
 have hgr : Sort.grow w' #[] = w' := by simp [Sort.grow]
 have h1 := heap_sortedI (n := q) (os := #[]) d.toArray hb
 rw [<- hw', hgr] at h1
 have h2 := grownBy_sortedI (w := w) (g := g) (n := q) (os := #[]) d.toArray
 rw [<- hw', hgr] at h2
 refine ⟨rfl, ⟨_, h1, fun i z hz => ?_⟩, h2⟩
 have hil := (List.getElem?_eq_some_iff.1 hz).1
 have h3 := take_putCellsI cur d (by omega)
 have hdi : d[i]? = some z := by rw [hd, List.getElem?_append_left hil]; exact hz
 have hid := (List.getElem?_eq_some_iff.1 hdi).1
 have h4 : ((Sort.putCells (Value.int .i64) 0 d.toArray cur).toList.take d.length)[i]? = (d.map (Value.int .i64))[i]? := by rw [h3]
 rw [List.getElem?_take_of_lt hid, List.getElem?_map, hdi, Array.getElem?_toList] at h4
 exact h4
structure SgAt (w wr : World) (g : Nat) (tv : Value) (txt : List UInt8) (es : List Int) : Prop where
 bl : Below w.heap.size w wr
 gu : w.heap.size <= g
 row : ∃ cur, wr.heap[g]? = some (.cells cur 3 (0, 0)) /\ ∀ (i : Nat) (z : Int), es[i]? = some z -> cur[i]? = some (.int .i64 z)
 text : wr.ownsRow w.heap.size 5 1 tv txt.length (Lib.byteCells txt)
theorem SgAt.cell {w wr : World} {g : Nat} {tv : Value} {txt : List UInt8} {es : List Int} (h : SgAt w wr g tv txt es) {i : Nat} {z : Int} (hz : es[i]? = some z) : wr.cell? ⟨g, i, none⟩ = some (.int .i64 z) := by
 obtain ⟨cur, h1, h2⟩ := h.row
 exact cell0_of h1 (h2 i z hz)
theorem SgAt.num {w wr w' : World} {g : Nat} {tv tv' : Value} {txt : List UInt8} {es : List Int} (h : SgAt w wr g tv txt es) (e : Int) (hO : w'.ownsRow w.heap.size 5 1 tv' (txt.length + (Lib.itoa e).length) (Lib.byteCells txt ++ Lib.byteCells (Lib.itoa e))) (hb : Below w.heap.size wr w') (hk : Lib.OthersKept 5 none wr w') : SgAt w w' g tv' (txt ++ Lib.itoa e) es := by
 obtain ⟨cur, h1, h2⟩ := h.row
 refine ⟨h.bl.trans hb, h.gu, ⟨cur, hk g _ h1 (by simp) (fun c fz e9 => by injection e9 with _ e9; exact absurd e9 (by decide)), h2⟩, ?_⟩
 rw [List.length_append, show Lib.byteCells (txt ++ Lib.itoa e) = Lib.byteCells txt ++ Lib.byteCells (Lib.itoa e) by simp [Lib.byteCells]]
 exact hO
theorem SgAt.sp {w wr w' : World} {g : Nat} {tv tv' : Value} {txt : List UInt8} {es : List Int} {o : Obj} (h : SgAt w wr g tv txt es) (hO : w'.ownsRow w.heap.size 5 1 tv' (txt.length + 1) (Lib.byteCells txt ++ [.int .u8 32])) (hg : (wr.alloc o).grownBy w' tv.ownBlock) : SgAt w w' g tv' (txt ++ [32]) es := by
 obtain ⟨cur, h1, h2⟩ := h.row
 have hk := grown_alloc hg
 refine ⟨h.bl.trans (hk.below h.bl.size fun b hb => (h.text.lt b hb).1), h.gu, ⟨cur, (hk.block g (t_lt h1) fun hb => own_bk h.text h1 (by decide) hb).trans h1, h2⟩, ?_⟩
 rw [List.length_append, show Lib.byteCells (txt ++ [32]) = Lib.byteCells txt ++ [.int .u8 32] by simp [Lib.byteCells]]
 exact hO
theorem byte_row {w : World} {B : Nat} {tv : Value} {txt : List UInt8} (h : w.ownsRow B 5 1 tv txt.length (Lib.byteCells txt)) (h0 : 0 < txt.length) : ∃ a cap, tv = .slice (some a) txt.length cap /\ ∀ j (hj : j < txt.length), w.cell? (a.add j) = some (.int .u8 (txt[j].toNat : Int)) := by
 obtain ⟨ao, cap, hv⟩ := row_shape h
 rcases h.2 with ⟨e, h1⟩ | ⟨g, cap', cur, e, _⟩
 ·omega
 ·rw [e] at h
  refine ⟨⟨g, 0, none⟩, cap', e, fun j hj => ?_⟩
  have h2 := h.cellAt j (by omega)
  rw [addz, h2]
  simp [Lib.byteCells, hj]
end Go.Proofs.YtgehimdkdeldaabGreatDoor
/- Contract of the program's signature: the walk. -/
namespace Go.Proofs.YtgehimdkdeldaabGreatDoor
open Go.RowKit Go.Maps
attribute [local go_sem ↓] Go.wp_at_zero Go.wp_at_succ
def sigB (c : Int) (es : List Int) : ByteArray := ⟨(Ro.sigL c es).toArray⟩
theorem ends_take {n : Int} {c : List Nat} {zs : List Ro.St} {i : Nat} {z : Ro.St} (h : zs[i]? = some z) : Ro.ends n c (zs.take (i + 1)) = Ro.ends n c (zs.take i) ++ [z.1 * n + Ro.cl c z.2] := by
 rw [take_succ_of h]
 simp [Ro.ends]
theorem ends_set {N i : Nat} {xs : List Int} {x : Int} (hl : xs.length = i) (hi : i < N) : (iC xs ++ List.replicate (N - i) (Value.int .i64 0)).set i (.int .i64 x) = iC (xs ++ [x]) ++ List.replicate (N - (i + 1)) (.int .i64 0) := by
 have e : N - i = (N - (i + 1)) + 1 := by omega
 have hl2 : (iC xs).length = i := by simp [iC, hl]
 rw [e, List.replicate_succ, List.set_append_right _ _ (by omega), hl2, Nat.sub_self, List.set_cons_zero]
 simp [iC]
theorem ends_sort_mem {zs : List Int} {n : Int} (h : ∀ z ∈ zs, 0 <= z /\ z < n) : ∀ z ∈ Ro.sd (zs.mergeSort fun x y => decide (x <= y)), 0 <= z /\ z < n := fun z hz => h z ((sort_perm zs).mem_iff.1 (Ro.mem_sd.1 hz))
theorem sd_sort (zs : List Int) : Ro.sd (zs.mergeSort fun x y => decide (x <= y)) = Ro.sd zs := Ro.sd_eq.2 fun _ => (sort_perm zs).mem_iff
theorem cl_lt {c : List Nat} {n : Nat} (h : ∀ u ∈ c, u < n) (t : Int) (h0 : 0 < n) : Ro.cl c t < n := by
 unfold Ro.cl
 cases hx : c[t.toNat]? with
 | none => simpa using h0
 | some u => exact h u (List.mem_of_getElem? hx)
set_option maxRecDepth 100000 in
set_option maxHeartbeats 8000000 in
theorem signature_any (k n : Nat) (c : List Nat) (zs : List Ro.St) (vs vc : Value) (w : World) (hk : k <= 1000) (hn : n <= 1000) (hc : c.length = n) (hcl : ∀ u ∈ c, u < n) (hz : ∀ z ∈ zs, (0 <= z.1 /\ z.1 <= 300) /\ 0 <= z.2 /\ z.2 < (n : Int)) (hzl : zs.length <= 10000) (hs : BSteps.Has w vs zs) (hv : HasI w vc (natI c)) (hP : Pow w) :
 Calls Tryz.prog 79 #[.int .i64 k, vs, vc] w fun r w' => r = .returned (.string (sigB k (Ro.sd (Ro.ends n c zs)))) /\ Below w.heap.size w w' := by
 obtain ⟨i0, hi0, hz0, hz1, hz2⟩ := info_parts Tryz.infoU8
 have hs0 := hs
 obtain ⟨av, cs, rfl, _⟩ := hs0
 obtain ⟨ac, cc, rfl, hcs⟩ := hv
 obtain ⟨N, hN⟩ : ∃ N, N = zs.length := ⟨_, rfl⟩
 have hcn : (natI c).length = n := by simp [natI, hc]
 rw [hcn]
 rw [<- hN] at hs hzl ⊢
 have HH : Hid _ := And.intro hs (And.intro hcs (And.intro hc (And.intro hcl (And.intro hz (And.intro hP hN)))))
 have hmk := makeI N (by omega) w
 clear hs hcs hc hcl hz hP hN hcn
 go_enter Tryz.func79, Tryz.ntmps79
 go_wp2_with fail
 clear hmk
 go_loopg [18] N (fun q iv wr => ∃ i : Nat, q = N - i /\ i <= N /\ iv = .int .i64 i /\ Arr 3 w wr w.heap.size (iC (Ro.ends n c (zs.take i)) ++ List.replicate (N - i) (.int .i64 0)))
 case atStart => exact ⟨0, rfl, Nat.zero_le _, rfl, by have h1 := arr_new 3 (.int .i64 0) rfl N w; simpa [Ro.ends, iC] using h1⟩
 case round =>
  obtain ⟨i, rfl, hi, rfl, hA⟩ := hrel
  by_cases hlt : i < N
  ·obtain ⟨⟨l, t0⟩, hzi⟩ : ∃ z, zs[i]? = some z := ⟨zs[i]'(by have := HH.out.2.2.2.2.2.2; omega), List.getElem?_eq_getElem _⟩
   have hzb := HH.out.2.2.2.2.1 _ (List.mem_of_getElem? hzi)
   simp only at hzb
   obtain ⟨t, rfl⟩ : ∃ t : Nat, t0 = (t : Int) := ⟨t0.toNat, by omega⟩
   obtain ⟨x, hx⟩ : ∃ x, c[t]? = some x := ⟨c[t]'(by have := HH.out.2.2.1; omega), List.getElem?_eq_getElem _⟩
   have hxn := HH.out.2.2.2.1 x (List.mem_of_getElem? hx)
   have hst := ends_take (n := n) (c := c) hzi
   have hcx : Ro.cl c (t : Int) = x := by unfold Ro.cl; rw [Int.toNat_natCast, hx]; rfl
   simp only [hcx] at hst
   obtain ⟨a, rfl, d0, d1⟩ := step_at (HH.out.1.below hA.bl) hzi
   simp only at d0 d1
   obtain ⟨a2, rfl, d2⟩ := HH.out.2.1 t (x : Int) (by simp [natI, hx])
   obtain ⟨wb, hwb⟩ : ∃ wb, wb = wr.alloc (.cells #[.int .i64 l, .int .i64 t] 111) := ⟨_, rfl⟩
   have hbb : Below wr.heap.size wr wb := by rw [hwb]; exact (Below.refl _ _).alloc (Nat.le_refl _) _
   have hgb : wb.heap[wr.heap.size]? = some (.cells #[.int .i64 l, .int .i64 t] 111 (0, 0)) := by rw [hwb]; exact heap_alloc_new wr _
   have f0 : wb.cell? ⟨wr.heap.size, 0, none⟩ = some (.int .i64 l) := cell0_of hgb rfl
   have f1 : wb.cell? ⟨wr.heap.size, 1, none⟩ = some (.int .i64 t) := cell0_of hgb rfl
   have hbw : Below w.heap.size w wb := hA.bl.trans (hbb.mono hA.bl.size)
   have f2 : wb.cell? (a2.add t) = some (.int .i64 x) := (hbw.cell (World.block_lt_of_cell? w _ d2)).trans d2
   have hAb := hA.below hbb
   have hel : (Ro.ends n c (zs.take i)).length = i := by simp [Ro.ends]; have := HH.out.2.2.2.2.2.2; omega
   have hix : (iC (Ro.ends n c (zs.take i)) ++ List.replicate (N - i) (Value.int .i64 0))[i]? = some (.int .i64 0) := by
    rw [List.getElem?_append_right (by simp [iC, hel]), List.getElem?_replicate, if_pos (by simp [iC, hel]; omega)]
   have cx := hAb.cell hix
   have cf := hAb.free i
   have hset := ends_set (x := l * n + x) hel hlt
   have hAs := hAb.set i (.int .i64 (l * n + x))
   rw [hset, <- hst] at hAs
   have p0 : (0 : Int) <= (i : Int) := by omega
   have p1 : (i : Int) < (N : Int) := by omega
   have p2 : (0 : Int) <= (t : Int) := by omega
   have p3 : (t : Int) < (n : Int) := by omega
   have hm0 : 0 <= l * (n : Int) := Int.mul_nonneg hzb.1.1 (by omega)
   have hm1 : l * (n : Int) <= 300 * 1000 := Int.mul_le_mul hzb.1.2 (by omega) (by omega) (by omega)
   have hm2 : IntKind.i64.wrap (l * (n : Int)) = l * (n : Int) := by rw [IntKind.wrap_i64]; omega
   have hm3 : IntKind.i64.wrap (l * (n : Int) + (x : Int)) = l * (n : Int) + (x : Int) := by rw [IntKind.wrap_i64]; omega
   have n1 : ¬ w.heap.size = wr.heap.size := by have := hA.lt; omega
   have n2 : ¬ wr.heap.size = w.heap.size := fun e => n1 e.symm
   have HZ : Hid _ := And.intro hwb hAs
   clear hwb hbb hgb hbw hAb hA hix hset hAs hst hzi hx hcx d2 hel hzb hxn
   go_upto_region 5 with fail
   rw [<- HZ.out.1]
   go_region
   all_goals go_wp2_with fail
   all_goals
    go_roundg (N - (i + 1))
    case measure => omega
    case rel => exact ⟨i + 1, rfl, by omega, by go_num, HZ.out.2.below (Below.refl _ _).drew⟩
  ·obtain rfl : i = N := by omega
   have k1 : ¬ (i : Int) < (i : Int) := by omega
   obtain ⟨E, hE⟩ : ∃ E, E = Ro.ends n c zs := ⟨_, rfl⟩
   have hEl : E.length = i := by rw [hE]; simp [Ro.ends]; exact HH.out.2.2.2.2.2.2.symm
   have hEb : ∀ z ∈ E, 0 <= z /\ z < 1000000 := fun z hz => by
    rw [hE] at hz
    obtain ⟨y, hy, rfl⟩ := List.mem_map.1 hz
    have h1 := HH.out.2.2.2.2.1 y hy
    have h2 := cl_lt HH.out.2.2.2.1 y.2 (by omega)
    have hm0 : 0 <= y.1 * (n : Int) := Int.mul_nonneg h1.1.1 (by omega)
    have hm1 : y.1 * (n : Int) <= 300 * 1000 := Int.mul_le_mul h1.1.2 (by omega) (by omega) (by omega)
    omega
   rw [List.take_of_length_le (by have := HH.out.2.2.2.2.2.2; omega), <- hE, Nat.sub_self, List.replicate_zero, List.append_nil] at hA
   have hO : OwnI wr w.heap.size (.slice (some ⟨w.heap.size, 0, none⟩) E.length E.length) E := by
    have h1 := hA.own (by simp [iC, hEl]; unfold maxLen; omega)
    rw [show (iC E).length = E.length by simp [iC]] at h1
    exact h1
   have hS := sortI_any wr w.heap.size w.heap.size E.length E hO (by omega)
   have hfin : Ro.sd (Ro.ends n c zs) = Ro.sd (E.mergeSort fun x y => decide (x <= y)) := by rw [<- hE, sd_sort]
   obtain ⟨E2, hE2⟩ : ∃ E2, E2 = E.mergeSort fun x y => decide (x <= y) := ⟨_, rfl⟩
   have hr2 : E2.Pairwise (· <= ·) := by rw [hE2]; exact sort_rise E
   have hl2 : E2.length = i := by rw [hE2, List.length_mergeSort]; exact hEl
   have hb2 : ∀ z ∈ Ro.sd E2, 0 <= z /\ z < 1000000 := by rw [hE2]; exact ends_sort_mem hEb
   have hsl : (Ro.sd E2).length <= i := by have := Ro.sd_len E2; omega
   rw [<- hE2] at hS hfin
   rw [hEl] at hS
   have H1 : Hid _ := And.intro hS (And.intro hA.bl (And.intro hr2 (And.intro hl2 (And.intro hb2 hfin))))
   clear hA hO hS hE hEl hEb hE2 hr2 hl2 hb2 hi hlt hfin
   go_wp2_with fail
   refine Calls.mono H1.out.1 ?_
   rintro r w2 ⟨rfl, hO2, hg2⟩
   have hbl2 : Below w.heap.size w w2 := H1.out.2.1.grown hg2 H1.out.2.1.size fun b e => by injection e with e; omega
   have H2 : Hid _ := And.intro hO2 hbl2
   clear hO2 hg2 hbl2
   go_wp2_with fail
   refine Calls.mono (Tryz.strconv_AppendInt_10 w.heap.size 0 (k : Int) (by omega) (by omega) (.slice none 0 0) [] w2 (World.ownsRow_nil _ _ _ _) H2.out.2.size (by omega) (HH.out.2.2.2.2.2.1.from H2.out.2)) ?_
   rintro r w3 ⟨tv, rfl, hO3, hb3, hk3⟩
   have hOI : OwnI w3 w.heap.size (.slice (some ⟨w.heap.size, 0, none⟩) E2.length i) E2 := by
    have h1 := H2.out.1
    rw [H1.out.2.2.2.1]
    refine trow_at h1 fun b hb => ?_
    obtain ⟨c1, hc1⟩ := row_cells h1 hb
    rw [hc1]
    exact hk3 b _ hc1 (by simp) (fun c fz e9 => by injection e9 with _ e9; exact absurd e9 (by decide))
   have hC := compactI_any w3 w.heap.size w.heap.size i E2 hOI H1.out.2.2.1
   rw [H1.out.2.2.2.1] at hC
   have htx : w3.ownsRow w.heap.size 5 1 tv (Lib.itoa (k : Int)).length (Lib.byteCells (Lib.itoa (k : Int))) := by simpa using hO3
   have H3 : Hid _ := And.intro hC (And.intro (H2.out.2.trans hb3) (And.intro htx (row_cells hOI rfl)))
   obtain ⟨at0, ct0, htv⟩ := row_shape htx
   subst htv
   clear hOI hC htx hO3 hb3 hk3
   go_wp2_with fail
   refine Calls.mono H3.out.1 ?_
   rintro r w4 ⟨rfl, hcur4, hg4⟩
   obtain ⟨es, hes⟩ : ∃ es, es = Ro.sd E2 := ⟨_, rfl⟩
   rw [<- hes] at hcur4 hsl
   have hM0 : (Ro.sd E2).length = es.length := by rw [hes]
   rw [hM0]
   have hSg : SgAt w w4 w.heap.size (.slice at0 (Lib.itoa (k : Int)).length ct0) (Ro.sigL k (es.take 0)) es := by
    refine ⟨H3.out.2.1.grown hg4 H3.out.2.1.size (fun b e => by injection e with e; omega), Nat.le_refl _, hcur4, ?_⟩
    have e0 : Ro.sigL (k : Int) (es.take 0) = Lib.itoa (k : Int) := by simp [Ro.sigL, Ro.words]
    rw [e0]
    refine own_up H3.out.2.2.1 (Kept.of_grown hg4) fun b hb hF => ?_
    injection hF with hF
    obtain ⟨c1, hc1⟩ := H3.out.2.2.2
    exact own_bk H3.out.2.2.1 hc1 (by decide) (by rw [hF]; exact hb)
   have hb4 : ∀ z ∈ es, 0 <= z /\ z < 1000000 := by rw [hes]; exact H1.out.2.2.2.2.1
   have H4 : Hid _ := And.intro hSg (And.intro hb4 (hes.trans H1.out.2.2.2.2.2.symm))
   obtain ⟨M, hM⟩ : ∃ M, M = es.length := ⟨_, rfl⟩
   rw [<- hM] at hsl ⊢
   have HM : Hid (M = es.length) := hM
   clear hSg hb4 hes hM hcur4 hg4 hM0
   go_wp2_with fail
   go_loopg [10, 45] M (fun q tv jv wr => ∃ j : Nat, q = M - j /\ j <= M /\ jv = .int .i64 j /\ SgAt w wr w.heap.size tv (Ro.sigL k (es.take j)) es)
   case atStart => exact ⟨0, rfl, Nat.zero_le _, rfl, H4.out.1⟩
   case round =>
    obtain ⟨j, rfl, hj, rfl, hG⟩ := hrel
    obtain ⟨w5, rfl⟩ : ∃ w5, w5 = wr := ⟨_, rfl⟩
    have hlen := Ro.sigL_len k (es.take j) (by omega) (by omega) (fun z hz => H4.out.2.1 z (List.mem_of_mem_take hz))
    have hpos := Ro.sigL_pos k (es.take j)
    obtain ⟨a5, c5, hv5, hc5⟩ := byte_row hG.text hpos
    subst hv5
    obtain ⟨tx, htx⟩ : ∃ tx, tx = Ro.sigL k (es.take j) := ⟨_, rfl⟩
    rw [<- htx] at hG hlen hpos hc5 ⊢
    obtain ⟨T, hT⟩ : ∃ T, T = tx.length := ⟨_, rfl⟩
    have hTl : T <= 100000 := by rw [hT]; rw [List.length_take] at hlen; omega
    by_cases hjM : j < M
    ·obtain ⟨z, hz⟩ : ∃ z, es[j]? = some z := ⟨es[j]'(by have := HM.out; omega), List.getElem?_eq_getElem _⟩
     have hzb := H4.out.2.1 z (List.mem_of_getElem? hz)
     have cz := hG.cell hz
     have p0 : (0 : Int) <= (j : Int) := by omega
     have p1 : (j : Int) < (M : Int) := by omega
     have hOz : w5.ownsRow w.heap.size 5 1 (.slice (some a5) T c5) T (Lib.byteCells tx) := by rw [hT]; exact hG.text
     have hml : T + 1 <= maxLen := by unfold maxLen; omega
     have hby : (T + 1) * 1 <= 140737488355328 := by omega
     have hle : w.heap.size <= (w5.alloc (.cells #[.int .u8 32] 5)).heap.size := by have := hG.bl.size; simp; omega
     rw [<- hT]
     have HG : Hid _ := And.intro hG (And.intro hOz (And.intro htx (And.intro hz hT)))
     clear hG hOz htx hz hT hc5 hlen hpos
     go_upto_region 13 with (at_builtin; refine wpList_append_own_at _ rfl _ _ 224 rfl w.heap.size 5 i0 (.int .u8 0) 1 1 Tryz.underlying224 hi0 hz0 hz1 hz2 rfl (by decide) (.slice (some a5) T c5) T (Lib.byteCells tx) rfl (HG.out.2.1.alloc _) ⟨w5.heap.size, 0, none⟩ 1 1 [.int .u8 32] rfl rfl (World.news_of_block (cs := #[.int .u8 32]) (t := 5) (fr := (0, 0)) (heap_alloc_new w5 _)) (by simp [Value.oneCell']) hml hby hle ?_; intro v6 w6 hO6 hg6 hnil6 hat6; have H6 : Hid _ := And.intro hO6 hg6; clear hO6 hg6 hnil6 hat6)
     have hG6 := HG.out.1.sp (by rw [<- HG.out.2.2.2.2]; exact H6.out.1) (by rw [<- HG.out.2.2.2.2]; exact H6.out.2)
     have hN := Tryz.strconv_AppendInt_10 w.heap.size (T + 1) z (by omega) (by omega) v6 _ w6 H6.out.1 hG6.bl.size (by omega) (HH.out.2.2.2.2.2.1.from hG6.bl)
     have H7 : Hid _ := And.intro hN hG6
     clear hN hG6
     go_wp2_with fail
     refine Calls.mono H7.out.1 ?_
     rintro r w7 ⟨v7, rfl, hO7, hb7, hk7⟩
     have H8 : Hid _ := H7.out.2.num z (by rw [List.length_append, <- HG.out.2.2.2.2, show Lib.byteCells (tx ++ [32]) = Lib.byteCells tx ++ [.int .u8 32] by simp [Lib.byteCells]]; exact hO7) hb7 hk7
     clear hO7 hb7 hk7
     go_wp2_with fail
     go_roundg (M - (j + 1))
     case measure => omega
     case rel =>
      refine ⟨j + 1, rfl, by omega, by go_num, ?_⟩
      have h9 := H8.out
      rw [HG.out.2.2.1, List.append_assoc, show ([32] : List UInt8) ++ Lib.itoa z = 32 :: Lib.itoa z from rfl, Ro.sigL_snoc, <- take_succ_of HG.out.2.2.2.1] at h9
      exact h9
    ·obtain rfl : j = M := by omega
     have p1 : ¬ (j : Int) < (j : Int) := by omega
     have hcv := run_convert_bytes_back (P := Tryz.prog) w5 224 9 5 a5 c5 tx Tryz.underlying224 Tryz.underlying5 Tryz.underlying9 hc5
     rw [List.take_of_length_le (by have := HM.out; omega)] at htx
     have HG : Hid _ := And.intro hG.bl htx
     clear hG htx hc5 hlen hpos hT
     go_wp2_with fail
     go_ret
     refine ⟨?_, HG.out.1⟩
     rw [HG.out.2, <- H4.out.2.2]
     rfl
end Go.Proofs.YtgehimdkdeldaabGreatDoor
