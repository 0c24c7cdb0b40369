/- Texts of this claim, joined: SyOutI, SyTab0, SyView, SoRow, SoIns, SoSmall, SyClone, SoOrd, SoCpt, SyNrm. -/
import Derived.Test.YthcpliinddjkhaaGreatDoorPart0
import Derived.Test.YthcpliinddjkhaaGreatDoorPart5
import Derived.Test.YthcpliinddjkhaaGreatDoorPart1
import Derived.Sort.AssemblyPlain
import Derived.Test.YthcpliinddjkhaaGreatDoorPart4
import Derived.Lib.SliceRun
import Derived.Lib.Walk
import Derived.Laws.IdiomCopy
import Derived.BigQuiet
namespace Go.Proofs.YthcpliinddjkhaaGreatDoor
section
open Go.RowKit Go.Maps
structure OutsI (w : World) (B : Nat) (us : List Value) (n : Nat) (f : Nat -> List Int) : Prop where
 len : us.length = n
 row : ∀ i, i < n -> ∃ u, us[i]? = some u /\ OwnI w B u (f i)
 ap : ∀ (i j : Nat) (u x : Value) (b : Nat), us[i]? = some u -> us[j]? = some x -> i ≠ j -> u.ownBlock = some b -> x.ownBlock ≠ some b
theorem OutsI.below {w w' : World} {B : Nat} {us : List Value} {n : Nat} {f : Nat -> List Int} (h : OutsI w B us n f) (hb : Below w.heap.size w w') : OutsI w' B us n f :=
 ⟨h.len, fun i hi => by obtain ⟨u, h1, h2⟩ := h.row i hi; exact ⟨u, h1, trow_at h2 fun b hb' => hb.block b (h2.lt b hb').2⟩, h.ap⟩
theorem outsI_new (w : World) (B n : Nat) : OutsI w B (List.replicate n (.slice none 0 0)) n fun _ => [] :=
 ⟨by simp, fun i hi => ⟨.slice none 0 0, by rw [List.getElem?_replicate, if_pos hi], World.ownsRow_nil _ _ _ _⟩, fun i j u x b h1 _ _ h3 => by
  rw [List.getElem?_replicate] at h1
  split at h1
  ·cases h1; cases h3
  ·cases h1⟩
theorem OutsI.set {w w' : World} {B : Nat} {us : List Value} {n : Nat} {f : Nat -> List Int} (h : OutsI w B us n f) {i : Nat} {u u' : Value} {F : Nat -> Prop} (hi : i < n) (hu : us[i]? = some u) (hk : Kept F w w') (hF : ∀ b, F b -> u.ownBlock = some b \/ ∀ (j : Nat) (x : Value), us[j]? = some x -> x.ownBlock ≠ some b) {zs : List Int} (hO : OwnI w' B u' zs) (hat : u'.ownBlock = u.ownBlock \/ ∀ b, u'.ownBlock = some b -> w.heap.size <= b) :
 OutsI w' B (us.set i u') n (fun j => if j = i then zs else f j) := by
 refine ⟨by rw [List.length_set]; exact h.len, fun j hj => ?_, fun a c x y b hx hy hac hb => ?_⟩
 ·by_cases e : j = i
  ·subst e
   exact ⟨u', List.getElem?_set_self (by rw [h.len]; exact hj), by rw [if_pos rfl]; exact hO⟩
  ·obtain ⟨x, h1, h2⟩ := h.row j hj
   refine ⟨x, by rw [List.getElem?_set_ne (fun e' => e e'.symm)]; exact h1, ?_⟩
   rw [if_neg e]
   refine own_up h2 hk fun b hb hf => ?_
   rcases hF b hf with hf | hf
   ·exact h.ap j i x u b h1 hu e hb hf
   ·exact hf j x h1 hb
 ·have hold : ∀ (j : Nat) (z : Value), us[j]? = some z -> j ≠ i -> ∀ b, z.ownBlock = some b -> u'.ownBlock ≠ some b := fun j z hz hj b hzb e => by
   rcases hat with h1 | h1
   ·rw [h1] at e; exact h.ap j i z u b hz hu hj hzb e
   ·have h2 := h1 b e
    obtain ⟨z', h3, h4⟩ := h.row j (by have := (List.getElem?_eq_some_iff.1 hz).1; rw [h.len] at this; exact this)
    rw [hz] at h3; cases h3
    have := (h4.lt b hzb).2
    omega
  by_cases ea : a = i
  ·subst ea
   rw [List.getElem?_set_self (by rw [h.len]; exact hi)] at hx
   cases hx
   rw [List.getElem?_set_ne hac] at hy
   exact fun e => hold c y hy (fun e' => hac e'.symm) b e hb
  ·rw [List.getElem?_set_ne (fun e' => ea e'.symm)] at hx
   by_cases ec : c = i
   ·subst ec
    rw [List.getElem?_set_self (by rw [h.len]; exact hi)] at hy
    cases hy
    exact hold a x hx ea b hb
   ·rw [List.getElem?_set_ne (fun e' => ec e'.symm)] at hy
    exact h.ap a c x y b hx hy hac hb
theorem OutsI.congr {w : World} {B : Nat} {us : List Value} {n : Nat} {f g : Nat -> List Int} (h : OutsI w B us n f) (hfg : ∀ i, i < n -> f i = g i) : OutsI w B us n g :=
 ⟨h.len, fun i hi => by rw [<- hfg i hi]; exact h.row i hi, h.ap⟩
theorem OutsI.kept {w w' : World} {B : Nat} {us : List Value} {n : Nat} {f : Nat -> List Int} {F : Nat -> Prop} (h : OutsI w B us n f) (hk : Kept F w w') (hF : ∀ (j : Nat) (x : Value), us[j]? = some x -> ∀ b, x.ownBlock = some b -> ¬ F b) : OutsI w' B us n f :=
 ⟨h.len, fun i hi => by obtain ⟨u, h1, h2⟩ := h.row i hi; exact ⟨u, h1, own_up h2 hk fun b hb => hF i u h1 b hb⟩, h.ap⟩
theorem OutsI.base {w : World} {B B' : Nat} {us : List Value} {n : Nat} {f : Nat -> List Int} (h : OutsI w B us n f) (hb : B' <= B) : OutsI w B' us n f :=
 ⟨h.len, fun i hi => by obtain ⟨u, h1, h2⟩ := h.row i hi; exact ⟨u, h1, row_base h2 hb⟩, h.ap⟩
end
namespace Sy
def cnt (l : List Ed) (r : Int) : Nat := (l.filter fun e => decide (e.1 < r)).length
def Rows (l : List Ed) : Prop := l.Pairwise fun a b => a.1 <= b.1
theorem cnt_le (l : List Ed) (r : Int) : cnt l r <= l.length := List.length_filter_le _ _
theorem cnt_all {l : List Ed} {r : Int} (h : ∀ e ∈ l, e.1 < r) : cnt l r = l.length := by
 unfold cnt
 rw [List.filter_eq_self.2 fun e he => by simpa using h e he]
theorem cnt_none {l : List Ed} {r : Int} (h : ∀ e ∈ l, ¬ e.1 < r) : cnt l r = 0 := by
 unfold cnt
 rw [List.filter_eq_nil_iff.2 fun e he => by simpa using h e he]
 rfl
theorem cnt_cons (e : Ed) (l : List Ed) (r : Int) : cnt (e :: l) r = (if e.1 < r then 1 else 0) + cnt l r := by
 unfold cnt
 rw [List.filter_cons]
 by_cases h : e.1 < r
 ·simp [h]; omega
 ·simp [h]
theorem cnt_snoc (l : List Ed) (e : Ed) (r : Int) : cnt (l ++ [e]) r = cnt l r + if e.1 < r then 1 else 0 := by
 unfold cnt
 rw [List.filter_append, List.length_append]
 by_cases h : e.1 < r <;> simp [h]
theorem cnt_mono (l : List Ed) (r : Int) : cnt l r <= cnt l (r + 1) := by
 induction l with
 | nil => simp [cnt]
 | cons e t ih =>
   rw [cnt_cons, cnt_cons]
   by_cases h : e.1 < r
   ·have h2 : e.1 < r + 1 := by omega
    simp [h, h2]; exact ih
   ·by_cases h2 : e.1 < r + 1 <;> simp [h, h2] <;> omega
theorem row_piece {l : List Ed} (h : Rows l) (i : Int) : l.filter (fun e => e.1 == i) = (l.drop (cnt l i)).take (cnt l (i + 1) - cnt l i) := by
 induction l with
 | nil => simp
 | cons e r ih =>
   obtain ⟨h1, h2⟩ := List.pairwise_cons.1 h
   have ih := ih h2
   rw [cnt_cons, cnt_cons]
   by_cases c1 : e.1 < i
   ·have c2 : e.1 < i + 1 := by omega
    have c3 : (e.1 == i) = false := by simp; omega
    rw [List.filter_cons, c3, if_pos c1, if_pos c2, Nat.add_comm 1 (cnt r i), List.drop_succ_cons]
    have e1 : 1 + cnt r (i + 1) - (cnt r i + 1) = cnt r (i + 1) - cnt r i := by omega
    rw [e1]
    simpa using ih
   ·have hz : cnt r i = 0 := cnt_none fun x hx => by have := h1 x hx; omega
    by_cases c2 : e.1 = i
    ·have c3 : (e.1 == i) = true := by simp [c2]
     have c4 : e.1 < i + 1 := by omega
     rw [List.filter_cons, c3, if_neg c1, if_pos c4, hz]
     rw [hz] at ih
     simp only [List.drop_zero, Nat.sub_zero, if_true] at ih ⊢
     rw [ih, Nat.add_comm 1]
     simp
    ·have c3 : (e.1 == i) = false := by simpa using c2
     have c4 : ¬ e.1 < i + 1 := by omega
     have hz2 : cnt r (i + 1) = 0 := cnt_none fun x hx => by have := h1 x hx; omega
     rw [List.filter_cons, c3, if_neg c1, if_neg c4, hz, hz2]
     rw [hz, hz2] at ih
     simpa using ih
def lastOf (l : List Ed) (r : Int) : Nat := (l.foldl (fun (p : Nat × Nat) e => (p.1 + 1, if e.1 = r then p.1 + 1 else p.2)) (0, 0)).2
theorem last_fst (r : Int) (l : List Ed) : ∀ p : Nat × Nat, (l.foldl (fun (p : Nat × Nat) (e : Ed) => (p.1 + 1, if e.1 = r then p.1 + 1 else p.2)) p).1 = p.1 + l.length := by
 induction l with
 | nil => intro p; rfl
 | cons e t ih => intro p; rw [List.foldl_cons, ih]; simp; omega
theorem last_snoc (l : List Ed) (e : Ed) (r : Int) : lastOf (l ++ [e]) r = if e.1 = r then l.length + 1 else lastOf l r := by
 unfold lastOf
 rw [List.foldl_append]
 simp only [List.foldl_cons, List.foldl_nil, last_fst, Nat.zero_add]
theorem last_none {l : List Ed} {r : Int} (h : ∀ e ∈ l, e.1 ≠ r) : ∀ i, i <= l.length -> lastOf (l.take i) r = 0 := by
 intro i
 induction i with
 | zero => intro _; rfl
 | succ i ih =>
   intro hi
   obtain ⟨x, hx⟩ : ∃ x, l[i]? = some x := ⟨l[i], List.getElem?_eq_getElem _⟩
   rw [take_succ_of hx, last_snoc, if_neg (h x (List.mem_of_getElem? hx))]
   exact ih (by omega)
theorem rows_take {l : List Ed} (h : Rows l) {i : Nat} {x : Ed} (hx : l[i]? = some x) : ∀ e ∈ l.take i, e.1 <= x.1 := fun e he => by
 obtain ⟨j, hj, rfl⟩ := List.mem_take_iff_getElem.1 he
 obtain ⟨hi, rfl⟩ := List.getElem?_eq_some_iff.1 hx
 exact List.pairwise_iff_getElem.1 h j i (by omega) hi (by omega)
theorem cnt_last {l : List Ed} (h : Rows l) (r : Int) : ∀ i, i <= l.length -> cnt (l.take i) (r + 1) = max (lastOf (l.take i) r) (cnt (l.take i) r) := by
 intro i
 induction i with
 | zero => intro _; simp [cnt, lastOf]
 | succ i ih =>
   intro hi
   obtain ⟨x, hx⟩ : ∃ x, l[i]? = some x := ⟨l[i], List.getElem?_eq_getElem _⟩
   have hle := rows_take h hx
   have hlen : (l.take i).length = i := by rw [List.length_take]; omega
   rw [take_succ_of hx, cnt_snoc, cnt_snoc, last_snoc, hlen]
   by_cases c1 : x.1 = r
   ·have e1 : cnt (l.take i) (r + 1) = i := by rw [cnt_all fun e he => by have := hle e he; omega]; exact hlen
    have e2 := cnt_le (l.take i) r
    rw [hlen] at e2
    rw [e1, if_pos (by omega), if_pos c1, if_neg (by omega)]
    omega
   ·by_cases c2 : x.1 < r
    ·have e1 : cnt (l.take i) (r + 1) = i := by rw [cnt_all fun e he => by have := hle e he; omega]; exact hlen
     have e2 : cnt (l.take i) r = i := by rw [cnt_all fun e he => by have := hle e he; omega]; exact hlen
     have e3 := last_none (l := l.take i) (r := r) (fun e he => by have := hle e he; omega) i (by rw [hlen]; exact Nat.le_refl _)
     rw [List.take_take, Nat.min_self] at e3
     rw [e1, e2, e3, if_pos (by omega), if_neg c1, if_pos c2]
     omega
    ·rw [if_neg (by omega), if_neg c1, if_neg c2]
     exact ih (by omega)
def mixL (n : Nat) (l : List Ed) (st : Nat) : List Int := (List.range (n + 1)).map fun (r : Nat) => if r <= st then ((cnt l (r : Int) : Nat) : Int) else ((lastOf l ((r : Int) - 1) : Nat) : Int)
def bndL (n : Nat) (l : List Ed) : List Int := (List.range (n + 1)).map fun (r : Nat) => if r = 0 then 0 else ((lastOf l ((r : Int) - 1) : Nat) : Int)
def bounds (n : Nat) (l : List Ed) : List Int := (List.range (n + 1)).map fun (r : Nat) => ((cnt l (r : Int) : Nat) : Int)
theorem bnd_zero (n : Nat) : bndL n [] = List.replicate (n + 1) 0 := by
 unfold bndL
 rw [List.eq_replicate_iff]
 refine ⟨by simp, fun b hb => ?_⟩
 obtain ⟨r, _, rfl⟩ := List.mem_map.1 hb
 split <;> simp [lastOf]
theorem bnd_step {l : List Ed} {n i : Nat} {x : Ed} (hx : l[i]? = some x) {q : Nat} (hq : x.1 = (q : Int)) : (bndL n (l.take i)).set (q + 1) ((i : Int) + 1) = bndL n (l.take (i + 1)) := by
 have hlen : (l.take i).length = i := by rw [List.length_take]; have := (List.getElem?_eq_some_iff.1 hx).1; omega
 apply List.ext_getElem?
 intro r
 rw [List.getElem?_set]
 unfold bndL
 simp only [List.length_map, List.length_range, List.getElem?_map]
 by_cases hr : r < n + 1
 ·rw [List.getElem?_range hr, take_succ_of hx]
  simp only [Option.map_some, last_snoc, hlen, hq]
  by_cases e : q + 1 = r
  ·subst e
   rw [if_pos rfl, if_pos hr, if_neg (by omega), if_pos (by omega)]
   rfl
  ·rw [if_neg e]
   by_cases e0 : r = 0
   ·rw [if_pos e0, if_pos e0]
   ·rw [if_neg e0, if_neg e0, if_neg (by omega)]
 ·rw [List.getElem?_eq_none (by simp; omega)]
  by_cases e : q + 1 = r
  ·rw [if_pos e, if_neg (by omega)]; rfl
  ·rw [if_neg e]; rfl
theorem mix_zero {n : Nat} {l : List Ed} (h : ∀ e ∈ l, 0 <= e.1) : mixL n l 0 = bndL n l := by
 unfold mixL bndL
 apply List.map_congr_left
 intro r _
 by_cases e : r = 0
 ·subst e
  simp only [Nat.le_refl, if_true]
  rw [cnt_none fun x hx => by have := h x hx; omega]
  rfl
 ·rw [if_neg (by omega), if_neg e]
theorem mix_full (n : Nat) (l : List Ed) : mixL n l n = bounds n l := by
 unfold mixL bounds
 apply List.map_congr_left
 intro r hr
 have := List.mem_range.1 hr
 rw [if_pos (by omega)]
theorem mix_at {n st r : Nat} {l : List Ed} (hr : r <= n) : (mixL n l st)[r]? = some (if r <= st then ((cnt l (r : Int) : Nat) : Int) else ((lastOf l ((r : Int) - 1) : Nat) : Int)) := by
 unfold mixL
 rw [List.getElem?_map, List.getElem?_range (by omega)]
 rfl
theorem bounds_at {n r : Nat} {l : List Ed} (hr : r <= n) : (bounds n l)[r]? = some ((cnt l (r : Int) : Nat) : Int) := by
 unfold bounds
 rw [List.getElem?_map, List.getElem?_range (by omega)]
 rfl
theorem mix_step {n st : Nat} {l : List Ed} (h : Rows l) : (mixL n l st).set (st + 1) (((max (lastOf l (st : Int)) (cnt l (st : Int)) : Nat)) : Int) = mixL n l (st + 1) := by
 have hc := cnt_last h (st : Int) l.length (Nat.le_refl _)
 rw [List.take_length] at hc
 apply List.ext_getElem?
 intro r
 rw [List.getElem?_set]
 unfold mixL
 simp only [List.length_map, List.length_range, List.getElem?_map]
 by_cases hr : r < n + 1
 ·rw [List.getElem?_range hr]
  simp only [Option.map_some]
  by_cases e : st + 1 = r
  ·subst e
   rw [if_pos rfl, if_pos hr, if_pos (Nat.le_refl _), <- hc]
   rfl
  ·rw [if_neg e]
   by_cases e2 : r <= st
   ·rw [if_pos e2, if_pos (by omega)]
   ·rw [if_neg e2, if_neg (by omega)]
 ·rw [List.getElem?_eq_none (by simp; omega)]
  by_cases e : st + 1 = r
  ·rw [if_pos e, if_neg (by omega)]; rfl
  ·rw [if_neg e]; rfl
end Sy
section
open Go.RowKit Go.Maps
attribute [local go_sem ↓] Go.wp_at_zero Go.wp_at_succ
def cmpI (a b : Int) : Int := if a < b then -1 else if b < a then 1 else 0
theorem isNaN_any (a : Int) (w : World) : Calls Tryz.prog 197 #[.int .i64 a] w fun r w' => r = .returned (.bool false) /\ w' = w := by
 have e : (a != a) = false := by simp
 go_enter Tryz.func197, Tryz.ntmps197
 go_wp2
 go_ret
 exact ⟨by simp, rfl⟩
set_option maxRecDepth 100000 in
theorem cmpI_any (a b : Int) (w : World) : Calls Tryz.prog 178 #[.int .i64 a, .int .i64 b] w fun r w' => r = .returned (.int .i64 (cmpI a b)) /\ w' = w := by
 have hN := fun (x : Int) (W : World) => isNaN_any x W
 have HN : Hid _ := hN
 clear hN
 by_cases h1 : a < b
 ·go_enter Tryz.func178, Tryz.ntmps178
  go_wp2_with (go_at_call 197; refine (HN.out _ _).mono ?_; rintro r w' ⟨rfl, hw⟩; obtain rfl := hw.symm)
  go_ret
  exact ⟨by simp [cmpI, h1], rfl⟩
 ·by_cases h2 : b < a
  ·go_enter Tryz.func178, Tryz.ntmps178
   go_wp2_with (go_at_call 197; refine (HN.out _ _).mono ?_; rintro r w' ⟨rfl, hw⟩; obtain rfl := hw.symm)
   go_ret
   exact ⟨by simp [cmpI, h1, h2], rfl⟩
  ·go_enter Tryz.func178, Tryz.ntmps178
   go_wp2_with (go_at_call 197; refine (HN.out _ _).mono ?_; rintro r w' ⟨rfl, hw⟩; obtain rfl := hw.symm)
   go_ret
   exact ⟨by simp [cmpI]; split <;> (try split) <;> omega, rfl⟩
def orI (a b c : Int) : Int := if a = 0 then if b = 0 then c else b else a
set_option maxRecDepth 100000 in
set_option maxHeartbeats 1000000 in
theorem orI_any (g : Nat) (a b c : Int) (w : World) (hg : w.heap[g]? = some (.cells #[.int .i64 a, .int .i64 b, .int .i64 c] 3 (0, 0))) : Calls Tryz.prog 206 #[.slice (some ⟨g, 0, none⟩) 3 3] w fun r w' => r = .returned (.int .i64 (orI a b c)) /\ w' = w := by
 have c0 : w.cell? ⟨g, 0, none⟩ = some (.int .i64 a) := cell0_of hg rfl
 have c1 : w.cell? ⟨g, 1, none⟩ = some (.int .i64 b) := cell0_of hg rfl
 have c2 : w.cell? ⟨g, 2, none⟩ = some (.int .i64 c) := cell0_of hg rfl
 have cs : ∀ (i : Nat) (z : Int), [a, b, c][i]? = some z -> w.cell? ⟨g, i, none⟩ = some (.int .i64 z) := fun i z h => by
  match i, h with
  | 0, h => simp at h; rw [<- h]; exact c0
  | 1, h => simp at h; rw [<- h]; exact c1
  | 2, h => simp at h; rw [<- h]; exact c2
  | i + 3, h => simp at h
 have HC : Hid _ := cs
 clear cs hg c0 c1 c2
 go_enter Tryz.func206, Tryz.ntmps206
 go_wp2_with fail
 go_loopg [8] 3 (fun q iv wr => ∃ i : Nat, q = 3 - i /\ i <= 3 /\ iv = .int .i64 i /\ wr = w /\ ∀ x ∈ [a, b, c].take i, x = 0)
 case atStart => exact ⟨0, rfl, by omega, rfl, rfl, fun x hx => by simp at hx⟩
 case round =>
  obtain ⟨i, rfl, hi, rfl, rfl, hz⟩ := hrel
  by_cases hlt : i < 3
  ·obtain ⟨z, hz1⟩ : ∃ z, [a, b, c][i]? = some z := ⟨[a, b, c][i]'(by simp; omega), List.getElem?_eq_getElem _⟩
   have cz := HC.out i z hz1
   have q0 : (0 : Int) <= (i : Int) := by omega
   have q1 : (i : Int) < 3 := by omega
   have HZ : Hid _ := And.intro hz hz1
   clear hz hz1
   by_cases h0 : z = 0
   ·have e0 : (z != 0) = false := by simp [h0]
    have HE : Hid _ := h0
    clear h0
    go_wp2
    go_roundg (3 - (i + 1))
    case measure => omega
    case rel =>
     refine ⟨i + 1, rfl, by omega, by go_num, rfl, fun x hx => ?_⟩
     rw [take_succ_of HZ.out.2] at hx
     rcases List.mem_append.1 hx with hx | hx
     ·exact HZ.out.1 x hx
     ·rw [List.mem_singleton.1 hx]; exact HE.out
   ·have e0 : (z != 0) = true := by simp [h0]
    have HE : Hid _ := h0
    clear h0
    go_wp2
    go_ret
    refine ⟨?_, rfl⟩
    have h1 := HZ.out.2
    have h2 := HZ.out.1
    have h3 := HE.out
    show Ending.returned (Value.int .i64 z) = _
    congr 2
    match i, h1, h2 with
    | 0, h1, h2 => simp at h1; subst h1; unfold orI; rw [if_neg h3]
    | 1, h1, h2 => simp at h1 h2; subst h1; unfold orI; rw [if_pos h2, if_neg h3]
    | 2, h1, h2 => simp at h1 h2; subst h1; unfold orI; rw [if_pos h2.1, if_pos h2.2]
    | i + 3, h1, h2 => simp at h1
  ·obtain rfl : i = 3 := by omega
   have HZ : Hid _ := hz
   clear hz
   go_wp2
   go_ret
   refine ⟨?_, rfl⟩
   have h2 := HZ.out
   simp at h2
   simp [orI, h2]
def cmpE (a b : Sy.Ed) : Int := orI (cmpI a.1 b.1) (cmpI a.2.1 b.2.1) (cmpI a.2.2 b.2.2)
theorem cmpE_lt (a b : Sy.Ed) : decide (cmpE a b < 0) = Sy.lt a b := by
 rw [Bool.eq_iff_iff, Sy.lt_iff, decide_eq_true_eq]
 unfold cmpE orI cmpI
 (repeat' split) <;> omega
def ViewAt (f : Nat) (vw : Sy.Ed -> Sy.Ed) : Prop := (∀ args w, (callFunc f args).run Tryz.prog w = .ok (.enter f args) w) /\ ∀ (x : Sy.Ed) (w : World), Calls Tryz.prog f #[edV x] w fun r w' => r = .returned (.tuple #[.int .i64 (vw x).1, .agg #[.int .i64 (vw x).2.1, .int .i64 (vw x).2.2]]) /\ Below w.heap.size w w'
set_option maxRecDepth 100000 in
set_option maxHeartbeats 1000000 in
theorem forward_at : ViewAt 172 fun x => x := ⟨enters_of Tryz.func172 (by kernel_rfl) rfl, fun x w => by
 obtain ⟨x0, x1, x2⟩ := x
 unfold edV
 go_enter Tryz.func172, Tryz.ntmps172
 go_wp2_with fail
 go_region
 all_goals
  go_wp2_with fail
  refine bodyPost_ret (v := .tuple #[.int .i64 x0, .agg #[.int .i64 x1, .int .i64 x2]]) (by simp [results, Tryz.results172, go_sem]) rfl ⟨rfl, ?_⟩
  first | exact (by repeat (first | exact Below.refl _ _ | assumption | refine Below.drew ?_ | refine Below.setCell ?_ (by simp) _ | refine Below.alloc ?_ (by simp) _)) | exact (by repeat (first | exact Below.refl _ _ | assumption | refine Below.setCell ?_ (by simp) _ | refine Below.alloc ?_ (by simp) _ | refine Below.drew ?_))⟩
set_option maxRecDepth 100000 in
set_option maxHeartbeats 1000000 in
theorem backward_at : ViewAt 174 Sy.turn := ⟨enters_of Tryz.func174 (by kernel_rfl) rfl, fun x w => by
 obtain ⟨x0, x1, x2⟩ := x
 unfold edV
 go_enter Tryz.func174, Tryz.ntmps174
 go_wp2_with fail
 go_region
 all_goals
  go_wp2_with fail
  refine bodyPost_ret (v := .tuple #[.int .i64 x2, .agg #[.int .i64 x1, .int .i64 x0]]) (by simp [results, Tryz.results174, go_sem]) rfl ⟨rfl, ?_⟩
  first | exact (by repeat (first | exact Below.refl _ _ | assumption | refine Below.drew ?_ | refine Below.setCell ?_ (by simp) _ | refine Below.alloc ?_ (by simp) _)) | exact (by repeat (first | exact Below.refl _ _ | assumption | refine Below.setCell ?_ (by simp) _ | refine Below.alloc ?_ (by simp) _ | refine Below.drew ?_))⟩
theorem enter_cmp : ∀ args w, (callFunc 195 args).run Tryz.prog w = .ok (.enter 195 args) w := enters_of Tryz.func195 (by kernel_rfl) rfl
set_option maxRecDepth 100000 in
set_option maxHeartbeats 4000000 in
theorem compare_any (f : Nat) (vw : Sy.Ed -> Sy.Ed) (hV : ViewAt f vw) (a b : Sy.Ed) (w : World) :
 Calls Tryz.prog 195 #[.func (.func f) #[] #[], edV a, edV b] w fun r w' => r = .returned (.int .i64 (cmpE (vw a) (vw b))) /\ Below w.heap.size w w' := by
 obtain ⟨he, hv⟩ := hV
 obtain ⟨a0, a1, a2⟩ := a
 obtain ⟨b0, b1, b2⟩ := b
 obtain ⟨w0, hw0⟩ : ∃ w0, w0 = (w.alloc (.cells #[.int .i64 a0, .int .i64 a1, .int .i64 a2] 70)).alloc (.cells #[.int .i64 b0, .int .i64 b1, .int .i64 b2] 70) := ⟨_, rfl⟩
 have hb0 : Below w.heap.size w w0 := by rw [hw0]; exact ((Below.refl _ _).alloc (Nat.le_refl _) _).alloc (by simp) _
 have hgb : w0.heap[w.heap.size + 1]? = some (.cells #[.int .i64 b0, .int .i64 b1, .int .i64 b2] 70 (0, 0)) := by rw [hw0]; exact two_alloc w _ _
 have hA := hv (a0, a1, a2)
 have hB := hv (b0, b1, b2)
 unfold cmpE
 generalize vw (a0, a1, a2) = p at hA ⊢
 generalize vw (b0, b1, b2) = q at hB ⊢
 obtain ⟨p0, p1, p2⟩ := p
 obtain ⟨q0, q1, q2⟩ := q
 unfold edV at hA hB ⊢
 have HA : Hid _ := And.intro hA hB
 have H0 : Hid _ := And.intro hb0 (And.intro hgb hw0)
 clear hA hB hb0 hgb hw0 hv
 simp only at HA ⊢
 go_enter Tryz.func195, Tryz.ntmps195
 go_wp2_with fail
 rw [<- H0.out.2.2]
 refine Calls.mono (HA.out.1 _) ?_
 rintro r w1 ⟨rfl, hb1⟩
 have hgb1 := (hb1.block _ (t_lt H0.out.2.1)).trans H0.out.2.1
 obtain ⟨w2, hw2⟩ : ∃ w2, w2 = (w1.alloc (.cells #[.int .i64 p1, .int .i64 p2] 77)) := ⟨_, rfl⟩
 have hb2 : Below w1.heap.size w1 w2 := by rw [hw2]; exact (Below.refl _ _).alloc (Nat.le_refl _) _
 have hg2 : w2.heap[w1.heap.size]? = some (.cells #[.int .i64 p1, .int .i64 p2] 77 (0, 0)) := by rw [hw2]; exact heap_alloc_new w1 _
 have hgb2 := (hb2.block _ (t_lt hgb1)).trans hgb1
 have c0 : (w1.alloc (.cells #[.int .i64 p1, .int .i64 p2] 77)).cell? ⟨w.heap.size + 1, 0, none⟩ = some (.int .i64 b0) := by rw [<- hw2]; exact cell0_of hgb2 rfl
 have c1 : (w1.alloc (.cells #[.int .i64 p1, .int .i64 p2] 77)).cell? ⟨w.heap.size + 1, 1, none⟩ = some (.int .i64 b1) := by rw [<- hw2]; exact cell0_of hgb2 rfl
 have c2 : (w1.alloc (.cells #[.int .i64 p1, .int .i64 p2] 77)).cell? ⟨w.heap.size + 1, 2, none⟩ = some (.int .i64 b2) := by rw [<- hw2]; exact cell0_of hgb2 rfl
 have hbw : Below w.heap.size w w2 := (H0.out.1.trans (hb1.mono H0.out.1.size)).trans (hb2.mono (by have := H0.out.1.size; have := hb1.size; omega))
 have H1 : Hid _ := And.intro hbw (And.intro hg2 hw2)
 clear hb1 hgb1 hb2 hg2 hgb2 hw2 H0 hbw
 go_wp2_with fail
 rw [<- H1.out.2.2]
 refine Calls.mono (HA.out.2 _) ?_
 rintro r w3 ⟨rfl, hb3⟩
 have hg3 := (hb3.block _ (t_lt H1.out.2.1)).trans H1.out.2.1
 obtain ⟨w4, hw4⟩ : ∃ w4, w4 = (w3.alloc (.cells #[.int .i64 q1, .int .i64 q2] 77)) := ⟨_, rfl⟩
 have hb4 : Below w3.heap.size w3 w4 := by rw [hw4]; exact (Below.refl _ _).alloc (Nat.le_refl _) _
 have hg4 : w4.heap[w3.heap.size]? = some (.cells #[.int .i64 q1, .int .i64 q2] 77 (0, 0)) := by rw [hw4]; exact heap_alloc_new w3 _
 have hp4 := (hb4.block _ (t_lt hg3)).trans hg3
 have x0 : w4.cell? ⟨w1.heap.size, 0, none⟩ = some (.int .i64 p1) := cell0_of hp4 rfl
 have x1 : w4.cell? ⟨w1.heap.size, 1, none⟩ = some (.int .i64 p2) := cell0_of hp4 rfl
 have x2 : w4.cell? ⟨w3.heap.size, 0, none⟩ = some (.int .i64 q1) := cell0_of hg4 rfl
 have x3 : w4.cell? ⟨w3.heap.size, 1, none⟩ = some (.int .i64 q2) := cell0_of hg4 rfl
 have hbw : Below w.heap.size w w4 := (H1.out.1.trans (hb3.mono H1.out.1.size)).trans (hb4.mono (by have := H1.out.1.size; have := hb3.size; omega))
 have H2 : Hid _ := And.intro hbw hw4
 have hC : ∀ (x y : Int) (W : World), Calls Tryz.prog 178 #[.int .i64 x, .int .i64 y] W fun r w' => r = .returned (.int .i64 (cmpI x y)) /\ Below W.heap.size W w' := fun x y W => (cmpI_any x y W).mono fun r w' ⟨hr, hw⟩ => ⟨hr, by rw [hw]; exact Below.refl _ _⟩
 have hO : ∀ (x y z : Int) (W : World), Calls Tryz.prog 206 #[.slice (some ⟨W.heap.size, 0, none⟩) 3 3] (W.alloc (.cells #[.int .i64 x, .int .i64 y, .int .i64 z] 3)) fun r w' => r = .returned (.int .i64 (orI x y z)) /\ Below (W.alloc (.cells #[.int .i64 x, .int .i64 y, .int .i64 z] 3)).heap.size (W.alloc (.cells #[.int .i64 x, .int .i64 y, .int .i64 z] 3)) w' := fun x y z W => (orI_any _ x y z _ (heap_alloc_new W _)).mono fun r w' ⟨hr, hw⟩ => ⟨hr, by rw [hw]; exact Below.refl _ _⟩
 have HC : Hid _ := And.intro hC hO
 clear hb3 hg3 hb4 hg4 hp4 hw4 hbw H1 HA c0 c1 c2 hC hO
 go_upto_region 3 with fail
 rw [<- H2.out.2]
 have HB : Hid _ := H2.out.1
 clear H2
 go_region_held3 (fun w' => (w'.cell? ⟨w1.heap.size, 0, none⟩ = some (.int .i64 p1) /\ w'.cell? ⟨w1.heap.size, 1, none⟩ = some (.int .i64 p2) /\ w'.cell? ⟨w3.heap.size, 0, none⟩ = some (.int .i64 q1) /\ w'.cell? ⟨w3.heap.size, 1, none⟩ = some (.int .i64 q2)) /\ Hid (Below w4.heap.size w4 w')) (first | exact rg_up4 hb5 (by assumption) | exact rg_up4 ((Below.refl _ _).alloc (Nat.le_refl _) _) (by assumption) | exact ⟨⟨x0, x1, x2, x3⟩, ((Below.refl _ _).drew : Below w4.heap.size w4 w4.drew)⟩ | go_keep)
  ((first
    | (go_at_call 178; refine (HC.out.1 _ _ _).mono ?_; rintro r w5 ⟨rfl, hb5⟩)
    | (go_at_call 206; refine (HC.out.2 _ _ _ _).mono ?_; rintro r w5 ⟨rfl, hb5⟩)
    | fail))
 all_goals
  have HF : Hid (Below w4.heap.size w4 w5) := (rg_b (by assumption) : Below w4.heap.size w4 w5)
  clear hb5
  go_wp2_with fail
  go_ret
  exact ⟨rfl, HB.out.trans (HF.out.mono HB.out.size)⟩
end
section
open Go.RowKit Go.Maps
def RowE (w wr : World) (g : Nat) (d : Array Sy.Ed) (rest : List Value) : Prop := Arr 70 w wr g (BEdges.C d.toList ++ rest)
theorem RowE.below {w wr w' : World} {g : Nat} {d : Array Sy.Ed} {rest : List Value} (h : RowE w wr g d rest) (hb : Below wr.heap.size wr w') : RowE w w' g d rest := Arr.below h hb
theorem getb {d : Array Sy.Ed} {j : Nat} (hj : j < d.size) : d.toList[j]? = some d[j]! := by
 rw [Array.getElem?_toList, Array.getElem?_eq_getElem hj, getElem!_pos d j hj]
theorem RowE.at {w wr : World} {g : Nat} {d : Array Sy.Ed} {rest : List Value} (h : RowE w wr g d rest) {j : Nat} {z : Sy.Ed} (hj : d.toList[j]? = some z) : wr.cell? ⟨g, j * 3, none⟩ = some (.int .i64 z.1) /\ wr.cell? ⟨g, j * 3 + 1, none⟩ = some (.int .i64 z.2.1) /\ wr.cell? ⟨g, j * 3 + 2, none⟩ = some (.int .i64 z.2.2) := by
 have hl : j < d.toList.length := (List.getElem?_eq_some_iff.1 hj).1
 have hc := BEdges.C_len d.toList
 have h0 := BEdges.C_at d.toList j z hj 0 (by decide)
 have h1 := BEdges.C_at d.toList j z hj 1 (by decide)
 have h2 := BEdges.C_at d.toList j z hj 2 (by decide)
 refine ⟨Arr.cell h ?_, Arr.cell h ?_, Arr.cell h ?_⟩
 ·rw [List.getElem?_append_left (by omega)]; exact h0
 ·rw [List.getElem?_append_left (by omega)]; exact h1
 ·rw [List.getElem?_append_left (by omega)]; exact h2
theorem RowE.cells {w wr : World} {g : Nat} {d : Array Sy.Ed} {rest : List Value} (h : RowE w wr g d rest) {j : Nat} (hj : j < d.size) : wr.cell? ⟨g, j * 3, none⟩ = some (.int .i64 (d[j]!).1) /\ wr.cell? ⟨g, j * 3 + 1, none⟩ = some (.int .i64 (d[j]!).2.1) /\ wr.cell? ⟨g, j * 3 + 2, none⟩ = some (.int .i64 (d[j]!).2.2) := h.at (getb hj)
theorem RowE.free {w wr : World} {g : Nat} {d : Array Sy.Ed} {rest : List Value} (h : RowE w wr g d rest) (k : Nat) : wr.frozen? ⟨g, k, none⟩ = false := Arr.free h k
def st3 (w : World) (g k : Nat) (x : Sy.Ed) : World := ((w.setCell ⟨g, k * 3, none⟩ (.int .i64 x.1)).setCell ⟨g, k * 3 + 1, none⟩ (.int .i64 x.2.1)).setCell ⟨g, k * 3 + 2, none⟩ (.int .i64 x.2.2)
theorem RowE.store {w wr : World} {g : Nat} {d : Array Sy.Ed} {rest : List Value} (h : RowE w wr g d rest) {k : Nat} (hk : k < d.size) (x : Sy.Ed) : RowE w (st3 wr g k x) g (d.setIfInBounds k x) rest := by
 have h1 := ((Arr.set h (k * 3) (.int .i64 x.1)).set (k * 3 + 1) (.int .i64 x.2.1)).set (k * 3 + 2) (.int .i64 x.2.2)
 have hk' : k < d.toList.length := by simpa using hk
 have hc := BEdges.C_len d.toList
 rw [List.set_append_left _ _ (by omega), List.set_append_left _ _ (by rw [List.length_set]; omega), List.set_append_left _ _ (by rw [List.length_set, List.length_set]; omega), <- BEdges.C_set d.toList hk' x] at h1
 unfold RowE st3
 rw [Array.toList_setIfInBounds]
 exact h1
theorem RowE.swap {w wr : World} {g : Nat} {d : Array Sy.Ed} {rest : List Value} (h : RowE w wr g d rest) {i j : Nat} (hi : i < d.size) (hj : j < d.size) : RowE w (st3 (st3 wr g i d[j]!) g j d[i]!) g (Sort.swp d i j) rest :=
 (h.store hi d[j]!).store (by simpa using hj) d[i]!
def cmpV (f : Nat) : Value := .func (.func 195) #[.func (.func f) #[] #[]] #[]
def ltV (vw : Sy.Ed -> Sy.Ed) (x y : Sy.Ed) : Bool := Sy.lt (vw x) (vw y)
theorem swoV (vw : Sy.Ed -> Sy.Ed) : Sort.SWO (ltV vw) where
 irrefl x := Sy.lt_irrefl _
 trans x y z h1 h2 := Sy.lt_trans h1 h2
 ntrans x y z h1 h2 := by
  unfold ltV at *
  cases h : Sy.lt (vw x) (vw z) with
  | false => rfl
  | true =>
    cases h3 : Sy.lt (vw y) (vw x) with
    | true => have := Sy.lt_trans h3 h; rw [h2] at this; cases this
    | false =>
      have e := Sy.eq_of_not h1 h3
      rw [e, h2] at h
      cases h
theorem cmpV_neg (vw : Sy.Ed -> Sy.Ed) (x y : Sy.Ed) : (cmpE (vw x) (vw y) < 0) ↔ ltV vw x y = true := by
 unfold ltV
 rw [<- cmpE_lt]
 simp
theorem rg_up6 {w2 wa wb : World} {a0 a1 a2 a3 a4 a5 : Addr} {x0 x1 x2 x3 x4 x5 : Value} (hb : Below wa.heap.size wa wb) (h : ((wa.cell? a0 = some x0 /\ wa.cell? a1 = some x1 /\ wa.cell? a2 = some x2) /\ (wa.cell? a3 = some x3 /\ wa.cell? a4 = some x4 /\ wa.cell? a5 = some x5)) /\ Hid (Below w2.heap.size w2 wa)) : ((wb.cell? a0 = some x0 /\ wb.cell? a1 = some x1 /\ wb.cell? a2 = some x2) /\ (wb.cell? a3 = some x3 /\ wb.cell? a4 = some x4 /\ wb.cell? a5 = some x5)) /\ Hid (Below w2.heap.size w2 wb) :=
 have up : ∀ {a : Addr} {x : Value}, wa.cell? a = some x -> wb.cell? a = some x := fun c => (hb.cell (World.block_lt_of_cell? wa _ c)).trans c
 ⟨⟨⟨up h.1.1.1, up h.1.1.2.1, up h.1.1.2.2⟩, ⟨up h.1.2.1, up h.1.2.2.1, up h.1.2.2.2⟩⟩, (h.2.out.trans (hb.mono h.2.out.size) : Below w2.heap.size w2 wb)⟩
theorem ins_go (lt : Sy.Ed -> Sy.Ed -> Bool) (a j : Nat) (d : Array Sy.Ed) (hj : a < j + 1) (hl : lt d[j + 1]! d[j]! = true) : Sort.insInner lt a (j + 1) d = Sort.insInner lt a j (Sort.swp d (j + 1) j) := by
 rw [Sort.insInner, if_pos (by simp [hl, hj])]
theorem ins_stop (lt : Sy.Ed -> Sy.Ed -> Bool) (a j : Nat) (d : Array Sy.Ed) (hl : lt d[j + 1]! d[j]! = false) : Sort.insInner lt a (j + 1) d = d := by
 rw [Sort.insInner, if_neg (by simp [hl])]
theorem ins_at (lt : Sy.Ed -> Sy.Ed -> Bool) (a j : Nat) (d : Array Sy.Ed) (hj : ¬ a < j) : Sort.insInner lt a j d = d := by
 cases j with
 | zero => rfl
 | succ j => rw [Sort.insInner, if_neg (by simp; omega)]
theorem ins_next (lt : Sy.Ed -> Sy.Ed -> Bool) (a b i : Nat) (d : Array Sy.Ed) (h : i < b) : Sort.insOuter lt a b i d = Sort.insOuter lt a b (i + 1) (Sort.insInner lt a i d) := by rw [Sort.insOuter, if_pos h]
theorem ins_end (lt : Sy.Ed -> Sy.Ed -> Bool) (a b i : Nat) (d : Array Sy.Ed) (h : ¬ i < b) : Sort.insOuter lt a b i d = d := by rw [Sort.insOuter, if_neg h]
theorem RowE.swapped {w wr : World} {g : Nat} {d : Array Sy.Ed} {rest : List Value} (h : RowE w wr g d rest) {i j : Nat} {x y : Sy.Ed} (hi : i < d.size) (hj : j < d.size) (hx : x = d[i]!) (hy : y = d[j]!) : RowE w (st3 (st3 wr g i y) g j x).drew g (Sort.swp d i j) rest := by
 subst hx hy
 exact (h.swap hi hj).below (Below.refl _ _).drew
end
section
open Go.RowKit Go.Maps
attribute [local go_sem ↓] Go.wp_at_zero Go.wp_at_succ
set_option maxRecDepth 100000 in
set_option maxHeartbeats 8000000 in
theorem insSort_any (f : Nat) (vw : Sy.Ed -> Sy.Ed) (hV : ViewAt f vw) (g cap a b : Nat) (d : Array Sy.Ed) (rest : List Value) (w0 w : World) (hR : RowE w0 w g d rest) (hab : a <= b) (hb : b <= d.size) (hsz : d.size <= 1000000) :
 Calls Tryz.prog 222 #[.slice (some ⟨g, 0, none⟩) d.size cap, .int .i64 a, .int .i64 b, cmpV f] w fun r w' => r = .returned (.tuple #[]) /\ RowE w0 w' g (Sort.insertionSort (ltV vw) d a b) rest := by
 obtain ⟨n, hn⟩ : ∃ n, n = d.size := ⟨_, rfl⟩
 have HR : Hid _ := And.intro hR (And.intro hn hV)
 rw [<- hn] at hb hsz ⊢
 unfold cmpV Sort.insertionSort
 clear hR hn hV
 have he := enter_cmp
 go_enter Tryz.func222, Tryz.ntmps222
 go_wp2_with fail
 go_loopg [8] (b - a) (fun q iv wr => ∃ (i : Nat) (dk : Array Sy.Ed), iv = .int .i64 i /\ a < i /\ b + 1 - i <= q + 1 /\ dk.size = n /\ RowE w0 wr g dk rest /\ Hid (Sort.insOuter (ltV vw) a b i dk = Sort.insOuter (ltV vw) a b (a + 1) d))
 case atStart => exact ⟨a + 1, d, by go_num, by omega, by omega, HR.out.2.1.symm, HR.out.1, rfl⟩
 case round =>
  obtain ⟨i, dk, rfl, hai, hq, hsk, hRk, HO⟩ := hrel
  by_cases hlt : i < b
  ·have hltz : (i : Int) < (b : Int) := by omega
   have HK : Hid _ := And.intro hRk hsk
   clear hRk hsk
   obtain ⟨wq, rfl⟩ : ∃ wq, wq = wr := ⟨_, rfl⟩
   go_wp2_with fail
   go_loopg [9] i (fun p jv wr => ∃ (j : Nat) (dj : Array Sy.Ed), jv = .int .i64 j /\ j <= i /\ j <= p /\ dj.size = n /\ RowE w0 wr g dj rest /\ Hid (Sort.insInner (ltV vw) a j dj = Sort.insInner (ltV vw) a i dk))
   case atStart => exact ⟨i, dk, rfl, Nat.le_refl _, Nat.le_refl _, HK.out.2, HK.out.1, rfl⟩
   case round =>
    obtain ⟨j, dj, rfl, hji, hp, hsj, hRj, HI⟩ := hrel
    by_cases hja : a < j
    ·obtain ⟨jp, rfl⟩ : ∃ jp, j = jp + 1 := ⟨j - 1, by omega⟩
     obtain ⟨x0, x1, x2⟩ := hRj.cells (j := jp + 1) (by omega)
     obtain ⟨y0, y1, y2⟩ := hRj.cells (j := jp) (by omega)
     have hcm := fun W => compare_any f vw HR.out.2.2 (dj[jp + 1]!) (dj[jp]!) W
     unfold edV at hcm
     have hlt2 := cmpV_neg vw (dj[jp + 1]!) (dj[jp]!)
     have HJ : Hid _ := And.intro hRj hsj
     obtain ⟨xe, hxe⟩ : ∃ xe, xe = dj[jp + 1]! := ⟨_, rfl⟩
     obtain ⟨ye, hye⟩ : ∃ ye, ye = dj[jp]! := ⟨_, rfl⟩
     rw [<- hxe] at x0 x1 x2 hcm hlt2
     rw [<- hye] at y0 y1 y2 hcm hlt2
     have HE : Hid _ := And.intro hxe hye
     clear hRj hsj hxe hye
     obtain ⟨xa, xb, xc⟩ := xe
     obtain ⟨ya, yb, yc⟩ := ye
     generalize cmpE (vw (xa, xb, xc)) (vw (ya, yb, yc)) = c at hcm hlt2
     have HC : Hid _ := hcm
     have HL : Hid _ := hlt2
     clear hcm hlt2
     simp only at x0 x1 x2 y0 y1 y2
     have p0 : (0 : Int) <= (jp : Int) + 1 := by omega
     have p1 : (jp : Int) + 1 < (n : Int) := by have := HJ.out.2; omega
     have p2 : (0 : Int) <= (jp : Int) := by omega
     have p3 : (jp : Int) < (n : Int) := by omega
     have p4 : decide ((a : Int) < (jp : Int) + 1) = true := decide_eq_true (by omega)
     have p5 : ((jp : Int) + 1).toNat = jp + 1 := by omega
     have p7 : IntKind.i64.wrap (jp : Int) = (jp : Int) := by rw [IntKind.wrap_i64]; omega
     have p8 : IntKind.i64.wrap ((jp : Int) + 1 - 1) = (jp : Int) := by rw [IntKind.wrap_i64]; omega
     by_cases hc : c < 0
     ·have p6 : decide (c < 0) = true := decide_eq_true hc
      go_upto_region 4 with fail
      go_region_held3 (fun w' => ((w'.cell? ⟨g, (jp + 1) * 3, none⟩ = some (.int .i64 xa) /\ w'.cell? ⟨g, (jp + 1) * 3 + 1, none⟩ = some (.int .i64 xb) /\ w'.cell? ⟨g, (jp + 1) * 3 + 2, none⟩ = some (.int .i64 xc)) /\ (w'.cell? ⟨g, jp * 3, none⟩ = some (.int .i64 ya) /\ w'.cell? ⟨g, jp * 3 + 1, none⟩ = some (.int .i64 yb) /\ w'.cell? ⟨g, jp * 3 + 2, none⟩ = some (.int .i64 yc))) /\ Hid (Below wr.heap.size wr w')) (first | exact rg_up6 hb3 (by assumption) | exact ⟨⟨⟨x0, x1, x2⟩, ⟨y0, y1, y2⟩⟩, ((Below.refl _ _).drew : Below wr.heap.size wr wr.drew)⟩ | go_keep)
       ((first
         | (go_at_fn 195; refine (HC.out _).mono ?_; rintro r w3 ⟨rfl, hb3⟩)
         | fail))
      have hR3 : RowE w0 w3 g dj rest := HJ.out.1.below (rg_b (by assumption))
      have HJ3 : Hid _ := And.intro hR3 HJ.out.2
      have f0 := hR3.free ((jp + 1) * 3)
      have f1 := hR3.free ((jp + 1) * 3 + 1)
      have f2 := hR3.free ((jp + 1) * 3 + 2)
      have f3 := hR3.free (jp * 3)
      have f4 := hR3.free (jp * 3 + 1)
      have f5 := hR3.free (jp * 3 + 2)
      obtain ⟨z0, z1, z2⟩ := hR3.at (z := (xa, xb, xc)) (by rw [HE.out.1]; exact getb (by have := HJ.out.2; omega))
      obtain ⟨z3, z4, z5⟩ := hR3.at (z := (ya, yb, yc)) (by rw [HE.out.2]; exact getb (by have := HJ.out.2; omega))
      simp only at z0 z1 z2 z3 z4 z5
      clear x0 x1 x2 y0 y1 y2 hb3 hR3 HC HJ
      rename_i hS3
      clear hS3
      go_wp2_with fail
      go_region
      all_goals go_wp2_with fail
      go_roundg jp
      case measure => omega
      case rel =>
       refine ⟨jp, Sort.swp dj (jp + 1) jp, by go_num, by omega, Nat.le_refl _, by rw [Sort.size_swp]; exact HJ3.out.2, HJ3.out.1.swapped (i := jp + 1) (j := jp) (x := (xa, xb, xc)) (y := (ya, yb, yc)) (by have := HJ3.out.2; omega) (by have := HJ3.out.2; omega) HE.out.1 HE.out.2, (show Hid _ from ?_)⟩
       show _ = _
       rw [<- HI.out, ins_go _ _ _ _ hja (by rw [<- HE.out.1, <- HE.out.2]; exact HL.out.1 hc)]
     ·have p6 : decide (c < 0) = false := decide_eq_false hc
      go_upto_region 4 with fail
      go_region_held3 (fun w' => ((w'.cell? ⟨g, (jp + 1) * 3, none⟩ = some (.int .i64 xa) /\ w'.cell? ⟨g, (jp + 1) * 3 + 1, none⟩ = some (.int .i64 xb) /\ w'.cell? ⟨g, (jp + 1) * 3 + 2, none⟩ = some (.int .i64 xc)) /\ (w'.cell? ⟨g, jp * 3, none⟩ = some (.int .i64 ya) /\ w'.cell? ⟨g, jp * 3 + 1, none⟩ = some (.int .i64 yb) /\ w'.cell? ⟨g, jp * 3 + 2, none⟩ = some (.int .i64 yc))) /\ Hid (Below wr.heap.size wr w')) (first | exact rg_up6 hb3 (by assumption) | exact ⟨⟨⟨x0, x1, x2⟩, ⟨y0, y1, y2⟩⟩, ((Below.refl _ _).drew : Below wr.heap.size wr wr.drew)⟩ | go_keep)
       ((first
         | (go_at_fn 195; refine (HC.out _).mono ?_; rintro r w3 ⟨rfl, hb3⟩)
         | fail))
      have hR3 : RowE w0 w3 g dj rest := HJ.out.1.below (rg_b (by assumption))
      have HJ3 : Hid _ := And.intro hR3 HJ.out.2
      clear x0 x1 x2 y0 y1 y2 hb3 hR3 HC HJ
      rename_i hS3
      clear hS3
      go_wp2_with fail
      go_roundg (b - (i + 1))
      case measure => omega
      case rel =>
       refine ⟨i + 1, dj, by go_num, by omega, by omega, HJ3.out.2, HJ3.out.1, (show Hid _ from ?_)⟩
       show _ = _
       have hl : ltV vw dj[jp + 1]! dj[jp]! = false := by
        rw [<- HE.out.1, <- HE.out.2]
        cases h : ltV vw (xa, xb, xc) (ya, yb, yc) with
        | false => rfl
        | true => exact absurd (HL.out.2 h) (by omega)
       rw [<- HO.out, ins_next _ _ _ _ _ hlt, <- HI.out, ins_stop _ _ _ _ hl]
    ·have p4 : decide ((a : Int) < (j : Int)) = false := decide_eq_false (by omega)
     have p5 : ¬ (a : Int) < (j : Int) := by omega
     have HJ3 : Hid _ := And.intro hRj hsj
     clear hRj hsj
     go_wp2_with fail
     go_region
     all_goals go_wp2_with fail
     go_roundg (b - (i + 1))
     case measure => omega
     case rel =>
      refine ⟨i + 1, dj, by go_num, by omega, by omega, HJ3.out.2, HJ3.out.1.below (Below.refl _ _).drew, (show Hid _ from ?_)⟩
      show _ = _
      rw [<- HO.out, ins_next _ _ _ _ _ hlt, <- HI.out, ins_at _ _ _ _ hja]
  ·have hltz : ¬ (i : Int) < (b : Int) := by omega
   go_wp2
   go_end0
   exact ⟨rfl, by rw [<- HO.out, ins_end _ _ _ _ _ hlt]; exact hRk⟩
end
section
open Go.RowKit Go.Maps
attribute [local go_sem ↓] Go.wp_at_zero Go.wp_at_succ
def SortOk (m : Nat) : Prop := ∀ (f : Nat) (vw : Sy.Ed -> Sy.Ed), ViewAt f vw -> ∀ (g cap : Nat) (d : Array Sy.Ed) (rest : List Value) (w0 w : World), RowE w0 w g d rest -> d.size <= m ->
 Calls Tryz.prog 194 #[.slice (some ⟨g, 0, none⟩) d.size cap, cmpV f] w fun r w' => r = .returned (.tuple #[]) /\ ∃ d', Sort.PermIn 0 d.size d d' /\ Sort.SortedIn (ltV vw) 0 d.size d' /\ RowE w0 w' g d' rest
end
section
open Go.RowKit Go.Maps
theorem Tryz.infoClEdges : (Tryz.prog.info? 70).map (fun i => (i.zero, i.size, i.bytes)) = some (some (.agg #[.int .i64 0, .int .i64 0, .int .i64 0]), 3, 24) := by kernel_rfl
theorem Tryz.eqClEdges (w : World) (a : Option Addr) (n c n' c' : Nat) : (binOp .eql 22 (.slice a n c) (.slice none n' c')).run Tryz.prog w = .ok (.bool a.isNone) w := Lib.run_eql_slice_nil w _ _ a n c n' c' Tryz.underlying22
set_option maxRecDepth 100000 in
set_option maxHeartbeats 1000000 in
theorem cloneEdges_any (v : Value) (es : List BEdges.El) (w : World) (hn : es.length <= 1000000) (hv : BEdges.Has w v es) :
 Calls Tryz.prog 193 #[v] w fun r w' => ∃ u, r = .returned u /\ BEdges.Own w' w.heap.size u es /\ Below w.heap.size w w' := by
 obtain ⟨i0, hi0, hz0, hz1, hz2⟩ := info_parts Tryz.infoClEdges
 obtain ⟨ao, cap, rfl, _⟩ := _root_.id hv
 have hq := Tryz.eqClEdges
 have hl := BEdges.C_len es
 cases ao with
 | none =>
   have h0 : es = [] := by
    have h1 := (BEdges.copy_of hv).1 rfl
    exact List.eq_nil_of_length_eq_zero h1
   subst h0
   clear hv
   go_enter Tryz.func193, Tryz.ntmps193
   go_wp2
   go_ret
   exact ⟨_, rfl, World.ownsRow_nil _ _ _ _, Below.refl _ _⟩
 | some a =>
   have hcs := (BEdges.copy_of hv).2 a rfl
   obtain ⟨n, hN⟩ : ∃ n, n = es.length := ⟨_, rfl⟩
   have A : Aside (∀ j u, (BEdges.C es)[j]? = some u -> w.cell? (a.add j) = some u) := hcs
   have HN : Hid _ := hN
   rw [<- hN] at hn hl ⊢
   clear hv hcs hN
   go_enter Tryz.func193, Tryz.ntmps193
   go_wp2_with (at_builtin; refine wpList_append_own _ rfl _ _ 22 rfl w.heap.size 70 i0 (.agg #[.int .i64 0, .int .i64 0, .int .i64 0]) 3 24 Tryz.underlying22 hi0 hz0 hz1 hz2 rfl (by decide) _ _ _ rfl (World.ownsRow_made w #[] 0 (Nat.le_refl _) (Nat.zero_le _) (by simp)) a n cap (BEdges.C es) rfl ?qc1 ?qc2 ?qc3 ?qc4 ?qc5 ?qc6 ?_)
   case qc1 => exact hl
   case qc2 =>
    intro j u hj
    have h1 := A.out j u hj
    exact (((Below.refl _ w).alloc (Nat.le_refl _) _).cell (World.block_lt_of_cell? w _ h1)).trans h1
   case qc3 => exact BEdges.C_one es
   case qc4 => unfold maxLen; omega
   case qc5 => omega
   case qc6 => simp
   intro v' w1 hown hgrow hnil
   go_wp2
   go_ret
   refine ⟨v', rfl, ?_, ?_⟩
   ·have h1 := hown
    rw [HN.out] at h1
    exact h1
   ·exact ((Below.refl _ w).alloc (Nat.le_refl _) _).grown hgrow (by simp) (by intro k hk; simp [Value.ownBlock] at hk; omega)
theorem Tryz.infoClSteps : (Tryz.prog.info? 77).map (fun i => (i.zero, i.size, i.bytes)) = some (some (.agg #[.int .i64 0, .int .i64 0]), 2, 16) := by kernel_rfl
theorem Tryz.eqClSteps (w : World) (a : Option Addr) (n c n' c' : Nat) : (binOp .eql 75 (.slice a n c) (.slice none n' c')).run Tryz.prog w = .ok (.bool a.isNone) w := Lib.run_eql_slice_nil w _ _ a n c n' c' Tryz.underlying75
set_option maxRecDepth 100000 in
set_option maxHeartbeats 1000000 in
theorem cloneSteps_any (v : Value) (es : List BSteps.El) (w : World) (hn : es.length <= 1000000) (hv : BSteps.Has w v es) :
 Calls Tryz.prog 200 #[v] w fun r w' => ∃ u, r = .returned u /\ BSteps.Own w' w.heap.size u es /\ Below w.heap.size w w' := by
 obtain ⟨i0, hi0, hz0, hz1, hz2⟩ := info_parts Tryz.infoClSteps
 obtain ⟨ao, cap, rfl, _⟩ := _root_.id hv
 have hq := Tryz.eqClSteps
 have hl := BSteps.C_len es
 cases ao with
 | none =>
   have h0 : es = [] := by
    have h1 := (BSteps.copy_of hv).1 rfl
    exact List.eq_nil_of_length_eq_zero h1
   subst h0
   clear hv
   go_enter Tryz.func200, Tryz.ntmps200
   go_wp2
   go_ret
   exact ⟨_, rfl, World.ownsRow_nil _ _ _ _, Below.refl _ _⟩
 | some a =>
   have hcs := (BSteps.copy_of hv).2 a rfl
   obtain ⟨n, hN⟩ : ∃ n, n = es.length := ⟨_, rfl⟩
   have A : Aside (∀ j u, (BSteps.C es)[j]? = some u -> w.cell? (a.add j) = some u) := hcs
   have HN : Hid _ := hN
   rw [<- hN] at hn hl ⊢
   clear hv hcs hN
   go_enter Tryz.func200, Tryz.ntmps200
   go_wp2_with (at_builtin; refine wpList_append_own _ rfl _ _ 75 rfl w.heap.size 77 i0 (.agg #[.int .i64 0, .int .i64 0]) 2 16 Tryz.underlying75 hi0 hz0 hz1 hz2 rfl (by decide) _ _ _ rfl (World.ownsRow_made w #[] 0 (Nat.le_refl _) (Nat.zero_le _) (by simp)) a n cap (BSteps.C es) rfl ?qc1 ?qc2 ?qc3 ?qc4 ?qc5 ?qc6 ?_)
   case qc1 => exact hl
   case qc2 =>
    intro j u hj
    have h1 := A.out j u hj
    exact (((Below.refl _ w).alloc (Nat.le_refl _) _).cell (World.block_lt_of_cell? w _ h1)).trans h1
   case qc3 => exact BSteps.C_one es
   case qc4 => unfold maxLen; omega
   case qc5 => omega
   case qc6 => simp
   intro v' w1 hown hgrow hnil
   go_wp2
   go_ret
   refine ⟨v', rfl, ?_, ?_⟩
   ·have h1 := hown
    rw [HN.out] at h1
    exact h1
   ·exact ((Below.refl _ w).alloc (Nat.le_refl _) _).grown hgrow (by simp) (by intro k hk; simp [Value.ownBlock] at hk; omega)
end
section
open Go.RowKit Go.Maps
attribute [local go_sem ↓] Go.wp_at_zero Go.wp_at_succ
theorem row_of_own {w wr : World} {g n cap : Nat} {es : List Sy.Ed} (h : BEdges.Own wr w.heap.size (.slice (some ⟨g, 0, none⟩) n cap) es) (hb : Below w.heap.size w wr) : ∃ rest, RowE w wr g es.toArray rest /\ n = es.length /\ (es.length * 3 + rest.length = cap * 3) /\ es.length <= cap /\ cap <= maxLen := by
 rcases h.2 with ⟨e, _⟩ | ⟨g', cap', cur, e, hg, hc, h1, h2, h3, h4⟩
 ·cases e
 injection e with e1 e2 e3
 have e4 := Option.some.inj e1
 injection e4 with e5
 subst e5; subst e3
 refine ⟨cur.toList.drop (es.length * 3), ⟨hb, ⟨cur, hc, ?_⟩, hg⟩, e2, ?_, h1, h2⟩
 ·rw [<- h4, List.take_append_drop]
 ·have h5 : cur.toList.length = cap * 3 := by simpa using h3
  rw [List.length_drop, h5]; omega
theorem own_of_row {w wr : World} {g cap : Nat} {d : Array Sy.Ed} {rest : List Value} (h : RowE w wr g d rest) (hr : d.size * 3 + rest.length = cap * 3) (hc : d.size <= cap) (hm : cap <= maxLen) : BEdges.Own wr w.heap.size (.slice (some ⟨g, 0, none⟩) d.size cap) d.toList := by
 obtain ⟨hb, ⟨cs, h1, h2⟩, hg⟩ := h
 have hl := BEdges.C_len d.toList
 have hd : d.toList.length = d.size := Array.length_toList
 refine ⟨hl, .inr ⟨g, cap, cs, by rw [hd], hg, h1, by rw [hd]; exact hc, hm, ?_, ?_⟩⟩
 ·rw [<- Array.length_toList, h2, List.length_append, hl, hd]; exact hr
 ·rw [h2, hd, <- hd, <- hl, List.take_left]
set_option maxRecDepth 100000 in
set_option maxHeartbeats 1000000 in
theorem insNone_any (ao : Option Addr) (cap : Nat) (u : Value) (w : World) : Calls Tryz.prog 222 #[.slice ao 0 cap, .int .i64 0, .int .i64 0, u] w fun r w' => r = .returned (.tuple #[]) /\ w' = w := by
 go_enter Tryz.func222, Tryz.ntmps222
 go_wp2_with fail
 go_loopg [8] 0 (fun _ iv wr => iv = .int .i64 1 /\ wr = w)
 case atStart => exact ⟨rfl, rfl⟩
 case round =>
  obtain ⟨rfl, rfl⟩ := hrel
  go_wp2
  go_end0
  exact ⟨rfl, rfl⟩
set_option maxRecDepth 100000 in
set_option maxHeartbeats 1000000 in
theorem pdqNone_any (ao : Option Addr) (cap : Nat) (lim : Int) (u : Value) (w : World) : Calls Tryz.prog 205 #[.slice ao 0 cap, .int .i64 0, .int .i64 0, .int .i64 lim, u] w fun r w' => r = .returned (.tuple #[]) /\ w' = w := by
 have hI := insNone_any ao cap u w
 have HI : Hid _ := hI
 clear hI
 go_enter Tryz.func205, Tryz.ntmps205
 go_wp2_with fail
 go_loopg [1, 2] 0 (fun _ av bv wr => av = .int .i64 0 /\ bv = .int .i64 0 /\ wr = w)
 case atStart => exact ⟨rfl, rfl, rfl⟩
 case round =>
  obtain ⟨rfl, rfl, rfl⟩ := hrel
  go_wp2_with (go_at_call 222; refine Calls.mono HI.out ?_; rintro r w1 ⟨rfl, hw1⟩; obtain rfl := hw1.symm)
  exact bodyPost_ret (results_none rfl _ _ _) rfl ⟨rfl, rfl⟩
set_option maxRecDepth 100000 in
set_option maxHeartbeats 1000000 in
theorem sortNone_any (ao : Option Addr) (cap : Nat) (u : Value) (w : World) : Calls Tryz.prog 194 #[.slice ao 0 cap, u] w fun r w' => r = .returned (.tuple #[]) /\ w' = w := by
 have hL := Tryz.bits_Len 0 w (by omega) (by omega)
 have hP := fun lim => pdqNone_any ao cap lim u w
 generalize Lib.bitLen _ = bl at hL
 have HI : Hid _ := And.intro hP hL
 clear hP hL
 go_enter Tryz.func194, Tryz.ntmps194
 go_wp2_with (first
  | (go_at_call 199; refine Calls.mono HI.out.2 ?_; rintro r w1 ⟨rfl, hw1⟩; obtain rfl := hw1.symm)
  | (go_at_call 205; refine Calls.mono (HI.out.1 _) ?_; rintro r w1 ⟨rfl, hw1⟩; obtain rfl := hw1.symm))
 go_end0
 exact ⟨rfl, rfl⟩
def InOrder (vw : Sy.Ed -> Sy.Ed) (es os : List Sy.Ed) : Prop := os.Perm es /\ os.Pairwise fun x y => ltV vw y x = false
theorem inOrder_of {vw : Sy.Ed -> Sy.Ed} {es : List Sy.Ed} {d' : Array Sy.Ed} (hp : Sort.PermIn 0 es.toArray.size es.toArray d') (hs : Sort.SortedIn (ltV vw) 0 es.toArray.size d') : InOrder vw es d'.toList /\ d'.size = es.length := by
 have hsz : d'.size = es.length := by simpa using hp.1
 refine ⟨⟨?_, ?_⟩, hsz⟩
 ·have h := hp.2.2
  simp only [List.size_toArray] at h
  have e1 : (d'.extract 0 es.length).toList = d'.toList := by
   rw [<- hsz]; simp
  have e2 : (es.toArray.extract 0 es.length).toList = es := by simp
  rw [e1, e2] at h
  exact h
 ·rw [List.pairwise_iff_getElem]
  intro i j hi hj hij
  have hi' : i < d'.size := by simpa using hi
  have hj' : j < d'.size := by simpa using hj
  have h := hs i j (Nat.zero_le _) hij (by simp; omega)
  rw [getElem!_pos d' i hi', getElem!_pos d' j hj'] at h
  simpa using h
set_option maxRecDepth 100000 in
set_option maxHeartbeats 2000000 in
theorem ordered_any {M : Nat} (hS : SortOk M) (f : Nat) (vw : Sy.Ed -> Sy.Ed) (hV : ViewAt f vw) (v : Value) (es : List Sy.Ed) (w : World) (hM : es.length <= M) (hn : es.length <= 1000000) (hv : BEdges.Has w v es) :
 Calls Tryz.prog 173 #[v, .func (.func f) #[] #[]] w fun r w' => ∃ u os, r = .returned u /\ InOrder vw es os /\ BEdges.Own w' w.heap.size u os /\ Below w.heap.size w w' := by
 have hC := cloneEdges_any v es w hn hv
 have HC : Hid _ := And.intro hC (And.intro hS hV)
 obtain ⟨av, cv, rfl, _⟩ := hv
 clear hC hS hV
 go_enter Tryz.func173, Tryz.ntmps173
 go_wp2_with (go_at_call 193; refine Calls.mono HC.out.1 ?_; rintro r w1 ⟨u, rfl, hO, hb⟩; obtain ⟨ao, cap, rfl⟩ := row_shape hO)
 by_cases h0 : es = []
 ·subst h0
  have hN := sortNone_any ao cap (.func (.func 195) #[.func (.func f) #[] #[]] #[]) w1
  have HO : Hid _ := And.intro hO (And.intro hb hN)
  clear hO hb hN
  simp only [List.length_nil]
  refine Calls.mono HO.out.2.2 ?_
  rintro r w2 ⟨rfl, hw2⟩
  obtain rfl := hw2.symm
  go_wp2_with fail
  go_ret
  exact ⟨_, [], rfl, ⟨.refl _, .nil⟩, HO.out.1, HO.out.2.1⟩
 ·have hao : ∃ g, ao = some ⟨g, 0, none⟩ := by
   rcases hO.2 with ⟨_, e⟩ | ⟨g, cap', cur, e, _⟩
   ·exact absurd (List.eq_nil_of_length_eq_zero e) h0
   ·injection e with e1; exact ⟨g, e1⟩
  obtain ⟨g, rfl⟩ := hao
  obtain ⟨rest, hR, _, h3, h4, h5⟩ := row_of_own hO hb
  have hSo := HC.out.2.1 f vw HC.out.2.2 g cap es.toArray rest w w1 hR (by simpa using hM)
  have HO : Hid _ := And.intro hSo (And.intro h3 (And.intro h4 h5))
  unfold cmpV at HO
  simp only [List.size_toArray] at HO
  clear hO hb hR h3 h4 h5 hSo
  refine Calls.mono HO.out.1 ?_
  rintro r w2 ⟨rfl, d', hp, hs, hR2⟩
  obtain ⟨hI, hd⟩ := inOrder_of (by simpa using hp) (by simpa using hs)
  have H2 : Hid _ := And.intro hR2 (And.intro hI hd)
  clear hR2 hI hd hp hs
  go_wp2_with fail
  go_ret
  have hd := H2.out.2.2
  have how := own_of_row (cap := cap) H2.out.1 (by rw [hd]; exact HO.out.2.1) (by rw [hd]; exact HO.out.2.2.1) HO.out.2.2.2
  rw [hd] at how
  exact ⟨_, d'.toList, rfl, H2.out.2.1, how, H2.out.1.bl⟩
end
section
open Go.RowKit Go.Maps
attribute [local go_sem ↓] Go.wp_at_zero Go.wp_at_succ
def ddup (l : List Sy.Ed) : List Sy.Ed := l.foldl Sy.put []
theorem ddup_snoc (l : List Sy.Ed) (x : Sy.Ed) : ddup (l ++ [x]) = Sy.put (ddup l) x := by simp [ddup, List.foldl_append]
theorem put_last (o : List Sy.Ed) (x : Sy.Ed) : (Sy.put o x).getLast? = some x := by
 unfold Sy.put
 split
 ·assumption
 ·simp
theorem ddup_take {l : List Sy.Ed} {j : Nat} {x : Sy.Ed} (h : l[j]? = some x) : ddup (l.take (j + 1)) = Sy.put (ddup (l.take j)) x := by rw [take_succ_of h, ddup_snoc]
theorem ddup_last {l : List Sy.Ed} {j : Nat} {y : Sy.Ed} (h : l[j]? = some y) : (ddup (l.take (j + 1))).getLast? = some y := by rw [ddup_take h]; exact put_last _ _
theorem ddup_same {l : List Sy.Ed} {j : Nat} {x : Sy.Ed} (hx : l[j + 1]? = some x) (hy : l[j]? = some x) : ddup (l.take (j + 2)) = ddup (l.take (j + 1)) := by
 rw [ddup_take hx, Sy.put, if_pos (ddup_last hy)]
theorem ddup_more {l : List Sy.Ed} {j : Nat} {x y : Sy.Ed} (hx : l[j + 1]? = some x) (hy : l[j]? = some y) (hne : x ≠ y) : ddup (l.take (j + 2)) = ddup (l.take (j + 1)) ++ [x] := by
 rw [ddup_take hx, Sy.put, if_neg]
 rw [ddup_last hy]
 intro e
 exact hne (Option.some.inj e).symm
theorem ddup_len (l : List Sy.Ed) : (ddup l).length <= l.length := by
 suffices h : ∀ (m o : List Sy.Ed), (m.foldl Sy.put o).length <= o.length + m.length by simpa [ddup] using h l []
 intro m
 induction m with
 | nil => intro o; simp
 | cons x r ih =>
   intro o
   have h1 := ih (Sy.put o x)
   have h2 : (Sy.put o x).length <= o.length + 1 := by unfold Sy.put; split <;> simp
   simp only [List.foldl_cons, List.length_cons]
   omega
theorem ddup_mem (l : List Sy.Ed) (x : Sy.Ed) : x ∈ ddup l ↔ x ∈ l := by
 suffices h : ∀ (m o : List Sy.Ed), x ∈ m.foldl Sy.put o ↔ x ∈ o \/ x ∈ m by simpa [ddup] using h l []
 intro m
 induction m with
 | nil => intro o; simp
 | cons y r ih =>
   intro o
   rw [List.foldl_cons, ih, Sy.put_mem]
   simp only [List.mem_cons]
   constructor
   ·rintro ((h | h) | h) <;> simp [h]
   ·rintro (h | h | h) <;> simp [h]
theorem ddup_str (l : List Sy.Ed) (h : l.Pairwise fun x y => Sy.lt y x = false) : Sy.Str (ddup l) := by
 suffices H : ∀ (m o : List Sy.Ed), Sy.Str o -> (∀ x ∈ o, ∀ y ∈ m, Sy.lt y x = false) -> m.Pairwise (fun x y => Sy.lt y x = false) -> Sy.Str (m.foldl Sy.put o) from H l [] trivial (fun x hx => by simp at hx) h
 intro m
 induction m with
 | nil => intro o h1 _ _; exact h1
 | cons y r ih =>
   intro o h1 h2 h3
   obtain ⟨h4, h5⟩ := List.pairwise_cons.1 h3
   refine ih _ (Sy.put_str h1 fun x hx => h2 x hx y List.mem_cons_self) (fun x hx z hz => ?_) h5
   rcases (Sy.put_mem _ _ _).1 hx with hx | rfl
   ·exact h2 x hx z (List.mem_cons_of_mem _ hz)
   ·exact h4 z hz
theorem ddup_nf {es os : List Sy.Ed} (h : InOrder (fun x => x) es os) : ddup os = Sy.nf es :=
 Sy.nf_of (ddup_str os h.2) fun x => (ddup_mem os x).trans h.1.mem_iff
def setL (vs : List Value) (o : Nat) : List Value -> List Value
 | [] => vs
 | u :: r => setL (vs.set o u) (o + 1) r
theorem setL_len (us : List Value) : ∀ (vs : List Value) (o : Nat), (setL vs o us).length = vs.length := by
 induction us with
 | nil => intro vs o; rfl
 | cons u r ih => intro vs o; simp only [setL]; rw [ih, List.length_set]
theorem setL_take (us : List Value) : ∀ (vs : List Value) (o k : Nat), k <= o -> (setL vs o us).take k = vs.take k := by
 induction us with
 | nil => intro vs o k _; rfl
 | cons u r ih => intro vs o k hk; simp only [setL]; rw [ih _ _ _ (by omega), List.take_set_of_le hk]
theorem Arr.sets {ty : TypeId} {w : World} {gi : Nat} (us : List Value) : ∀ {wr : World} {vs : List Value} (o : Nat), Arr ty w wr gi vs -> Arr ty w (wr.setCells gi o us) gi (setL vs o us) := by
 induction us with
 | nil => intro wr vs o h; exact h
 | cons u r ih => intro wr vs o h; exact ih (o + 1) (h.set o u)
theorem clear_row {w wr : World} {g : Nat} {vs : List Value} (h : Arr 70 w wr g vs) (o n c : Nat) (hn : 0 < n) (hl : o + n * 3 <= vs.length) :
 ∃ us, ∀ ty, (Builtin.clear_ #[22] ty #[.slice (some ⟨g, o, none⟩) n c]).run Tryz.prog wr = .ok (.tuple #[]) (wr.setCells g o us) := by
 obtain ⟨us, hus⟩ : ∃ us, us = (Builtin.zeroCells (Value.agg #[.int .i64 0, .int .i64 0, .int .i64 0]).cells n).toList := ⟨_, rfl⟩
 have hlen : us.length = n * 3 := by rw [hus]; simp [Builtin.zeroCells, Value.cells]
 have hone : ∀ v ∈ us, v.oneCell' = true := by
  intro v hv
  rw [hus] at hv
  simp [Builtin.zeroCells, Value.cells] at hv
  obtain ⟨a, ha, rfl⟩ := hv
  have h3 : a % 3 < 3 := Nat.mod_lt _ (by decide)
  have h4 : a % 3 = 0 \/ a % 3 = 1 \/ a % 3 = 2 := by omega
  rcases h4 with e | e | e <;> simp [e] <;> rfl
 have hst := run_storeCells_cells (P := Tryz.prog) g o us 0 wr (fun j hj => by
  obtain ⟨u, hu⟩ : ∃ u, vs[o + j]? = some u := ⟨vs[o + j]'(by omega), List.getElem?_eq_getElem _⟩
  rw [Nat.add_zero, h.cell hu]; rfl) (fun j hj => h.free _) hone
 simp only [Nat.add_zero] at hst
 obtain ⟨m, rfl⟩ : ∃ m, n = m + 1 := ⟨n - 1, by omega⟩
 refine ⟨us, fun ty => ?_⟩
 simp [Builtin.clear_, run_underlying Tryz.underlying22, <- hus, hst]
theorem ed_ne {x y : Sy.Ed} (h : x ≠ y) : (x.1 == y.1) = false \/ (x.1 == y.1) = true /\ ((x.2.1 == y.2.1) = false \/ (x.2.1 == y.2.1) = true /\ (x.2.2 == y.2.2) = false) := by
 obtain ⟨a, b, c⟩ := x
 obtain ⟨d, e, f⟩ := y
 simp only [beq_eq_false_iff_ne, beq_iff_eq]
 by_cases h1 : a = d
 ·by_cases h2 : b = e
  ·right; refine ⟨h1, .inr ⟨h2, fun h3 => h ?_⟩⟩; rw [h1, h2, h3]
  ·right; exact ⟨h1, .inl h2⟩
 ·left; exact h1
structure CpAt (w0 wr : World) (g n K : Nat) (l R : List Sy.Ed) (rest : List Value) (k2 kk : Nat) : Prop where
 row : RowE w0 wr g R.toArray rest
 len : R.length = n
 done : R.take kk = ddup (l.take (K + k2))
 size : kk = (ddup (l.take (K + k2))).length
 low : kk + 1 <= K + k2
 tail : ∀ j, K + k2 <= j + 1 -> R[j]? = l[j]?
theorem CpAt.at {w0 wr : World} {g n K : Nat} {l R : List Sy.Ed} {rest : List Value} {k2 kk : Nat} (h : CpAt w0 wr g n K l R rest k2 kk) {j : Nat} {x : Sy.Ed} (hj : K + k2 <= K + j + 1) (hx : l[K + j]? = some x) :
 wr.cell? ⟨g, K * 3 + j * 3, none⟩ = some (.int .i64 x.1) /\ wr.cell? ⟨g, K * 3 + j * 3 + 1, none⟩ = some (.int .i64 x.2.1) /\ wr.cell? ⟨g, K * 3 + j * 3 + 2, none⟩ = some (.int .i64 x.2.2) := by
 have h1 := h.row.at (j := K + j) (z := x) (by rw [List.toList_toArray, h.tail _ (by omega)]; exact hx)
 rw [Nat.add_mul] at h1
 exact h1
theorem CpAt.same {w0 wr : World} {g n K : Nat} {l R : List Sy.Ed} {rest : List Value} {k2 kk : Nat} (h : CpAt w0 wr g n K l R rest k2 kk) {k1 : Nat} (hk : k2 = k1 + 1) {x : Sy.Ed} (hx : l[K + k2]? = some x) (hy : l[K + k1]? = some x) {w' : World} (hb : Below wr.heap.size wr w') : CpAt w0 w' g n K l R rest (k2 + 1) kk := by
 subst hk
 have e : ddup (l.take (K + (k1 + 1 + 1))) = ddup (l.take (K + (k1 + 1))) := ddup_same (j := K + k1) hx hy
 exact ⟨h.row.below hb, h.len, by rw [e]; exact h.done, by rw [e]; exact h.size, by have := h.low; omega, fun j hj => h.tail j (by omega)⟩
theorem CpAt.more {w0 wr : World} {g n K : Nat} {l R : List Sy.Ed} {rest : List Value} {k2 kk : Nat} (h : CpAt w0 wr g n K l R rest k2 kk) {k1 : Nat} (hk : k2 = k1 + 1) {x y : Sy.Ed} (hx : l[K + k2]? = some x) (hy : l[K + k1]? = some y) (hne : x ≠ y) (hl : l.length = n) {w' : World} (hb : Below wr.heap.size wr w') : CpAt w0 (st3 w' g kk x) g n K l (R.set kk x) rest (k2 + 1) (kk + 1) := by
 subst hk
 have hin := (List.getElem?_eq_some_iff.1 hx).1
 have hlow := h.low
 have hkl : kk < R.length := by rw [h.len]; omega
 have e : ddup (l.take (K + (k1 + 1 + 1))) = ddup (l.take (K + (k1 + 1))) ++ [x] := ddup_more (j := K + k1) hx hy hne
 refine ⟨?_, by rw [List.length_set]; exact h.len, ?_, ?_, by omega, fun j hj => ?_⟩
 ·have h1 := (h.row.below hb).store (k := kk) (by simpa using hkl) x
  simpa using h1
 ·rw [e, <- h.done]
  rw [take_succ_of (x := x) (by rw [List.getElem?_set_self hkl]), List.take_set_of_le (Nat.le_refl _)]
 ·rw [e, List.length_append, <- h.size]; rfl
 ·rw [List.getElem?_set_ne (by omega)]
  exact h.tail j (by omega)
set_option maxRecDepth 100000 in
set_option maxHeartbeats 8000000 in
theorem compact_any (g cap : Nat) (l : List Sy.Ed) (rest : List Value) (w0 w : World) (hR : RowE w0 w g l.toArray rest) (hr : l.length * 3 + rest.length = cap * 3) (hc : l.length <= cap) (hn : l.length <= 1000000) :
 Calls Tryz.prog 192 #[.slice (some ⟨g, 0, none⟩) l.length cap] w fun r w' => ∃ rest', r = .returned (.slice (some ⟨g, 0, none⟩) (ddup l).length cap) /\ RowE w0 w' g (ddup l).toArray rest' /\ (ddup l).length * 3 + rest'.length = cap * 3 := by
 obtain ⟨n, hN⟩ : ∃ n, n = l.length := ⟨_, rfl⟩
 have HR : Hid _ := And.intro hR (And.intro hr hN)
 rw [<- hN] at hc hn ⊢
 clear hR hr hN
 by_cases h2 : n < 2
 ·have q0 : (n : Int) < 2 := by omega
  go_enter Tryz.func192, Tryz.ntmps192
  go_wp2
  go_ret
  have e : ddup l = l := by
   have := HR.out.2.2
   match l, this with
   | [], _ => rfl
   | [x], _ => rfl
   | x :: y :: r, h => simp at h; omega
  rw [e]
  exact ⟨rest, by rw [HR.out.2.2]; rfl, HR.out.1, HR.out.2.1⟩
 ·have q0 : ¬ (n : Int) < 2 := by omega
  go_enter Tryz.func192, Tryz.ntmps192
  go_wp2_with fail
  go_loopg [3] n (fun q kv wr => ∃ k : Nat, q = n + 1 - k /\ 1 <= k /\ k <= n /\ kv = .int .i64 k /\ RowE w0 wr g l.toArray rest /\ ddup (l.take k) = l.take k)
  case atStart =>
   refine ⟨1, by omega, by omega, by omega, rfl, HR.out.1, ?_⟩
   cases l with
   | nil => rfl
   | cons x r => rfl
  case round =>
   obtain ⟨k, rfl, hk1, hkn, rfl, hRk, hdd⟩ := hrel
   obtain ⟨kp, rfl⟩ : ∃ kp, k = kp + 1 := ⟨k - 1, by omega⟩
   by_cases hlt : kp + 1 < n
   ·obtain ⟨x, hx⟩ : ∃ x, l[kp + 1]? = some x := ⟨l[kp + 1]'(by have := HR.out.2.2; omega), List.getElem?_eq_getElem _⟩
    obtain ⟨y, hy⟩ : ∃ y, l[kp]? = some y := ⟨l[kp]'(by have := HR.out.2.2; omega), List.getElem?_eq_getElem _⟩
    obtain ⟨x0, x1, x2⟩ := hRk.at (j := kp + 1) (z := x) (by simpa using hx)
    obtain ⟨y0, y1, y2⟩ := hRk.at (j := kp) (z := y) (by simpa using hy)
    have p0 : (0 : Int) <= (kp : Int) + 1 := by omega
    have p1 : (kp : Int) + 1 < (n : Int) := by omega
    have p2 : (0 : Int) <= (kp : Int) := by omega
    have p3 : (kp : Int) < (n : Int) := by omega
    have p5 : ((kp : Int) + 1).toNat = kp + 1 := by omega
    have p7 : IntKind.i64.wrap (kp : Int) = (kp : Int) := by rw [IntKind.wrap_i64]; omega
    have HK : Hid _ := And.intro hRk (And.intro hdd (And.intro hx hy))
    clear hRk hdd hx hy
    by_cases hxy : x = y
    ·have e0 : (x.1 == y.1) = true := by simp [hxy]
     have e1 : (x.2.1 == y.2.1) = true := by simp [hxy]
     have e2 : (x.2.2 == y.2.2) = true := by simp [hxy]
     have HX : Hid _ := hxy
     clear hxy
     have hcap : ¬ cap = kp + 1 := by omega
     go_wp2_with fail
     go_quiet (fail)
     obtain ⟨wz, hwz⟩ : ∃ wz, wz = wr.drewN nq := ⟨_, rfl⟩
     have hRz : RowE w0 wz g l.toArray rest := by rw [hwz]; exact HK.out.1.below (below_drewN (Below.refl _ _) _)
     rw [<- hwz]
     have HZ : Hid _ := And.intro hRz (And.intro HK.out.2 HX.out)
     clear hwz hRz x0 x1 x2 y0 y1 y2 e0 e1 e2 HX HK p7
     obtain ⟨K, hK⟩ : ∃ K, K = kp + 1 := ⟨_, rfl⟩
     rw [<- hK]
     rw [<- hK] at hcap
     have HK : Hid _ := hK
     clear p0 p1 p2 p3 p5
     have p0 : (0 : Int) <= (K : Int) := by omega
     have p1 : (K : Int) < (n : Int) := by omega
     have p9 : (K : Int) <= (n : Int) := by omega
     have p10 : (n : Int) <= (cap : Int) := by omega
     have hKn : K < n := by omega
     have hK1 : 1 <= K := by omega
     have e0 : ((n : Int) - (K : Int)) = ((n - K : Nat) : Int) := by omega
     clear hK hlt
     go_wp2_with fail
     obtain ⟨m, hm⟩ : ∃ m, m = n - K := ⟨_, rfl⟩
     rw [<- hm]
     have HM : Hid _ := hm
     have hmc : m <= n := by omega
     have hcp0 : CpAt w0 wz g n K l l rest 1 K := by
      have hz := HZ.out
      rw [<- HK.out] at hz
      have e9 : ddup (l.take (K + 1)) = l.take K := by
       rw [show K + 1 = kp + 2 by have := HK.out; omega, ddup_same (j := kp) (x := x) (by rw [<- HK.out]; exact hz.2.1.2.1) (by rw [hz.2.2]; exact hz.2.1.2.2), <- HK.out]
       exact hz.2.1.1
      exact ⟨hz.1, HR.out.2.2.symm, e9.symm, by rw [e9, List.length_take]; have := HR.out.2.2; omega, by omega, fun j _ => rfl⟩
     have HC0 : Hid _ := hcp0
     clear hm hcp0 HZ e0
     go_loopg [3, 5] m (fun q kv k2v wr => ∃ (k2 kk : Nat) (R : List Sy.Ed), q = m + 1 - k2 /\ 1 <= k2 /\ k2 <= m /\ kv = .int .i64 kk /\ k2v = .int .i64 k2 /\ CpAt w0 wr g n K l R rest k2 kk)
     case atStart => exact ⟨1, K, l, by omega, Nat.le_refl _, by have := HM.out; omega, rfl, rfl, HC0.out⟩
     case round =>
      obtain ⟨k2, kk, R, rfl, hk1, hkm, rfl, rfl, hcp⟩ := hrel
      have hlow := hcp.low
      by_cases hlt2 : k2 < m
      ·obtain ⟨k1, rfl⟩ : ∃ k1, k2 = k1 + 1 := ⟨k2 - 1, by omega⟩
       obtain ⟨x, hx⟩ : ∃ x, l[K + (k1 + 1)]? = some x := ⟨l[K + (k1 + 1)]'(by have := HR.out.2.2; have := HM.out; omega), List.getElem?_eq_getElem _⟩
       obtain ⟨y, hy⟩ : ∃ y, l[K + k1]? = some y := ⟨l[K + k1]'(by have := HR.out.2.2; have := HM.out; omega), List.getElem?_eq_getElem _⟩
       obtain ⟨x0, x1, x2⟩ := hcp.at (j := k1 + 1) (by omega) hx
       obtain ⟨y0, y1, y2⟩ := hcp.at (j := k1) (by omega) hy
       have q0 : (0 : Int) <= (k1 : Int) + 1 := by omega
       have q1 : (k1 : Int) + 1 < (m : Int) := by omega
       have q2 : (0 : Int) <= (k1 : Int) := by omega
       have q3 : (k1 : Int) < (m : Int) := by omega
       have q5 : ((k1 : Int) + 1).toNat = k1 + 1 := by omega
       have q7 : IntKind.i64.wrap (k1 : Int) = (k1 : Int) := by rw [IntKind.wrap_i64]; omega
       have HP : Hid _ := And.intro hcp (And.intro hx hy)
       by_cases hxy : x = y
       ·have e0 : (x.1 == y.1) = true := by simp [hxy]
        have e1 : (x.2.1 == y.2.1) = true := by simp [hxy]
        have e2 : (x.2.2 == y.2.2) = true := by simp [hxy]
        have HX : Hid _ := hxy
        clear hxy hcp hx hy
        go_wp2_with fail
        go_quiet (fail)
        go_wp2_with fail
        go_roundg (m + 1 - (k1 + 2))
        case measure => omega
        case rel =>
         refine ⟨k1 + 2, kk, R, rfl, by omega, by omega, rfl, by go_num, HP.out.1.same rfl HP.out.2.1 (by rw [HX.out]; exact HP.out.2.2) (below_drewN (Below.refl _ _) _)⟩
       ·have hd := ed_ne hxy
        have r0 : (0 : Int) <= (kk : Int) := by omega
        have r1 : (kk : Int) < (n : Int) := by have := HM.out; omega
        have g0 := hcp.row.free (kk * 3)
        have g1 := hcp.row.free (kk * 3 + 1)
        have g2 := hcp.row.free (kk * 3 + 2)
        obtain ⟨zo, hzo⟩ : ∃ zo, R[kk]? = some zo := ⟨R[kk]'(by rw [hcp.len]; omega), List.getElem?_eq_getElem _⟩
        obtain ⟨z0, z1, z2⟩ := hcp.row.at (j := kk) (z := zo) (by simpa using hzo)
        have HX : Hid _ := hxy
        clear hxy hcp hx hy hzo
        rcases hd with e0 | ⟨e0, e1 | ⟨e1, e2⟩⟩
        all_goals
         go_wp2_with fail
         go_quiet (fail)
         go_wp2_with fail
         go_roundg (m + 1 - (k1 + 2))
         case measure => omega
         case rel =>
          have h9 := HP.out.1.more rfl HP.out.2.1 HP.out.2.2 HX.out HR.out.2.2.symm (below_drewN (Below.refl _ _) nq)
          exact ⟨k1 + 2, kk + 1, R.set kk x, rfl, by omega, by omega, by go_num, by go_num, h9⟩
      ·obtain rfl : k2 = m := by omega
       have hRl : (BEdges.C R ++ rest).length = cap * 3 := by
        rw [List.length_append, BEdges.C_len, hcp.len]
        have h1 := HR.out.2.1
        rw [<- HR.out.2.2] at h1
        exact h1
       have hkn : kk < n := by have := HM.out; omega
       have hkc : ¬ cap = kk := by omega
       obtain ⟨us, hcl⟩ := clear_row hcp.row (kk * 3) (n - kk) (cap - kk) (by omega) (by rw [List.toList_toArray, hRl]; omega)
       have r0 : (0 : Int) <= (kk : Int) := by omega
       have r1 : (kk : Int) <= (n : Int) := by omega
       have r2 : (kk : Int) <= (cap : Int) := by omega
       have q1 : ¬ (k2 : Int) < (k2 : Int) := by omega
       have HP : Hid _ := And.intro hcp hRl
       clear hcp hRl
       go_wp2_with fail
       go_ret
       have hA := Arr.sets us (kk * 3) HP.out.1.row
       rw [List.toList_toArray] at hA
       have hKm : K + k2 = n := by have := HM.out; omega
       have hdl : l.take (K + k2) = l := List.take_of_length_le (by have := HR.out.2.2; omega)
       have hdn := HP.out.1.done
       have hsz := HP.out.1.size
       rw [hdl] at hdn hsz
       obtain ⟨vs, hvs⟩ : ∃ vs, vs = setL (BEdges.C R ++ rest) (kk * 3) us := ⟨_, rfl⟩
       rw [<- hvs] at hA
       have hvl : vs.length = cap * 3 := by rw [hvs, setL_len]; exact HP.out.2
       have hCl : (BEdges.C (ddup l)).length = kk * 3 := by rw [BEdges.C_len, <- hsz]
       have hvt : vs.take (kk * 3) = BEdges.C (ddup l) := by
        rw [hvs, setL_take us _ _ _ (Nat.le_refl _), List.take_append_of_le_length (by rw [BEdges.C_len, HP.out.1.len]; omega)]
        have e9 : R = R.take kk ++ R.drop kk := (List.take_append_drop kk R).symm
        rw [e9, BEdges.C_app, hdn, <- hCl, List.take_left]
       refine ⟨by rw [<- hsz]; rfl, vs.drop (kk * 3), ?_, by rw [<- hsz, List.length_drop, hvl]; omega⟩
       unfold RowE
       rw [List.toList_toArray, <- hvt, List.take_append_drop]
       exact hA
    ·have hd := ed_ne hxy
     have HX : Hid _ := hxy
     clear hxy
     rcases hd with e0 | ⟨e0, e1 | ⟨e1, e2⟩⟩
     all_goals
      go_wp2_with fail
      go_quiet (fail)
      go_wp2_with fail
      go_roundg (n + 1 - (kp + 2))
      case measure => omega
      case rel =>
       refine ⟨kp + 2, rfl, by omega, by omega, by go_num, HK.out.1.below (below_drewN (Below.refl _ _) _), ?_⟩
       rw [ddup_more HK.out.2.2.1 HK.out.2.2.2 HX.out, HK.out.2.1, <- take_succ_of HK.out.2.2.1]
   ·obtain rfl : kp + 1 = n := by omega
    have q1 : ¬ (kp : Int) + 1 < (kp : Int) + 1 := by omega
    have HK : Hid _ := And.intro hRk hdd
    clear hRk hdd
    go_wp2
    go_ret
    have e : ddup l = l := by
     have h1 := HK.out.2
     rw [List.take_of_length_le (by have := HR.out.2.2; omega)] at h1
     exact h1
    rw [e]
    exact ⟨by rw [<- HR.out.2.2]; rfl, rest, HK.out.1, HR.out.2.1⟩
end
section
open Go.RowKit Go.Maps
attribute [local go_sem ↓] Go.wp_at_zero Go.wp_at_succ
set_option maxRecDepth 100000 in
theorem compactNil_any (w : World) : Calls Tryz.prog 192 #[.slice none 0 0] w fun r w' => r = .returned (.slice none 0 0) /\ w' = w := by
 go_enter Tryz.func192, Tryz.ntmps192
 go_wp2
 go_ret
 exact ⟨rfl, rfl⟩
theorem compactO_any (u : Value) (os : List Sy.Ed) (w0 w : World) (hO : BEdges.Own w w0.heap.size u os) (hb : Below w0.heap.size w0 w) (hn : os.length <= 1000000) :
 Calls Tryz.prog 192 #[u] w fun r w' => ∃ u', r = .returned u' /\ BEdges.Own w' w0.heap.size u' (ddup os) /\ Below w0.heap.size w0 w' := by
 rcases hO.2 with ⟨rfl, h0⟩ | ⟨g, cap, cur, rfl, hg⟩
 ·obtain rfl := List.eq_nil_of_length_eq_zero h0
  refine (compactNil_any w).mono fun r w' ⟨hr, hw⟩ => ⟨_, hr, ?_, by rw [hw]; exact hb⟩
  exact World.ownsRow_nil _ _ _ _
 ·obtain ⟨rest, hR, _, h3, h4, h5⟩ := row_of_own hO hb
  refine (compact_any g cap os rest w0 w hR h3 h4 hn).mono fun r w' ⟨rest', hr, hR', hr'⟩ => ⟨_, hr, ?_, hR'.bl⟩
  have hl := ddup_len os
  have h := own_of_row (cap := cap) hR' (by simpa using hr') (by simp; omega) h5
  simpa using h
def st4 (w : World) (b : Nat) (x0 x1 x2 x3 : Value) : World := (((w.setCell ⟨b, 0, none⟩ x0).setCell ⟨b, 1, none⟩ x1).setCell ⟨b, 2, none⟩ x2).setCell ⟨b, 3, none⟩ x3
theorem st4_other (w : World) (b i : Nat) (x0 x1 x2 x3 : Value) (h : i ≠ b) : (st4 w b x0 x1 x2 x3).heap[i]? = w.heap[i]? := by
 unfold st4
 rw [set_other _ _ _ _ _ h, set_other _ _ _ _ _ h, set_other _ _ _ _ _ h, set_other _ _ _ _ _ h]
theorem chain_st4 {w : World} {a : Addr} {x : Value} {b : Nat} {cs : Array Value} (h : Chain w 0 0 a [sysB] x) (hb : w.heap[b]? = some (.cells cs 24 (0, 0))) (x0 x1 x2 x3 : Value) : Chain (st4 w b x0 x1 x2 x3) 0 0 a [sysB] x := by
 obtain ⟨c, u, h1, h2, h3⟩ := h
 refine ⟨c, u, h1, ?_, h3⟩
 rw [st4_other _ _ _ _ _ _ _ fun e => by rw [e, hb] at h2; exact absurd h2 (by simp)]
 exact h2
set_option maxRecDepth 100000 in
set_option maxHeartbeats 4000000 in
theorem normal_any {M : Nat} (hS : SortOk M) (n k s : Int) (v : Value) (es : List Sy.Ed) (a : Addr) (w : World) (hA : Sent w 11 a) (hv : BEdges.Has w v es) (hM : es.length <= M) (hm : es.length <= 1000000) :
 Calls Tryz.prog 170 #[sysV n k s v] w fun r w' => ∃ x u, r = .returned (.tuple #[if Sy.right n k s es = true then sysV n k s u else sysV 0 0 0 (.slice none 0 0), x]) /\ SErr a w' (Sy.right n k s es) x /\ (Sy.right n k s es = true -> BEdges.Own w' w.heap.size u (Sy.nf es)) /\ Below w.heap.size w w' := by
 obtain ⟨w1, hw1⟩ : ∃ w1, w1 = (w.alloc (.cells #[.int .i64 n, .int .i64 k, .int .i64 s, v] 24)).alloc (.cells #[.int .i64 0, .int .i64 0, .int .i64 0, .slice none 0 0] 24) := ⟨_, rfl⟩
 have hb1 : Below w.heap.size w w1 := by rw [hw1]; exact ((Below.refl _ _).alloc (Nat.le_refl _) _).alloc (by simp) _
 have hg : w1.heap[w.heap.size + 1]? = some (.cells #[.int .i64 0, .int .i64 0, .int .i64 0, .slice none 0 0] 24 (0, 0)) := by rw [hw1]; exact two_alloc w _ _
 have hg0 : w1.heap[w.heap.size]? = some (.cells #[.int .i64 n, .int .i64 k, .int .i64 s, v] 24 (0, 0)) := by rw [hw1, Below.heap_alloc _ _ _ (by simp)]; exact heap_alloc_new w _
 have hC := check_any n k s v es a w1 (hA.below hb1) (hv.below hb1)
 have hv0 := hv
 obtain ⟨ao, cap, rfl, _⟩ := hv0
 obtain ⟨m, hmm⟩ : ∃ m, m = es.length := ⟨_, rfl⟩
 have H1 : Hid _ := And.intro hC (And.intro hb1 (And.intro hg (And.intro hg0 (And.intro hw1 (And.intro hv hS)))))
 rw [<- hmm] at H1 ⊢
 have HM : Hid _ := hmm
 unfold sysV at H1 ⊢
 cases hq : Sy.right n k s es with
 | false =>
   rw [hq] at H1
   clear hC hb1 hg hg0 hw1 hv hS hA hq hmm
   go_enter Tryz.func170, Tryz.ntmps170
   go_wp2_with fail
   rw [<- H1.out.2.2.2.2.1]
   refine Calls.mono H1.out.1 ?_
   rintro r w2 ⟨x, rfl, hx, hb2⟩
   have hch : Chain w2 0 0 a [sysB] x := by simpa [SErr] using hx
   obtain ⟨T, u, rfl⟩ := hch.iface
   have hg2 := (hb2.block _ (t_lt H1.out.2.2.1)).trans H1.out.2.2.1
   obtain ⟨y0, y1, y2, y3⟩ := four_cells hg2
   have z0 := blk_free hg2 0
   have z1 := blk_free hg2 1
   have z2 := blk_free hg2 2
   have z3 := blk_free hg2 3
   have hbw := H1.out.2.1.trans (hb2.mono H1.out.2.1.size)
   have H2 : Hid _ := And.intro hch (And.intro hbw hg2)
   clear hb2 hg2 hbw hch hx
   go_wp2_with fail
   have hgf := four_set (a0 := .int .i64 0) (a1 := .int .i64 0) (a2 := .int .i64 0) (a3 := .slice none 0 0) H2.out.2.2
   have hbf := four_below H2.out.2.1 (b := w.heap.size + 1) (by omega) (.int .i64 0) (.int .i64 0) (.int .i64 0) (.slice none 0 0)
   have hcf := chain_st4 H2.out.1 H2.out.2.2 (.int .i64 0) (.int .i64 0) (.int .i64 0) (.slice none 0 0)
   unfold st4 at hcf
   generalize ((((w2.setCell ⟨w.heap.size + 1, 0, none⟩ (.int .i64 0)).setCell ⟨w.heap.size + 1, 1, none⟩ (.int .i64 0)).setCell ⟨w.heap.size + 1, 2, none⟩ (.int .i64 0)).setCell ⟨w.heap.size + 1, 3, none⟩ (.slice none 0 0)) = wf at hgf hbf hcf ⊢
   clear y0 y1 y2 y3 z0 z1 z2 z3
   obtain ⟨c0, c1, c2, c3⟩ := four_cells hgf
   exact bodyPost_ret (v := .tuple #[.agg #[.int .i64 0, .int .i64 0, .int .i64 0, .slice none 0 0], .iface T u]) (by simp [results, Tryz.results170, go_sem, c0, c1, c2, c3]) rfl (by first | exact ⟨.iface T u, rfl, by simpa [SErr] using hcf, hbf⟩ | exact ⟨.iface T u, rfl, by simpa [SErr] using hcf, .slice none 0 0, fun h => by cases h, hbf⟩ | exact ⟨.iface T u, .slice none 0 0, rfl, by simpa [SErr] using hcf, fun h => by cases h, hbf⟩)
 | true =>
   rw [hq] at H1
   clear hC hb1 hg hg0 hw1 hv hS hA hq hmm
   go_enter Tryz.func170, Tryz.ntmps170
   go_wp2_with fail
   rw [<- H1.out.2.2.2.2.1]
   refine Calls.mono H1.out.1 ?_
   rintro r w2 ⟨x, rfl, hx, hb2⟩
   obtain rfl : x = .nilIface := by simpa [SErr] using hx
   have hg2 := (hb2.block _ (t_lt H1.out.2.2.1)).trans H1.out.2.2.1
   have hg3 := (hb2.block _ (t_lt H1.out.2.2.2.1)).trans H1.out.2.2.2.1
   obtain ⟨x0, x1, x2, x3⟩ := four_cells hg3
   have hbw := H1.out.2.1.trans (hb2.mono H1.out.2.1.size)
   have hO := ordered_any H1.out.2.2.2.2.2.2 _ _ forward_at (.slice ao m cap) es w2 (by omega) hm (H1.out.2.2.2.2.2.1.below hbw)
   have H2 : Hid _ := And.intro hO (And.intro hbw (And.intro hg2 hg3))
   clear hb2 hg2 hg3 hbw hx hO
   go_wp2_with fail
   refine Calls.mono H2.out.1 ?_
   rintro r w3 ⟨u3, os, rfl, hio, hO3, hb3⟩
   have hlo : os.length = es.length := hio.1.length_eq
   have hCp := compactO_any u3 os w2 w3 hO3 hb3 (by omega)
   rw [ddup_nf hio] at hCp
   have H3 : Hid _ := hCp
   obtain ⟨a3, c3, rfl⟩ := row_shape hO3
   clear hio hO3 hb3 hCp hlo hM hm
   go_wp2_with fail
   refine Calls.mono H3.out ?_
   rintro r w4 ⟨u4, rfl, hO4, hb4⟩
   obtain ⟨a4, c4, rfl⟩ := row_shape hO4
   have hg2 := (hb4.block _ (t_lt H2.out.2.2.1)).trans H2.out.2.2.1
   have hg3 := (hb4.block _ (t_lt H2.out.2.2.2)).trans H2.out.2.2.2
   obtain ⟨y0, y1, y2, y3⟩ := four_cells hg2
   clear x0 x1 x2 x3
   obtain ⟨x0, x1, x2, x3⟩ := four_cells hg3
   have z0 := blk_free hg2 0
   have z1 := blk_free hg2 1
   have z2 := blk_free hg2 2
   have z3 := blk_free hg2 3
   have z4 := blk_free hg3 3
   have nn : ¬ w.heap.size + 1 = w.heap.size := by omega
   have nn2 : ¬ w.heap.size = w.heap.size + 1 := by omega
   have hbw := H2.out.2.1.trans (hb4.mono H2.out.2.1.size)
   have H4 : Hid _ := And.intro hO4 (And.intro hbw (And.intro hg2 (And.intro hg3 H2.out.2.1.size)))
   clear hO4 hb4 hg2 hg3 hbw
   go_wp2_with fail
   have hgm : (w4.setCell ⟨w.heap.size, 3, none⟩ (.slice a4 (Sy.nf es).length c4)).heap[w.heap.size + 1]? = some (.cells #[.int .i64 0, .int .i64 0, .int .i64 0, .slice none 0 0] 24 (0, 0)) := (set_other _ _ _ _ _ nn).trans H4.out.2.2.1
   have hbm : Below w.heap.size w (w4.setCell ⟨w.heap.size, 3, none⟩ (.slice a4 (Sy.nf es).length c4)) := H4.out.2.1.setCell (Nat.le_refl _) _
   have hgf := four_set (a0 := .int .i64 n) (a1 := .int .i64 k) (a2 := .int .i64 s) (a3 := .slice a4 (Sy.nf es).length c4) hgm
   have hbf := four_below hbm (b := w.heap.size + 1) (by omega) (.int .i64 n) (.int .i64 k) (.int .i64 s) (.slice a4 (Sy.nf es).length c4)
   have hOf : BEdges.Own (((((w4.setCell ⟨w.heap.size, 3, none⟩ (.slice a4 (Sy.nf es).length c4)).setCell ⟨w.heap.size + 1, 0, none⟩ (.int .i64 n)).setCell ⟨w.heap.size + 1, 1, none⟩ (.int .i64 k)).setCell ⟨w.heap.size + 1, 2, none⟩ (.int .i64 s)).setCell ⟨w.heap.size + 1, 3, none⟩ (.slice a4 (Sy.nf es).length c4)) w.heap.size (.slice a4 (Sy.nf es).length c4) (Sy.nf es) := row_base (trow_at H4.out.1 fun b hb => by
    have h1 := own_bk H4.out.1 H4.out.2.2.1 (by decide)
    have h2 := own_bk H4.out.1 H4.out.2.2.2.1 (by decide)
    have n1 : b ≠ w.heap.size + 1 := fun e => h1 (e ▸ hb)
    have n2 : b ≠ w.heap.size := fun e => h2 (e ▸ hb)
    rw [set_other _ _ _ _ _ n1, set_other _ _ _ _ _ n1, set_other _ _ _ _ _ n1, set_other _ _ _ _ _ n1, set_other _ _ _ _ _ n2]) H4.out.2.2.2.2
   generalize (((((w4.setCell ⟨w.heap.size, 3, none⟩ (.slice a4 (Sy.nf es).length c4)).setCell ⟨w.heap.size + 1, 0, none⟩ (.int .i64 n)).setCell ⟨w.heap.size + 1, 1, none⟩ (.int .i64 k)).setCell ⟨w.heap.size + 1, 2, none⟩ (.int .i64 s)).setCell ⟨w.heap.size + 1, 3, none⟩ (.slice a4 (Sy.nf es).length c4)) = wf at hgf hbf hOf ⊢
   clear y0 y1 y2 y3 z0 z1 z2 z3 z4 x0 x1 x2 x3
   obtain ⟨c0, c1, c2, c3⟩ := four_cells hgf
   exact bodyPost_ret (v := .tuple #[.agg #[.int .i64 n, .int .i64 k, .int .i64 s, .slice a4 (Sy.nf es).length c4], .nilIface]) (by simp [results, Tryz.results170, go_sem, c0, c1, c2, c3]) rfl ⟨.nilIface, .slice a4 (Sy.nf es).length c4, rfl, by simp [SErr], hOf, hbf⟩
end
end Go.Proofs.YthcpliinddjkhaaGreatDoor
