/- Texts of this claim, joined: SgFin, SgSpl0, SgTkg0, SgTk2, SgTake, SgSmall. -/
import Derived.Test.YtkiapldehlnndaaGreatDoorPart0
import Derived.Test.YtkiapldehlnndaaGreatDoorPart7
import Derived.BigRegion
import Derived.Deep.LoopGhost
import Derived.Test.YtkiapldehlnndaaGreatDoorPart4
import Derived.Test.YtkiapldehlnndaaGreatDoorPart5
/- Contract of the document's Finer: those that are together in both of two classes. -/
namespace Go.Proofs.YtkiapldehlnndaaGreatDoor
open Go.RowKit Go.Maps
attribute [local go_sem ↓] Go.wp_at_zero Go.wp_at_succ
namespace Sg
open Ro
def mx (l : List Nat) : Nat := l.foldl (fun n b => if n ≤ b then b + 1 else n) 0
theorem mx_snoc (l : List Nat) (b : Nat) : mx (l ++ [b]) = if mx l ≤ b then b + 1 else mx l := by unfold mx; rw [List.foldl_append]; rfl
theorem mx_lt (l : List Nat) : ∀ b ∈ l, b < mx l := by
 refine snoc_ind (P := fun l => ∀ b ∈ l, b < mx l) (fun b hb => by simp at hb) (fun l x ih b hb => ?_) l
 rw [mx_snoc]
 rcases List.mem_append.1 hb with h | h
 ·have := ih b h
  split <;> omega
 ·rw [List.mem_singleton.1 h]
  split <;> omega
theorem mx_le (l : List Nat) (M : Nat) (h : ∀ b ∈ l, b ≤ M) : mx l ≤ M + 1 := by
 revert h
 refine snoc_ind (P := fun l => (∀ b ∈ l, b ≤ M) → mx l ≤ M + 1) (fun _ => by simp [mx]) (fun l x ih h => ?_) l
 rw [mx_snoc]
 have := ih fun b hb => h b (List.mem_append_left _ hb)
 have := h x (by simp)
 split <;> omega
def fkeys (N : Nat) (A B : List Nat) : List Int := (A.zip B).map fun p => (p.1 : Int) * (N : Int) + (p.2 : Int)
theorem fkeys_num {N : Nat} {A B : List Nat} (h : ∀ b ∈ B, b < N) : num (fkeys N A B) = num (A.zip B) := by
 refine num_congr (by simp [fkeys]) fun i j x y u v hx hy hu hv => ?_
 unfold fkeys at hx hy
 rw [List.getElem?_map, hu] at hx
 rw [List.getElem?_map, hv] at hy
 simp only [Option.map_some, Option.some.injEq] at hx hy
 subst hx; subst hy
 have hub : u.2 < N := h _ (List.of_mem_zip (List.mem_of_getElem? hu)).2
 have hvb : v.2 < N := h _ (List.of_mem_zip (List.mem_of_getElem? hv)).2
 obtain ⟨a, b⟩ := u
 obtain ⟨c, d⟩ := v
 simp only at hub hvb ⊢
 constructor
 ·intro e
  have e1 : a * N + b = c * N + d := by exact_mod_cast e
  have h1 : (a * N + b) % N = (c * N + d) % N := by rw [e1]
  rw [Nat.mul_comm a, Nat.mul_comm c, Nat.mul_add_mod, Nat.mul_add_mod, Nat.mod_eq_of_lt hub, Nat.mod_eq_of_lt hvb] at h1
  have h2 : a * N = c * N := by omega
  rw [Nat.eq_of_mul_eq_mul_right (by omega : 0 < N) h2, h1]
 ·intro e
  rw [Prod.mk.injEq] at e
  rw [e.1, e.2]
end Sg
set_option maxRecDepth 100000 in
set_option maxHeartbeats 8000000 in
theorem refFiner_any (va vb : Value) (A B : List Nat) (w : World) (hA : HasI w va (natI A)) (hB : HasI w vb (natI B)) (hl : A.length = B.length) (hn : A.length ≤ 1000) (hAv : ∀ x ∈ A, x ≤ 1000000) (hBv : ∀ x ∈ B, x ≤ 1000000) :
 Calls Tryz.prog 119 #[va, vb] w fun e w' => ∃ u, e = .returned u ∧ OwnI w' w.heap.size u (natI (Ro.num (A.zip B))) ∧ Below w.heap.size w w' := by
 obtain ⟨ao, cap, rfl, hca⟩ := hA
 obtain ⟨bo, cbp, rfl, hcb⟩ := hB
 have hla : (natI A).length = A.length := by simp [natI]
 have hlb : (natI B).length = A.length := by simp [natI, hl]
 rw [hla, hlb]
 obtain ⟨n, hN⟩ : ∃ n, n = A.length := ⟨_, rfl⟩
 rw [← hN] at hn ⊢
 have HH : Hid _ := And.intro hca (And.intro hcb (And.intro hN (And.intro (hN.trans hl) (And.intro hAv hBv))))
 clear hca hcb hN hl hla hlb hAv hBv
 go_enter Tryz.func119, Tryz.ntmps119
 go_wp2_with fail
 go_loopg [5, 6] n (fun q nv iv wr => ∃ (i d : Nat), q = n - i ∧ i ≤ n ∧ nv = .int .i64 (Sg.mx (B.take i)) ∧ iv = .int .i64 i ∧ wr = w.drewN d)
 case atStart => exact ⟨0, 0, rfl, Nat.zero_le _, by simp [Sg.mx], rfl, rfl⟩
 case round =>
  obtain ⟨i, d, rfl, hi, rfl, rfl, rfl⟩ := hrel
  by_cases hlt : i < n
  ·obtain ⟨b, hb⟩ : ∃ b, B[i]? = some b := ⟨B[i]'(by have := HH.out.2.2.2.1; omega), List.getElem?_eq_getElem _⟩
   obtain ⟨a, rfl, c0⟩ := HH.out.2.1 i (b : Int) (by unfold natI; rw [List.getElem?_map, hb]; rfl)
   have hbm := HH.out.2.2.2.2.2 b (List.mem_of_getElem? hb)
   have hmx := Sg.mx_le (B.take i) 1000000 fun x hx => HH.out.2.2.2.2.2 x (List.mem_of_mem_take hx)
   have hsn : Sg.mx (B.take (i + 1)) = if Sg.mx (B.take i) ≤ b then b + 1 else Sg.mx (B.take i) := by rw [take_succ_of hb, Sg.mx_snoc]
   obtain ⟨N, hN⟩ : ∃ N, N = Sg.mx (B.take i) := ⟨_, rfl⟩
   rw [← hN] at hmx hsn ⊢
   have q0 : (0 : Int) ≤ (i : Int) := by omega
   have q1 : (i : Int) < (n : Int) := by omega
   have HS : Hid _ := And.intro hsn trivial
   clear hsn hN hb
   by_cases hge : N ≤ b
   ·have e1 : decide ((N : Int) ≤ (b : Int)) = true := by simp; omega
    have e2 : (N : Int) ≤ (b : Int) := by omega
    have HG : Hid _ := hge
    clear hge
    go_wp2_with fail
    go_roundg (n - (i + 1))
    case measure => omega
    case rel => exact ⟨i + 1, _, rfl, by omega, by rw [HS.out.1, if_pos HG.out]; go_num, by go_num, rfl⟩
   ·have e1 : decide ((N : Int) ≤ (b : Int)) = false := by simp; omega
    have e2 : ¬ (N : Int) ≤ (b : Int) := by omega
    have HG : Hid _ := hge
    clear hge
    go_wp2_with fail
    go_roundg (n - (i + 1))
    case measure => omega
    case rel => exact ⟨i + 1, _, rfl, by omega, by rw [HS.out.1, if_neg HG.out], by go_num, rfl⟩
  ·obtain rfl : i = n := by omega
   have q1 : ¬ (i : Int) < (i : Int) := by omega
   have hB0 : B.take i = B := List.take_of_length_le (by have := HH.out.2.2.2.1; omega)
   have hmx := Sg.mx_le B 1000000 HH.out.2.2.2.2.2
   have hlt9 := Sg.mx_lt B
   rw [hB0]
   obtain ⟨N, hN⟩ : ∃ N, N = Sg.mx B := ⟨_, rfl⟩
   rw [← hN] at hmx hlt9 ⊢
   have HM : Hid _ := And.intro hlt9 hB0
   clear hlt9 hN hB0
   obtain ⟨wd, hwd⟩ : ∃ wd, wd = w.drewN d := ⟨_, rfl⟩
   have hbd : Below w.heap.size w wd := by rw [hwd]; exact below_drewN (Below.refl _ _) _
   rw [← hwd]
   have HD : Hid _ := hbd
   clear hwd hbd
   have hmk := makeI i (by omega) wd
   go_wp2_with fail
   clear hmk
   go_loopg [8] i (fun q jv wr => ∃ j : Nat, q = i - j ∧ j ≤ i ∧ jv = .int .i64 j ∧ Arr 3 wd wr wd.heap.size (iC ((Sg.fkeys N A B).take j) ++ List.replicate (i - j) (.int .i64 0)))
   case atStart => exact ⟨0, rfl, Nat.zero_le _, rfl, by simpa [iC] using arr_new 3 (.int .i64 0) rfl i wd⟩
   case round =>
    obtain ⟨j, rfl, hj, rfl, hA⟩ := hrel
    obtain ⟨wq, rfl⟩ : ∃ wq, wq = wr := ⟨_, rfl⟩
    have hbq := bel6 hA.bl HD.out
    by_cases hji : j < i
    ·obtain ⟨x, hx⟩ : ∃ x, A[j]? = some x := ⟨A[j]'(by have := HH.out.2.2.1; omega), List.getElem?_eq_getElem _⟩
     obtain ⟨y, hy⟩ : ∃ y, B[j]? = some y := ⟨B[j]'(by have := HH.out.2.2.2.1; omega), List.getElem?_eq_getElem _⟩
     obtain ⟨a, rfl, c0⟩ := HH.out.1 j (x : Int) (by unfold natI; rw [List.getElem?_map, hx]; rfl)
     obtain ⟨b, rfl, d0⟩ := HH.out.2.1 j (y : Int) (by unfold natI; rw [List.getElem?_map, hy]; rfl)
     have c1 : wq.cell? (a.add j) = some (.int .i64 x) := (hbq.cell (World.block_lt_of_cell? w _ c0)).trans c0
     have d1 : wq.cell? (b.add j) = some (.int .i64 y) := (hbq.cell (World.block_lt_of_cell? w _ d0)).trans d0
     have hxm := HH.out.2.2.2.2.1 x (List.mem_of_getElem? hx)
     have hym := HH.out.2.2.2.2.2 y (List.mem_of_getElem? hy)
     have hk : (Sg.fkeys N A B)[j]? = some ((x : Int) * (N : Int) + (y : Int)) := by
      unfold Sg.fkeys
      rw [List.getElem?_map, (List.getElem?_zip_eq_some (z := (x, y))).2 ⟨hx, hy⟩]
      rfl
     have hfl : ((Sg.fkeys N A B).take j).length = j := by
      have := (List.getElem?_eq_some_iff.1 hk).1
      rw [List.length_take]
      omega
     have hb0 : (0 : Int) ≤ (x : Int) * (N : Int) := Int.mul_nonneg (by omega) (by omega)
     have hb1 : (x : Int) * (N : Int) ≤ 1000000 * 1000001 := Int.mul_le_mul (by omega) (by omega) (by omega) (by omega)
     have w1 : IntKind.i64.wrap ((x : Int) * (N : Int)) = (x : Int) * (N : Int) := by rw [IntKind.wrap_i64]; omega
     have w2 : IntKind.i64.wrap ((x : Int) * (N : Int) + (y : Int)) = (x : Int) * (N : Int) + (y : Int) := by rw [IntKind.wrap_i64]; omega
     have w3 : wrap64 ((x : Int) * (N : Int)) = (x : Int) * (N : Int) := by unfold wrap64; omega
     have w4 : wrap64 ((x : Int) * (N : Int) + (y : Int)) = (x : Int) * (N : Int) + (y : Int) := by unfold wrap64; omega
     have HW : Hid _ := And.intro w3 w4
     have q0 : (0 : Int) ≤ (j : Int) := by omega
     have q2 : (j : Int) < (i : Int) := by omega
     have cx : wq.cell? ⟨wd.heap.size, j, none⟩ = some (.int .i64 0) := hA.cell (by rw [List.getElem?_append_right (by simp [iC]; omega)]; simp only [iC, List.length_map]; rw [hfl, List.getElem?_replicate, if_pos (by omega)])
     have cf := hA.free j
     have HA : Hid _ := And.intro hA (And.intro hk hfl)
     clear hA hk hfl hx hy c0 d0 hxm hym hb0 hb1 w3 w4
     go_wp2_with fail
     go_region
     go_wp2_with fail
     go_roundg (i - (j + 1))
     case measure => omega
     case rel =>
      have hs := HA.out.1.set j (.int .i64 ((x : Int) * (N : Int) + (y : Int)))
      rw [ends_set HA.out.2.2 hji, ← take_succ_of HA.out.2.1] at hs
      refine ⟨j + 1, rfl, by omega, by go_num, ?_⟩
      first
       | exact hs
       | exact hs.below ((Below.refl _ _).drew)
       | (rw [HW.out.1, HW.out.2]; exact hs.below ((Below.refl _ _).drew))
    ·obtain rfl : j = i := by omega
     have q2 : ¬ (j : Int) < (j : Int) := by omega
     have hfl : (Sg.fkeys N A B).length = j := by simp [Sg.fkeys]; have := HH.out.2.2.1; have := HH.out.2.2.2.1; omega
     have hA2 : Arr 3 wd wq wd.heap.size (iC (Sg.fkeys N A B)) := by
      rw [List.take_of_length_le (by omega), Nat.sub_self] at hA
      simpa using hA
     have hO := hA2.own (by rw [show (iC (Sg.fkeys N A B)).length = j by simp [iC, hfl]]; unfold maxLen; omega)
     rw [show (iC (Sg.fkeys N A B)).length = j by simp [iC, hfl]] at hO
     have hI : HasI wq (.slice (some ⟨wd.heap.size, 0, none⟩) j j) (Sg.fkeys N A B) := by
      have h1 : OwnI wq wd.heap.size (.slice (some ⟨wd.heap.size, 0, none⟩) j j) (Sg.fkeys N A B) := by unfold OwnI; rw [hfl]; exact hO
      exact h1.has
     have hC := refCanon_any _ _ wq hI (by omega)
     rw [Sg.canon_num, Sg.fkeys_num HM.out.1] at hC
     have HC : Hid _ := And.intro hC hbq
     clear hA hA2 hO hI hC hbq hfl
     go_wp2_with fail
     refine Calls.mono HC.out.1 ?_
     rintro r w4 ⟨u, rfl, hu, hb4⟩
     obtain ⟨au, cu, hs⟩ := row_shape hu
     subst hs
     have H4 : Hid _ := And.intro (row_base hu HC.out.2.size) (bel6 hb4 HC.out.2)
     clear hu hb4
     go_wp2_with fail
     go_ret
     exact ⟨_, rfl, H4.out⟩
end Go.Proofs.YtkiapldehlnndaaGreatDoor
/- The document's split of blocks, label by label: plain facts, and what it has in memory. -/
namespace Go.Proofs.YtkiapldehlnndaaGreatDoor
open Go.RowKit Go.Maps
namespace Sg
open Ro
def someE (es : List Sy.Ed) (X : Nat → Bool) (x : Nat) : Bool := es.any fun e => e.2.1 == (x : Int) && X e.2.2.toNat
def hasE (es : List Sy.Ed) (X : Nat → Bool) (x p : Nat) : Bool := es.any fun e => e.1 == (p : Int) && (e.2.1 == (x : Int) && X e.2.2.toNat)
def hasL (m : Nat) (es : List Sy.Ed) (X : Nat → Bool) (x : Nat) : List Nat := (List.range m).map fun p => if hasE es X x p then 1 else 0
theorem hasL_len (m : Nat) (es : List Sy.Ed) (X : Nat → Bool) (x : Nat) : (hasL m es X x).length = m := by simp [hasL]
theorem hasL_at {m : Nat} (es : List Sy.Ed) (X : Nat → Bool) (x : Nat) {p : Nat} (h : p < m) : (hasL m es X x)[p]? = some (if hasE es X x p then 1 else 0) := by unfold hasL; rw [List.getElem?_map, List.getElem?_range h]; rfl
theorem hasL_le (m : Nat) (es : List Sy.Ed) (X : Nat → Bool) (x : Nat) : ∀ u ∈ hasL m es X x, u ≤ 1000000 := fun u hu => by
 obtain ⟨p, _, rfl⟩ := List.mem_map.1 hu
 split <;> omega
theorem hasL_nil (m : Nat) (X : Nat → Bool) (x : Nat) : hasL m [] X x = List.replicate m 0 := by
 apply List.ext_getElem?
 intro i
 rcases Nat.lt_or_ge i m with h | h
 ·rw [hasL_at _ _ _ h, List.getElem?_replicate, if_pos h]; rfl
 ·rw [List.getElem?_eq_none (by rw [hasL_len]; exact h), List.getElem?_eq_none (by simp; exact h)]
theorem hasE_snoc (es : List Sy.Ed) (e : Sy.Ed) (X : Nat → Bool) (x p : Nat) : hasE (es ++ [e]) X x p = (hasE es X x p || (e.1 == (p : Int) && (e.2.1 == (x : Int) && X e.2.2.toNat))) := by unfold hasE; rw [List.any_append]; simp
theorem someE_snoc (es : List Sy.Ed) (e : Sy.Ed) (X : Nat → Bool) (x : Nat) : someE (es ++ [e]) X x = (someE es X x || (e.2.1 == (x : Int) && X e.2.2.toNat)) := by unfold someE; rw [List.any_append]; simp
theorem hasL_no {m : Nat} {es : List Sy.Ed} {e : Sy.Ed} {X : Nat → Bool} {x : Nat} (h : (e.2.1 == (x : Int) && X e.2.2.toNat) = false) : hasL m (es ++ [e]) X x = hasL m es X x := by
 unfold hasL
 refine List.map_congr_left fun p _ => ?_
 rw [hasE_snoc, h]
 simp
theorem hasL_yes {m : Nat} {es : List Sy.Ed} {e : Sy.Ed} {X : Nat → Bool} {x p : Nat} (hp : e.1 = (p : Int)) (h : (e.2.1 == (x : Int) && X e.2.2.toNat) = true) : hasL m (es ++ [e]) X x = (hasL m es X x).set p 1 := by
 apply List.ext_getElem?
 intro i
 rcases Nat.lt_or_ge i m with hi | hi
 ·rw [hasL_at _ _ _ hi, List.getElem?_set, hasE_snoc, h, hasL_at _ _ _ hi, hp, hasL_len]
  by_cases e1 : p = i
  ·subst e1
   simp [hi]
  ·rw [if_neg e1]
   have : ((p : Int) == (i : Int)) = false := by simp; omega
   rw [this]
   simp
 ·rw [List.getElem?_eq_none (by rw [hasL_len]; exact hi), List.getElem?_eq_none (by rw [List.length_set, hasL_len]; exact hi)]
theorem hasE_of_none {es : List Sy.Ed} {X : Nat → Bool} {x : Nat} (h : someE es X x = false) (p : Nat) : hasE es X x p = false := by
 cases hp : hasE es X x p with
 | false => rfl
 | true =>
   unfold hasE at hp
   obtain ⟨e, he, h1⟩ := List.any_eq_true.1 hp
   rw [Bool.and_eq_true] at h1
   have : someE es X x = true := List.any_eq_true.2 ⟨e, he, h1.2⟩
   rw [h] at this
   cases this
structure EqO (m : Nat) (es : List Sy.Ed) (X : Nat → Bool) (O O1 : List Nat) (x : Nat) : Prop where
 len : O1.length = m
 le : ∀ u ∈ O1, u ≤ 1000000
 eq : ∀ a b, a < m → b < m → (O1.getD a 0 = O1.getD b 0 ↔ O.getD a 0 = O.getD b 0 ∧ ∀ l, l < x → hasE es X l a = hasE es X l b)
theorem EqO.zero {m : Nat} {es : List Sy.Ed} {X : Nat → Bool} {O : List Nat} (hl : O.length = m) (hO : ∀ u ∈ O, u ≤ 1000000) : EqO m es X O O 0 := ⟨hl, hO, fun a b _ _ => ⟨fun h => ⟨h, fun l hl => by omega⟩, fun h => h.1⟩⟩
theorem EqO.none {m : Nat} {es : List Sy.Ed} {X : Nat → Bool} {O O1 : List Nat} {x : Nat} (h : EqO m es X O O1 x) (hn : someE es X x = false) : EqO m es X O O1 (x + 1) := ⟨h.len, h.le, fun a b ha hb => by
 rw [h.eq a b ha hb]
 refine and_congr_right fun _ => ⟨fun h1 l hl => ?_, fun h1 l hl => h1 l (by omega)⟩
 rcases Nat.lt_or_ge l x with h2 | h2
 ·exact h1 l h2
 ·obtain rfl : l = x := by omega
  rw [hasE_of_none hn, hasE_of_none hn]⟩
theorem num_le {K : Type} [DecidableEq K] (l : List K) : ∀ u ∈ num l, u ≤ l.length := fun u hu => by
 unfold num at hu
 obtain ⟨z, _, rfl⟩ := List.mem_map.1 hu
 have h1 := place_le z (dd l)
 have h2 := dd_le l
 omega
theorem EqO.some {m : Nat} {es : List Sy.Ed} {X : Nat → Bool} {O O1 : List Nat} {x : Nat} (h : EqO m es X O O1 x) (hm : m ≤ 1000) : EqO m es X O (num (O1.zip (hasL m es X x))) (x + 1) := by
 have hz : (O1.zip (hasL m es X x)).length = m := by rw [List.length_zip, h.len, hasL_len]; omega
 have hl : (num (O1.zip (hasL m es X x))).length = m := by rw [num_len]; exact hz
 refine ⟨hl, fun u hu => by have := num_le _ u hu; omega, fun a b ha hb => ?_⟩
 have at' : ∀ i, i < m → (O1.zip (hasL m es X x))[i]? = Option.some (O1.getD i 0, if hasE es X x i then 1 else 0) := fun i hi => List.getElem?_zip_eq_some.2 ⟨getD_at (by rw [h.len]; exact hi), hasL_at _ _ _ hi⟩
 rw [num_eq (at' a ha) (at' b hb) (getD_at (by rw [hl]; exact ha)) (getD_at (by rw [hl]; exact hb)), Prod.mk.injEq, h.eq a b ha hb, and_assoc]
 refine and_congr_right fun _ => ⟨fun h1 l hl => ?_, fun h1 => ⟨fun l hl => h1 l (by omega), by rw [h1 x (by omega)]⟩⟩
 rcases Nat.lt_or_ge l x with h2 | h2
 ·exact h1.1 l h2
 ·obtain rfl : l = x := by omega
  have h3 := h1.2
  cases h4 : hasE es X l a <;> cases h5 : hasE es X l b <;> rw [h4, h5] at h3 <;> simp at h3 <;> rfl
end Sg
def HasB (w : World) (v : Value) (m : Nat) (X : Nat → Bool) : Prop := ∃ g, v = .slice (some ⟨g, 0, none⟩) m m ∧ ∀ i, i < m → w.cell? ⟨g, i, none⟩ = some (.bool (X i))
theorem HasB.below {w w' : World} {v : Value} {m : Nat} {X : Nat → Bool} (h : HasB w v m X) (hb : Below w.heap.size w w') : HasB w' v m X := by
 obtain ⟨g, h1, h2⟩ := h
 exact ⟨g, h1, fun i hi => (hb.cell (World.block_lt_of_cell? w _ (h2 i hi))).trans (h2 i hi)⟩
theorem natC_set (l : List Nat) (i u : Nat) : natC (l.set i u) = (natC l).set i (.int .i64 (u : Int)) := by simp [natC, List.map_set]
end Go.Proofs.YtkiapldehlnndaaGreatDoor
/- Which list may be taken, as the document says it: plain facts. -/
namespace Go.Proofs.YtkiapldehlnndaaGreatDoor
open Go.RowKit Go.Maps
namespace Sg
open Ro
def blkL (n : Nat) (O : List Nat) (b : Nat) : List Int := ((List.range n).filter fun e => decide (O.getD e 0 = b)).map fun e : Nat => (e : Int)
def TkOk (first : Bool) (n : Nat) (O H : List Nat) (l : List Int) : Prop :=
 if first then 0 < n ∧ l = (List.range n).map (fun e : Nat => (e : Int))
 else ∃ z r, l = z :: r ∧ (0 ≤ z ∧ z < (n : Int)) ∧ l = blkL n O (O.getD z.toNat 0) ∧ 2 * l.length ≤ (List.range n).countP fun e => decide (H.getD e 0 = H.getD z.toNat 0)
def Ris (n : Nat) (l : List Int) : Prop := Rise l ∧ ∀ z ∈ l, 0 ≤ z ∧ z < (n : Int)
theorem ris_range (n : Nat) : Ris n ((List.range n).map fun e : Nat => (e : Int)) := by
 refine ⟨List.pairwise_map.2 (List.pairwise_lt_range.imp fun {a b} h => by omega), fun z hz => ?_⟩
 obtain ⟨e, he, rfl⟩ := List.mem_map.1 hz
 have := List.mem_range.1 he
 omega
theorem ris_blk (n : Nat) (O : List Nat) (b : Nat) : Ris n (blkL n O b) := by
 refine ⟨List.pairwise_map.2 ((List.Pairwise.filter _ List.pairwise_lt_range).imp fun {a b} h => by omega), fun z hz => ?_⟩
 obtain ⟨e, he, rfl⟩ := List.mem_map.1 hz
 have := List.mem_range.1 (List.mem_filter.1 he).1
 omega
theorem TkOk.ris {first : Bool} {n : Nat} {O H : List Nat} {l : List Int} (h : TkOk first n O H l) : Ris n l := by
 unfold TkOk at h
 split at h
 ·rw [h.2]; exact ris_range n
 ·obtain ⟨z, r, _, _, h1, _⟩ := h
  rw [h1]; exact ris_blk n O _
theorem Ris.snoc {n j : Nat} {l : List Int} {z : Int} (h : Ris n (l.take j)) (hz : l[j]? = some z) (h0 : 0 ≤ z) (h1 : z < (n : Int)) (h2 : ∀ y, 0 < j → l[j - 1]? = some y → y < z) : Ris n (l.take (j + 1)) := by
 rw [take_succ_of hz]
 refine ⟨?_, fun u hu => ?_⟩
 ·refine List.pairwise_append.2 ⟨h.1, List.pairwise_singleton _ _, fun a ha b hb => ?_⟩
  rw [List.mem_singleton.1 hb]
  cases j with
  | zero => simp at ha
  | succ k =>
    have hl := (List.getElem?_eq_some_iff.1 hz).1
    obtain ⟨y, hy⟩ : ∃ y, l[k]? = some y := ⟨l[k]'(by omega), List.getElem?_eq_getElem _⟩
    have h3 := h2 y (by omega) (by simpa using hy)
    have h4 := h.1
    rw [take_succ_of hy] at ha h4
    rcases List.mem_append.1 ha with h5 | h5
    ·have := (List.pairwise_append.1 h4).2.2 a h5 y List.mem_cons_self
     omega
    ·rw [List.mem_singleton.1 h5]; exact h3
 ·rcases List.mem_append.1 hu with h3 | h3
  ·exact h.2 u h3
  ·rw [List.mem_singleton.1 h3]; exact ⟨h0, h1⟩
theorem Ris.low {n : Nat} {l : List Int} (h : Ris n l) {j : Nat} {z : Int} (hz : l[j]? = some z) : 0 ≤ z ∧ z < (n : Int) := h.2 z (List.mem_of_getElem? hz)
theorem Ris.next {n : Nat} {l : List Int} (h : Ris n l) {j : Nat} {y z : Int} (hj : 0 < j) (hy : l[j - 1]? = some y) (hz : l[j]? = some z) : y < z := by
 obtain ⟨h1, rfl⟩ := List.getElem?_eq_some_iff.1 hy
 obtain ⟨h2, rfl⟩ := List.getElem?_eq_some_iff.1 hz
 exact List.pairwise_iff_getElem.1 h.1 (j - 1) j h1 h2 (by omega)
theorem Ris.nodup {n : Nat} {l : List Int} (h : Ris n l) : l.Nodup := h.1.imp fun {a b} h => by omega
theorem Ris.full {n : Nat} {l : List Int} (h : Ris n l) (hl : l.length = n) : l = (List.range n).map fun e : Nat => (e : Int) := by
 have hr := ris_range n
 refine rise_unique h.1 hr.1 fun x => ⟨fun hx => ?_, fun hx => ?_⟩
 ·have h1 := h.2 x hx
  exact List.mem_map.2 ⟨x.toNat, List.mem_range.2 (by omega), by omega⟩
 ·refine Classical.byContradiction fun hn => ?_
  have h1 := nodup_sub (x :: l) ((List.range n).map fun e : Nat => (e : Int)) (List.nodup_cons.2 ⟨hn, h.nodup⟩) fun a ha => by
   rcases List.mem_cons.1 ha with rfl | ha
   ·exact hx
   ·have h2 := h.2 a ha
    exact List.mem_map.2 ⟨a.toNat, List.mem_range.2 (by omega), by omega⟩
  simp at h1
  omega
theorem blk_mem {n : Nat} {O : List Nat} {b : Nat} {k : Nat} (hk : k < n) : (k : Int) ∈ blkL n O b ↔ O.getD k 0 = b := by
 unfold blkL
 rw [List.mem_map]
 constructor
 ·rintro ⟨e, he, h⟩
  have h1 : e = k := by omega
  subst h1
  exact of_decide_eq_true (List.mem_filter.1 he).2
 ·intro h
  exact ⟨k, List.mem_filter.2 ⟨List.mem_range.2 hk, decide_eq_true h⟩, rfl⟩
theorem Ris.block {n : Nat} {O : List Nat} {b : Nat} {l : List Int} (h : Ris n l) (hm : ∀ k, k < n → ((k : Int) ∈ l ↔ O.getD k 0 = b)) : l = blkL n O b := by
 refine rise_unique h.1 (ris_blk n O b).1 fun x => ?_
 by_cases hx : 0 ≤ x ∧ x < (n : Int)
 ·obtain ⟨k, rfl⟩ : ∃ k : Nat, x = k := ⟨x.toNat, by omega⟩
  rw [blk_mem (by omega), hm k (by omega)]
 ·exact ⟨fun h1 => absurd (h.2 x h1) hx, fun h1 => absurd ((ris_blk n O b).2 x h1) hx⟩
def inB (l : List Int) (k : Nat) : Bool := l.any fun z => z == (k : Int)
theorem inB_iff {l : List Int} {k : Nat} : inB l k = true ↔ (k : Int) ∈ l := by
 unfold inB
 rw [List.any_eq_true]
 exact ⟨fun ⟨z, h1, h2⟩ => by rw [← eq_of_beq h2]; exact h1, fun h => ⟨_, h, by simp⟩⟩
theorem inB_snoc (l : List Int) (z : Int) (k : Nat) : inB (l ++ [z]) k = (inB l k || (z == (k : Int))) := by unfold inB; rw [List.any_append]; simp
def restB (H : List Nat) (l : List Int) (z : Nat) (k : Nat) : Bool := decide (H.getD k 0 = H.getD z 0) && !inB l k
def boolC (n : Nat) (X : Nat → Bool) : List Value := (List.range n).map fun k => Value.bool (X k)
theorem boolC_len (n : Nat) (X : Nat → Bool) : (boolC n X).length = n := by simp [boolC]
theorem boolC_at {n : Nat} (X : Nat → Bool) {k : Nat} (h : k < n) : (boolC n X)[k]? = some (.bool (X k)) := by unfold boolC; rw [List.getElem?_map, List.getElem?_range h]; rfl
theorem boolC_false (n : Nat) : boolC n (fun _ => false) = List.replicate n (.bool false) := by
 apply List.ext_getElem?
 intro i
 rcases Nat.lt_or_ge i n with h | h
 ·rw [boolC_at _ h, List.getElem?_replicate, if_pos h]
 ·rw [List.getElem?_eq_none (by rw [boolC_len]; exact h), List.getElem?_eq_none (by simp; exact h)]
theorem boolC_congr {n : Nat} {X Y : Nat → Bool} (h : ∀ k, k < n → X k = Y k) : boolC n X = boolC n Y := List.map_congr_left fun k hk => by rw [h k (List.mem_range.1 hk)]
theorem boolC_set {n : Nat} (X : Nat → Bool) {k : Nat} (b : Bool) : (boolC n X).set k (.bool b) = boolC n fun i => if i = k then b else X i := by
 apply List.ext_getElem?
 intro i
 rcases Nat.lt_or_ge i n with h | h
 ·rw [List.getElem?_set, boolC_at _ h, boolC_at _ h, boolC_len]
  by_cases e : k = i
  ·subst e; simp [h]
  ·rw [if_neg e, if_neg (fun h => e h.symm)]
 ·rw [List.getElem?_eq_none (by rw [List.length_set, boolC_len]; exact h), List.getElem?_eq_none (by rw [boolC_len]; exact h)]
theorem boolC_put {n : Nat} {l : List Int} {z : Int} {k : Nat} (hz : z = (k : Int)) : (boolC n (inB l)).set k (.bool true) = boolC n (inB (l ++ [z])) := by
 rw [boolC_set]
 refine boolC_congr fun i _ => ?_
 rw [inB_snoc, hz]
 by_cases e : i = k
 ·rw [if_pos e, e]; simp
 ·rw [if_neg e]
  have : ((k : Int) == (i : Int)) = false := by simp; omega
  rw [this]; simp
end Sg
theorem hasB_arr {w wr : World} {g m : Nat} {X : Nat → Bool} (h : Arr 4 w wr g (Sg.boolC m X)) : HasB wr (.slice (some ⟨g, 0, none⟩) m m) m X := ⟨g, rfl, fun _ hi => h.cell (Sg.boolC_at X hi)⟩
end Go.Proofs.YtkiapldehlnndaaGreatDoor
/- strong: where the blocks of a taking lie: its rows of sources, its boxes, the run's own lists. -/
namespace Go.Proofs.YtkiapldehlnndaaGreatDoor
open Go.RowKit Go.Maps
structure TkGeo (w wb wc wd : World) (r p mb g1 o : Nat) (x x2 : Rv) (us : List Value) (E : Nat → List Int) (kk : Nat) : Prop where
 rows : ∀ (l : Nat) (u : Value) (b : Nat), us[l]? = some u → u.ownBlock = some b → (w.heap.size < b ∧ b < wb.heap.size) ∧ b ≠ g1
 ap : ∀ (i j : Nat) (u y : Value) (b : Nat), us[i]? = some u → us[j]? = some y → i ≠ j → u.ownBlock = some b → y.ownBlock ≠ some b
 fx : ∀ b, x2.foot b → b < w.heap.size ∨ (wb.heap.size ≤ b ∧ b < wc.heap.size)
 lo : p < w.heap.size ∧ r < w.heap.size ∧ mb < w.heap.size
 gl : w.heap.size < g1 ∧ g1 < wb.heap.size
 sz : w.heap.size < wb.heap.size ∧ wb.heap.size ≤ wc.heap.size ∧ wd.heap.size = wc.heap.size + 1
 rb : wd.cell? ⟨w.heap.size, 0, none⟩ = some (.pointer (some ⟨r, 0, none⟩))
 ob : wd.cell? ⟨wc.heap.size, 0, none⟩ = some (.int .i64 (o : Int))
 uc : ∀ (l : Nat) (u : Value), us[l]? = some u → wd.cell? ⟨g1, l, none⟩ = some u
def RowB (us : List Value) (b : Nat) : Prop := ∃ (l : Nat) (u : Value), us[l]? = some u ∧ u.ownBlock = some b
theorem TkGeo.box {w wb wc wd W : World} {r p mb g1 o kk : Nat} {x x2 : Rv} {us : List Value} {E : Nat → List Int} (h : TkGeo w wb wc wd r p mb g1 o x x2 us E kk) (hk : Kept (fun b => b = p ∨ b = r ∨ b = mb ∨ x2.foot b ∨ RowB us b) wd W) :
 W.cell? ⟨w.heap.size, 0, none⟩ = some (.pointer (some ⟨r, 0, none⟩)) ∧ W.cell? ⟨wc.heap.size, 0, none⟩ = some (.int .i64 (o : Int)) ∧ ∀ (l : Nat) (u : Value), us[l]? = some u → W.cell? ⟨g1, l, none⟩ = some u := by
 obtain ⟨l1, l2, l3⟩ := h.lo
 obtain ⟨s1, s2, s3⟩ := h.sz
 obtain ⟨g2, g3⟩ := h.gl
 have hne : ∀ b, (b = w.heap.size ∨ b = wc.heap.size ∨ b = g1) → ¬ (b = p ∨ b = r ∨ b = mb ∨ x2.foot b ∨ RowB us b) := fun b hb e => by
  rcases e with e | e | e | e | ⟨l, u, e1, e2⟩
  ·omega
  ·omega
  ·omega
  ·have := h.fx b e; omega
  ·have := h.rows l u b e1 e2; omega
 exact ⟨kcell3 hk (hne _ (.inl rfl)) h.rb, kcell3 hk (hne _ (.inr (.inl rfl))) h.ob, fun l u hu => kcell3 hk (hne _ (.inr (.inr rfl))) (h.uc l u hu)⟩
theorem TkGeo.far {w0 w wb wc wd wr : World} {r g p mb g1 o kk : Nat} {s s1 : Pst} {x x2 x1 : Rv} {us : List Value} {E : Nat → List Int} {Q : Nat → Nat → Prop} (h : TkGeo w wb wc wd r p mb g1 o x x2 us E kk) (hT : TkS w0 wd wr r g p mb s s1 x2 x1 (RowB us) Q) {l : Nat} {u : Value} {b : Nat} (hu : us[l]? = some u) (hb : u.ownBlock = some b) : b ≠ p ∧ b ≠ r ∧ b ≠ mb ∧ ¬ x1.foot b ∧ b ≠ w.heap.size ∧ b ≠ wc.heap.size ∧ b < wd.heap.size := by
 obtain ⟨l1, l2, l3⟩ := h.lo
 obtain ⟨s1, s2, s3⟩ := h.sz
 have h1 := (h.rows l u b hu hb).1
 refine ⟨by omega, by omega, by omega, fun hf => ?_, by omega, by omega, by omega⟩
 rcases hT.ft b hf with h2 | h2
 ·have := h.fx b h2; omega
 ·omega
theorem take_geo {w0 w wa wb wc wd : World} {r g p mb nm bl o k g1 : Nat} {G : Gp} {s : Pst} {x x2 : Rv} {bs : List Int} {us : List Value} (hR : RunAt w0 w r g p mb nm G s x) (hsa : wa.heap.size = w.heap.size + 1) (ca : wa.cell? ⟨w.heap.size, 0, none⟩ = some (.pointer (some ⟨r, 0, none⟩))) (hA : Arr 28 wa wb g1 us) (hO : OutsI wb wa.heap.size us G.kk (Sg.srcE G s bl))
 (hL : LiftAt wb wc w0.heap.size r g p mb x x2 bl o k (s.mem bl).length bs) (hwd : wd = wc.alloc (.cells #[.int .i64 (o : Int)] 3)) : TkGeo w wb wc wd r p mb g1 o x x2 us (Sg.srcE G s bl) G.kk := by
 have hb1 := hA.bl
 have hsz1 := hb1.size
 have hsz2 := hL.gw.kp.size
 have hds : wd.heap.size = wc.heap.size + 1 := by rw [hwd]; simp
 have hbd : Below wc.heap.size wc wd := by rw [hwd]; exact (Below.refl _ _).alloc (Nat.le_refl _) _
 obtain ⟨c, hP, _⟩ := hR.c
 have hp : p < w.heap.size := Arr.lt hP
 have hr : r < w.heap.size := t_lt hR.m.box
 have hm : mb < w.heap.size := hR.cnt.lt
 have hg1 := hA.gu
 have hg2 := hA.lt
 obtain ⟨cs, hcs, hcl⟩ := hA.ids
 have hrow : ∀ (l : Nat) (u : Value), us[l]? = some u → ∃ zs, OwnI wb wa.heap.size u zs := fun l u hu => by
  obtain ⟨u', h1, h2⟩ := hO.row l (by have := (List.getElem?_eq_some_iff.1 hu).1; rw [hO.len] at this; exact this)
  rw [hu] at h1
  cases h1
  exact ⟨_, h2⟩
 have hxw : ∀ b, x.foot b → b < w.heap.size := fun b hb => (hR.m.foot_lt hb).2
 have hxl : ∀ b, (b = r ∨ x.foot b) → b < w.heap.size := fun b hb => hb.elim (fun e => by omega) (hxw b)
 refine ⟨fun l u b hu hb => ?_, hO.ap, fun b hb => ?_, ⟨hp, hr, hm⟩, ⟨by omega, hg2⟩, ⟨by omega, hsz2, hds⟩, ?_, ?_, fun l u hu => ?_⟩
 ·obtain ⟨zs, h1⟩ := hrow l u hu
  have h2 := h1.lt b hb
  exact ⟨⟨by omega, h2.2⟩, fun e => own_bk h1 hcs (by decide) (by rw [← e]; exact hb)⟩
 ·rcases hL.gw.ft b hb with h1 | h1
  ·exact .inl (hxw b h1)
  ·exact .inr ⟨h1, (hL.m.foot_lt hb).2⟩
 ·exact cell_up (kcell3 hL.gw.kp (fun e => by have := hxl _ e; omega) (cell_up ca hb1)) hbd
 ·rw [hwd]; exact cell0_of (heap_alloc_new wc _) rfl
 ·have h1 : wb.cell? ⟨g1, l, none⟩ = some u := hA.cell hu
  exact cell_up (kcell3 hL.gw.kp (fun e => by have := hxl _ e; omega) h1) hbd
theorem take_start {w0 w wa wb wc wd : World} {r g p mb nm bl o k g1 : Nat} {G : Gp} {s : Pst} {x x2 : Rv} {bs : List Int} {us : List Value} {F : Int → Int → Int → Int} (hR : RunAt w0 w r g p mb nm G s x) (hb : bl < s.nb) (how : x.ow[bl]? = some (o : Int)) (hH : (x.H.map (·.2))[o]? = some bs) (ha : Below w.heap.size w wa) (hA : Arr 28 wa wb g1 us) (hO : OutsI wb wa.heap.size us G.kk (Sg.srcE G s bl))
 (hL : LiftAt wb wc w0.heap.size r g p mb x x2 bl o k (s.mem bl).length bs) (hwd : Below wc.heap.size wc wd) :
 TkS w0 wd wd r g p mb s s x2 x2 (RowB us) (Sg.Qj G s bl F (o : Int) 0) ∧ RowsF wd wa.heap.size us 0 G.kk (Sg.srcE G s bl) ∧ Cnt wd mb nm (Sg.withC (Sg.cf (Sg.tn G.es) (hOf s x)) (o : Int) (x.ks.length : Int) (Sg.gAt (Sg.srcE G s bl) 0 0)) := by
 have hab : Below w.heap.size w wb := ha.trans (hA.bl.mono ha.size)
 have hlo := hR.up.size
 obtain ⟨c, hP, hLy⟩ := hR.c
 have hRb := hR.below hab
 obtain ⟨c', hP', hLy'⟩ := hRb.c
 have hpf := hRb.m.p_foot hP'
 have hmf := hRb.m.mb_foot hRb.cnt
 have hFr : ∀ b, (b = r ∨ x.foot b) → w0.heap.size ≤ b := fun b hb => hb.elim (fun e => by rw [e]; exact hR.m.up) fun e => (hR.m.foot_lt e).1
 refine ⟨⟨hL.m.below hwd, ⟨c', (hP'.kept hL.gw.kp fun b hb2 => ⟨hFr b hb2, fun e => ?_⟩).below hwd, hLy'⟩, hR.ok, hR.bare, rfl, RunI.lift hL hR.i hb how hH, fun e _ => rfl, rfl, fun a b _ _ => ⟨fun h => ⟨h, fun l hl => absurd hl (Nat.not_lt_zero _)⟩, fun h => h.1⟩, Kept.refl _ _, fun b hb2 => .inl hb2⟩, fun l _ hl => ?_, ?_⟩
 ·rw [e] at hb2
  exact hb2.elim (fun e2 => hpf.2 e2) hpf.1
 ·obtain ⟨u, h1, h2⟩ := hO.row l hl
  refine ⟨u, h1, trow_at (own_up h2 hL.gw.kp fun b hb2 e => ?_) fun b hb2 => hwd.block b ?_⟩
  ·have h3 := (h2.lt b hb2).1
   rcases e with e | e
   ·have := t_lt hR.m.box; have := ha.size; omega
   ·have := (hR.m.foot_lt e).2; have := ha.size; omega
  ·have := (h2.lt b hb2).2
   have := hL.gw.kp.size
   omega
 ·refine ((hRb.cnt.kept hL.gw.kp fun e => ?_).below hwd).congr fun p b q => (Sg.withC_none _ _ _ _ p b q).symm
  exact e.elim (fun e2 => hmf.2 e2) hmf.1
end Go.Proofs.YtkiapldehlnndaaGreatDoor
/- strong: contract of a run's take: a block is parted from its heap, and all blocks by their steps into it and into the rest of the heap. -/
namespace Go.Proofs.YtkiapldehlnndaaGreatDoor
open Go.RowKit Go.Maps
attribute [local go_sem ↓] Go.wp_at_zero Go.wp_at_succ
theorem four_kept {w w' : World} {mb a b c d ca cb cc cd : Nat} {va vb vc vd : Value} (hk : Kept (fun i => i = mb) w w') (ha : a ≠ mb) (hb : b ≠ mb) (hc : c ≠ mb) (hd : d ≠ mb) (h : w.cell? ⟨a, ca, none⟩ = some va ∧ w.cell? ⟨b, cb, none⟩ = some vb ∧ w.cell? ⟨c, cc, none⟩ = some vc ∧ w.cell? ⟨d, cd, none⟩ = some vd) :
 w'.cell? ⟨a, ca, none⟩ = some va ∧ w'.cell? ⟨b, cb, none⟩ = some vb ∧ w'.cell? ⟨c, cc, none⟩ = some vc ∧ w'.cell? ⟨d, cd, none⟩ = some vd := ⟨kcell3 hk ha h.1, kcell3 hk hb h.2.1, kcell3 hk hc h.2.2.1, kcell3 hk hd h.2.2.2⟩
theorem wrap_small {z : Int} (h0 : -1000000000 ≤ z) (h1 : z ≤ 1000000000) : IntKind.i64.wrap z = z := by rw [IntKind.wrap_i64]; omega
set_option linter.unusedSimpArgs false in
set_option maxRecDepth 100000 in
set_option maxHeartbeats 16000000 in
theorem take_any (w0 : World) (r g p mb nm : Nat) (G : Gp) (s : Pst) (x : Rv) (bl : Nat) (w : World) (hR : RunAt w0 w r g p mb nm G s x) (hb : bl < s.nb) (hnm : nm ≤ 100000000000) (hkl : x.ks.length ≤ 100000) :
 Calls Tryz.prog 41 #[.pointer (some ⟨r, 0, none⟩), .int .i64 bl] w fun e w' => e = .returned (.tuple #[]) ∧ ∃ nm' s' x', RunAt w0 w' r g p mb nm' G s' x' ∧ TakeAt w w' r p mb nm nm' G s s' x x' bl := by
 have hr : Sy.right G.n (G.kk : Int) G.st G.es = true := hR.gr.right
 have hn := hR.n
 obtain ⟨c, hP, hL⟩ := hR.c
 obtain ⟨o, k, v, bs, how, hH, hks, hHm⟩ := hR.i.heap hb
 have hsz := hR.i.szv bl hb
 have hol : o < x.ks.length := (List.getElem?_eq_some_iff.1 hks).1
 have hkv := hR.ksv o k hks
 have hn1 := hR.ok.n1
 have hofb : x.of bl = (o : Int) := by unfold Rv.of; rw [how]; rfl
 have hk1 : k ≤ 1000 := by
  have h1 : hc G.n (hOf s x) (o : Int) ≤ (List.range G.n).length := List.countP_le_length
  rw [List.length_range] at h1
  omega
 have hzk : (s.mem bl).length ≤ k := by
  rw [hkv, mem_count, hn]
  refine List.countP_mono_left fun e _ he => ?_
  have h1 : hOf s x e = (o : Int) := by unfold hOf; rw [of_decide_eq_true he]; exact hofb
  simp [h1]
 have hbm : (bl : Int) ∈ bs := (hR.i.hs o bs hHm _).2 ⟨bl, rfl, hb, how⟩
 have hb0 : 0 < bs.length := List.length_pos_of_mem hbm
 have hbl : bs.length ≤ 100000 := by have := hR.i.few hHm; have := hR.ok.few; omega
 obtain ⟨wa, hwa⟩ : ∃ wa, wa = w.alloc (.cells #[.pointer (some ⟨r, 0, none⟩)] 82) := ⟨_, rfl⟩
 have hba : Below w.heap.size w wa := by rw [hwa]; exact (Below.refl _ _).alloc (Nat.le_refl _) _
 have ca : wa.cell? ⟨w.heap.size, 0, none⟩ = some (.pointer (some ⟨r, 0, none⟩)) := by rw [hwa]; exact cell0_of (heap_alloc_new w _) rfl
 have hsa : wa.heap.size = w.heap.size + 1 := by rw [hwa]; simp
 have hlab : ∀ q, ∀ e ∈ insOf G.n G.es q, 0 ≤ e.1 ∧ e.1 < (G.kk : Int) := fun q e he => by
  unfold insOf Sy.rowOf at he
  split at he
  ·exact (Sg.tn_right hr _ (Sy.steps_mem.1 he)).2.1
  ·simp at he
 have hSrc := sources_any w0 w0.heap.size r g p mb x c s bl G.bs G.bb G.cs G.cb G.n G.kk G.st G.es G.B wa (hR.m.below hba) (hP.below hba) hL hR.ok hb (hR.graph.below hba) hlab
 have hLf := fun W (h : Below wa.heap.size wa W) => lift_any w0.heap.size r g p mb x bl o k (s.mem bl).length v bs W ((hR.m.below hba).below h) how hsz hH hks hkl hbl hb0 hzk hk1
 obtain ⟨E, hE⟩ : ∃ E, E = Sg.srcE G s bl := ⟨_, rfl⟩
 obtain ⟨kk, hkk⟩ : ∃ kk, kk = G.kk := ⟨_, rfl⟩
 obtain ⟨own, hown⟩ : ∃ own, own = x.ks.length := ⟨_, rfl⟩
 have hSrc' : Calls Tryz.prog 113 #[.pointer (some ⟨r, 0, none⟩), .int .i64 bl] wa fun e w' => ∃ g' us, e = .returned (.slice (some ⟨g', 0, none⟩) kk kk) ∧ Arr 28 wa w' g' us ∧ OutsI w' wa.heap.size us kk E := by rw [hE, hkk]; exact hSrc
 have hLf' : ∀ W, Below wa.heap.size wa W → Calls Tryz.prog 114 #[.pointer (some ⟨r, 0, none⟩), .int .i64 bl] W fun e w' => e = .returned (.tuple #[.int .i64 o, .int .i64 (own : Int)]) ∧ ∃ x', LiftAt W w' w0.heap.size r g p mb x x' bl o k (s.mem bl).length bs := by rw [hown]; exact hLf
 obtain ⟨F0, hF0⟩ : ∃ F0, F0 = Sg.cf (Sg.tn G.es) (hOf s x) := ⟨_, rfl⟩
 have hEl : ∀ l, (E l).length ≤ 10000 := fun l => by rw [hE]; exact Sg.srcE_len hr l
 have hFl : ∀ a b c, 0 ≤ F0 a b c ∧ F0 a b c ≤ ((10000 : Nat) : Int) := fun a b c => by rw [hF0]; exact Sg.cf_le (Sg.tn_len hr) _ a b c
 have hEm : ∀ l, ∀ z ∈ E l, 0 ≤ z ∧ z < (G.n : Int) := fun l z hz => by rw [hE] at hz; exact Sg.srcE_mem hr hn hz
 have hkk1 : kk ≤ 201 := by rw [hkk]; have := (right_parts hr).2.1.2; omega
 have hoo : o < own := by rw [hown]; exact hol
 have hoh : own ≤ 100000 := by rw [hown]; exact hkl
 have H : Hid _ := And.intro hR (And.intro hb (And.intro how (And.intro hHm (And.intro hks (And.intro hwa (And.intro hba (And.intro hsa (And.intro hSrc' (And.intro hLf' (And.intro hE (And.intro hkk (And.intro hown (And.intro hF0 (And.intro hEl (And.intro hFl (And.intro hEm (And.intro hr (And.intro hn hn1))))))))))))))))))
 have HC : Hid _ := And.intro ca trivial
 clear hR hb how hHm hks hwa hba hsa hSrc hSrc' hLf hLf' hE hkk hown hF0 hEl hFl hEm hr hn hn1 hP hL hH hsz hol hkv hofb hk1 hzk hbm hb0 hbl hlab hkl
 go_enter Tryz.func41, Tryz.ntmps41
 go_upto_region 1 with fail
 rw [← H.out.2.2.2.2.2.1]
 go_upto_region 3 with (first
  | (go_at_call 113; refine Calls.mono H.out.2.2.2.2.2.2.2.2.1 ?_; rintro r1 wb ⟨g1, us, rfl, hA1, hO1⟩; have cb1 := cell_up HC.out.1 hA1.bl; have H1 : Hid _ := And.intro hA1 hO1; clear hA1 hO1 ca)
  | (go_at_call 114; refine Calls.mono (H.out.2.2.2.2.2.2.2.2.2.1 wb H1.out.1.bl) ?_; rintro r2 wc ⟨rfl, x2, hLA⟩; have H2 : Hid _ := And.intro hLA trivial; clear hLA cb1))
 obtain ⟨wd, hwd⟩ : ∃ wd, wd = wc.alloc (.cells #[.int .i64 (o : Int)] 3) := ⟨_, rfl⟩
 rw [← hwd]
 have hGeo : TkGeo w wb wc wd r p mb g1 o x x2 us E kk := by
  have h1 := H1.out.2
  rw [H.out.2.2.2.2.2.2.2.2.2.2.1, H.out.2.2.2.2.2.2.2.2.2.2.2.1] at h1 ⊢
  exact take_geo H.out.1 H.out.2.2.2.2.2.2.2.1 HC.out.1 H1.out.1 h1 H2.out.1 hwd
 have hSt : TkS w0 wd wd r g p mb s s x2 x2 (RowB us) (Sg.Qj G s bl (Sg.withC F0 (o : Int) (own : Int) (Sg.gAt E kk 0)) (o : Int) 0) ∧ RowsF wd wa.heap.size us 0 kk E ∧ Cnt wd mb nm (Sg.withC F0 (o : Int) (own : Int) (Sg.gAt E 0 0)) := by
  have h1 := H1.out.2
  rw [H.out.2.2.2.2.2.2.2.2.2.2.1, H.out.2.2.2.2.2.2.2.2.2.2.2.1] at h1
  have h2 := take_start (F := Sg.withC F0 (o : Int) (own : Int) (Sg.gAt E kk 0)) H.out.1 H.out.2.1 H.out.2.2.1 H.out.2.2.2.1 H.out.2.2.2.2.2.2.1 H1.out.1 h1 H2.out.1 (show Below wc.heap.size wc wd by rw [hwd]; exact (Below.refl _ _).alloc (Nat.le_refl _) _)
  rw [← H.out.2.2.2.2.2.2.2.2.2.2.1, ← H.out.2.2.2.2.2.2.2.2.2.2.2.1, ← H.out.2.2.2.2.2.2.2.2.2.2.2.2.2.1, ← H.out.2.2.2.2.2.2.2.2.2.2.2.2.1] at h2
  exact h2
 have HG : Hid _ := And.intro hGeo (And.intro hSt hwd)
 clear hGeo hSt hwd
 go_wp2_with fail
 go_loopg [22] kk (fun q iv wr => ∃ (j : Nat) (s1 : Pst) (x1 : Rv) (nm1 : Nat), q = kk - j ∧ j ≤ kk ∧ iv = .int .i64 j ∧ TkS w0 wd wr r g p mb s s1 x2 x1 (RowB us) (Sg.Qj G s bl (Sg.withC F0 (o : Int) (own : Int) (Sg.gAt E kk 0)) (o : Int) j) ∧ RowsF wr wa.heap.size us j kk E ∧ Cnt wr mb nm1 (Sg.withC F0 (o : Int) (own : Int) (Sg.gAt E j 0)) ∧ nm1 ≤ nm + j * 20000)
 case atStart => exact ⟨0, s, x2, nm, rfl, Nat.zero_le _, rfl, HG.out.2.1.1, HG.out.2.1.2.1, HG.out.2.1.2.2, by omega⟩
 case round =>
  obtain ⟨j, s1, x1, nm1, rfl, hj, rfl, hT, hRw, hC, hnm1⟩ := hrel
  obtain ⟨wo, hwo⟩ : ∃ wo, wo = wr := ⟨_, rfl⟩
  rw [← hwo] at hT hRw hC ⊢
  clear hwo
  by_cases hlt : j < kk
  ·have p0 : (0 : Int) ≤ (j : Int) := by omega
   have p1 : (j : Int) < (kk : Int) := by omega
   obtain ⟨u, hu, hOu⟩ := hRw j (Nat.le_refl _) hlt
   obtain ⟨au, cu, rfl⟩ := row_shape hOu
   obtain ⟨M, hM⟩ : ∃ M, M = (E j).length := ⟨_, rfl⟩
   have hM1 : M ≤ 10000 := by rw [hM]; exact H.out.2.2.2.2.2.2.2.2.2.2.2.2.2.2.1 j
   have hOu' : wo.ownsRow wa.heap.size 3 1 (.slice au M cu) M (iC (E j)) := by have h1 := hOu; unfold OwnI at h1; rw [← hM] at h1; exact h1
   rw [← hM] at hu
   obtain ⟨c0, c1, c2⟩ := HG.out.1.box hT.kp
   have cu0 := c2 j _ hu
   obtain ⟨we, hwe⟩ : ∃ we, we = wo.alloc (.cells #[.int .i64 (j : Int)] 3) := ⟨_, rfl⟩
   have hbe : Below wo.heap.size wo we := by rw [hwe]; exact (Below.refl _ _).alloc (Nat.le_refl _) _
   have cl : we.cell? ⟨wo.heap.size, 0, none⟩ = some (.int .i64 (j : Int)) := by rw [hwe]; exact cell0_of (heap_alloc_new wo _) rfl
   have hse : we.heap.size = wo.heap.size + 1 := by rw [hwe]; simp
   have hTe := hT.below hbe
   have hCe := hC.below hbe
   have hRe := hRw.kept (F := fun _ => False) (Kept.of_below hbe) (fun _ _ _ _ _ _ h => h)
   have hOe : we.ownsRow wa.heap.size 3 1 (.slice au M cu) M (iC (E j)) := trow_at hOu' fun b hb => hbe.block b (hOu'.lt b hb).2
   have hfar := fun b hb => HG.out.1.far hTe (l := j) (u := .slice au M cu) (b := b) hu hb
   have hcm : (wc.heap.size ≠ mb ∧ w.heap.size ≠ mb) ∧ wo.heap.size ≠ mb ∧ r ≠ mb := by
    have h1 := HG.out.1.lo
    have h2 := HG.out.1.sz
    have h3 := hC.lt
    exact ⟨⟨by omega, by omega⟩, by omega, fun e => hTe.m.mb_foot hCe |>.2 e.symm⟩
   have hbx : we.cell? ⟨w.heap.size, 0, none⟩ = some (.pointer (some ⟨r, 0, none⟩)) ∧ we.cell? ⟨wo.heap.size, 0, none⟩ = some (.int .i64 (j : Int)) ∧ we.cell? ⟨wc.heap.size, 0, none⟩ = some (.int .i64 (o : Int)) ∧ we.cell? ⟨r, 5, none⟩ = some (.map (some mb)) := ⟨cell_up c0 hbe, cl, cell_up c1 hbe, (seven_cells hTe.m.box).2.2.2.2.2.1⟩
   have HJ : Hid _ := And.intro hTe (And.intro hCe (And.intro hRe (And.intro hOe (And.intro hfar (And.intro hcm (And.intro hbx (And.intro hM (And.intro hu (And.intro hse (And.intro hbe (And.intro hT hOu')))))))))))
   have HWE : Hid _ := And.intro hwe trivial
   clear hT hRw hC hOu hOu' hTe hCe hRe hOe hfar hcm hbx hM hu hbe hse cl c0 c1 c2 hwe
   go_upto_region 6 with fail
   rw [← HWE.out.1]
   clear HWE cu0
   go_wp2_with fail
   go_loopg [29] M (fun q iv wr => ∃ (i nm2 : Nat), q = M - i ∧ i ≤ M ∧ iv = .int .i64 i ∧ Kept (fun b => b = mb) we wr ∧ Cnt wr mb nm2 (Sg.withC F0 (o : Int) (own : Int) (Sg.gAt E j i)) ∧ nm2 ≤ nm1 + 2 * i)
   case atStart => exact ⟨0, nm1, rfl, Nat.zero_le _, rfl, Kept.refl _ _, HJ.out.2.1, by omega⟩
   case round =>
    obtain ⟨i, nm2, rfl, hi, rfl, hKp, hC, hnm2⟩ := hrel
    by_cases hlt2 : i < M
    ·have q0 : (0 : Int) ≤ (i : Int) := by omega
     have q1 : (i : Int) < (M : Int) := by omega
     obtain ⟨z, hz⟩ : ∃ z, (E j)[i]? = some z := ⟨(E j)[i]'(by rw [← HJ.out.2.2.2.2.2.2.2.1]; exact hlt2), List.getElem?_eq_getElem _⟩
     have hzs := H.out.2.2.2.2.2.2.2.2.2.2.2.2.2.2.2.2.1 j z (List.mem_of_getElem? hz)
     have hzz : Sml z := by have := H.out.2.2.2.2.2.2.2.2.2.2.2.2.2.2.2.2.2.2.2; have := H.out.2.2.2.2.2.2.2.2.2.2.2.2.2.2.2.2.2.2.1; unfold Sml; omega
     have hjj : Sml (j : Int) := sml_nat (by omega)
     have hos : Sml (o : Int) := sml_nat (by omega)
     have hws : Sml (own : Int) := sml_nat (by omega)
     have hbnd := fun a b c => Sg.withC_le (rest := (o : Int)) (own := (own : Int)) H.out.2.2.2.2.2.2.2.2.2.2.2.2.2.2.2.1 (Sg.gAt_len H.out.2.2.2.2.2.2.2.2.2.2.2.2.2.2.1 j i) a b c
     obtain ⟨Fi, hFi⟩ : ∃ Fi, Fi = Sg.withC F0 (o : Int) (own : Int) (Sg.gAt E j i) := ⟨_, rfl⟩
     rw [← hFi] at hC hbnd
     obtain ⟨y, hy⟩ : ∃ y, y = Fi z (j : Int) (o : Int) := ⟨_, rfl⟩
     obtain ⟨y2, hy2⟩ : ∃ y2, y2 = Fi z (j : Int) (own : Int) := ⟨_, rfl⟩
     have by1 := hbnd z (j : Int) (o : Int)
     have by2 := hbnd z (j : Int) (own : Int)
     rw [← hy] at by1
     rw [← hy2] at by2
     have hOw : OwnI wr wa.heap.size (.slice au M cu) (E j) := by
      have h1 := own_up HJ.out.2.2.2.1 hKp fun b hb e => (HJ.out.2.2.2.2.1 b hb).2.2.1 e
      unfold OwnI
      rw [← HJ.out.2.2.2.2.2.2.2.1]
      exact h1
     obtain ⟨gs, rfl, hce⟩ := own_num hOw hz
     have S0 := four_kept hKp HJ.out.2.2.2.2.2.1.1.2 HJ.out.2.2.2.2.2.1.2.1 HJ.out.2.2.2.2.2.1.1.1 HJ.out.2.2.2.2.2.1.2.2 HJ.out.2.2.2.2.2.2.1
     obtain ⟨v0, sv, w1, hme, hc1, hk1, hes⟩ := (hC.at (w' := wr.drew) rfl).entry (show nm2 < maxLen by unfold maxLen; omega) hzz hjj hos
     obtain ⟨w2, hst, hc2, hk2⟩ := hes (y - 1) (Sml.wf (by unfold Sml; omega))
     have hlk := ((hC.at (w' := wr.drew) rfl).look hzz hjj hos).1
     have hlk1 := (hc1.look hzz hjj hos).1
     rw [← hy] at hlk hlk1
     have hg2 : updC Fi z (j : Int) (o : Int) (y - 1) z (j : Int) (own : Int) = y2 := by
      rw [hy2]
      unfold updC
      rw [if_neg (fun e => by have := e.2.2; omega)]
     obtain ⟨v3, sv3, w3, hme3, hc3, hk3, hes3⟩ := (hc2.at (w' := w2.drew) rfl).entry (show nm2 + 1 < maxLen by unfold maxLen; omega) hzz hjj hws
     obtain ⟨w4, hst4, hc4, hk4⟩ := hes3 (y2 + 1) (Sml.wf (by unfold Sml; omega))
     have hlk2 := ((hc2.at (w' := w2.drew) rfl).look hzz hjj hws).1
     have hlk3 := (hc3.look hzz hjj hws).1
     rw [hg2] at hlk2 hlk3
     unfold inV at hme hlk hlk1 hme3 hlk2 hlk3
     have S1 := four_kept hk1 HJ.out.2.2.2.2.2.1.1.2 HJ.out.2.2.2.2.2.1.2.1 HJ.out.2.2.2.2.2.1.1.1 HJ.out.2.2.2.2.2.1.2.2 S0
     have S2 := four_kept hk2 HJ.out.2.2.2.2.2.1.1.2 HJ.out.2.2.2.2.2.1.2.1 HJ.out.2.2.2.2.2.1.1.1 HJ.out.2.2.2.2.2.1.2.2 S0
     have S3 := four_kept hk3 HJ.out.2.2.2.2.2.1.1.2 HJ.out.2.2.2.2.2.1.2.1 HJ.out.2.2.2.2.2.1.1.1 HJ.out.2.2.2.2.2.1.2.2 S2
     have S4 := four_kept hk4 HJ.out.2.2.2.2.2.1.1.2 HJ.out.2.2.2.2.2.1.2.1 HJ.out.2.2.2.2.2.1.1.1 HJ.out.2.2.2.2.2.1.2.2 S2
     have pw1 : IntKind.i64.wrap (y - 1) = y - 1 := wrap_small (by omega) (by omega)
     have pw2 : IntKind.i64.wrap (y2 + 1) = y2 + 1 := wrap_small (by omega) (by omega)
     have hK4 : Kept (fun b => b = mb) we w4 := hKp.trans (((Kept.of_below (Below.refl _ _).drew).trans hk2).trans ((Kept.of_below (Below.refl _ _).drew).trans hk4))
     have hC4 : Cnt w4 mb (nm2 + 2) (Sg.withC F0 (o : Int) (own : Int) (Sg.gAt E j (i + 1))) := hc4.congr fun a b c => by
      rw [hy, hy2, hFi]
      exact Sg.withC_step (by omega) hz a b c
     have HZ : Hid _ := And.intro hK4 hC4
     have HS : Hid _ := And.intro S0 (And.intro S1 (And.intro S2 (And.intro S3 S4)))
     clear hKp hC hz hzs hzz hjj hos hws hbnd hFi hy hy2 by1 by2 hOw hc1 hk1 hes hc2 hk2 hg2 hc3 hk3 hes3 hc4 hk4 hK4 hC4 S0 S1 S2 S3 S4
     go_upto_region 9 with fail
     refine wp_region_held_drew (S := (fun w' => w'.cell? ⟨w.heap.size, 0, none⟩ = some (.pointer (some ⟨r, 0, none⟩)) ∧ w'.cell? ⟨wo.heap.size, 0, none⟩ = some (.int .i64 (j : Int)) ∧ w'.cell? ⟨wc.heap.size, 0, none⟩ = some (.int .i64 (o : Int)) ∧ w'.cell? ⟨r, 5, none⟩ = some (.map (some mb)))) (by kernel_rfl) ?_ (fun hHeld => ?_)
     ·exact HS.out.1
     refine tk9 0 ?_ rfl (by kernel_rfl) (fun _ _ _ h => h) ⟨by rfl, ?_⟩ (by assumption) ?_; rotate_left; (focus (intro w hSw; (try dsimp only at hSw); go_simp; (try with_reducible rfl))); (try simp only [ty9, Act.put])
     refine tk9 1 ?_ rfl (by kernel_rfl) (fun _ _ _ h => h) ⟨by rfl, ?_⟩ (by assumption) ?_; rotate_left; (focus (intro w hSw; (try dsimp only at hSw); go_simp; (try with_reducible rfl))); (try simp only [ty9, Act.put])
     refine tk9 2 ?_ rfl (by kernel_rfl) (fun _ _ _ h => h) ⟨by rfl, ?_⟩ (by assumption) ?_; rotate_left; (focus (intro w hSw; (try dsimp only at hSw); go_simp; (try with_reducible rfl))); (try simp only [ty9, Act.put])
     refine tk9 3 ?_ rfl (by kernel_rfl) (fun _ _ _ h => h) ⟨by rfl, ?_⟩ (by assumption) ?_; rotate_left; (focus (intro w hSw; (try dsimp only at hSw); go_simp; (try with_reducible rfl))); (try simp only [ty9, Act.put])
     refine tk9 4 ?_ rfl (by kernel_rfl) (fun _ _ _ h => h) ⟨by rfl, ?_⟩ (by assumption) ?_; rotate_left; (focus (intro w hSw; (try dsimp only at hSw); go_simp; (try with_reducible rfl))); (try simp only [ty9, Act.put])
     refine tk9 5 ?_ rfl (by kernel_rfl) (fun _ _ _ h => h) ⟨by rfl, ?_⟩ (by assumption) ?_; rotate_left; (focus (intro w hSw; (try dsimp only at hSw); go_simp; (try with_reducible rfl))); (try simp only [ty9, Act.put])
     refine tk9 6 ?_ rfl (by kernel_rfl) (fun _ _ _ h => h) ⟨by rfl, ?_⟩ (by assumption) ?_; rotate_left; (focus (intro w hSw; (try dsimp only at hSw); go_simp; (try with_reducible rfl))); (try simp only [ty9, Act.put])
     refine tk9 7 ?_ rfl (by kernel_rfl) (fun _ _ _ h => h) ⟨by rfl, ?_⟩ (by assumption) ?_; rotate_left; (focus (intro w hSw; (try dsimp only at hSw); go_simp; (try with_reducible rfl))); (try simp only [ty9, Act.put])
     refine wpAnyH_ready (rs := [8, 10]) (by kernel_rfl) (by simp) ?_
     refine AllReadyH.cons (o := _) rfl (fun K hK => ?_) ?_
     ·(go_simp)
      (try go_wp2_with fail)
      refine hK.out _ _ ?_ (fun hHeld => ?_)
      ·exact hHeld
      clear hK K
      (try simp only [ty9, Act.put])
      refine tk9 9 ?_ rfl (by kernel_rfl) (fun _ _ _ h => h) ⟨by rfl, ?_⟩ (by assumption) ?_; rotate_left; (focus (intro w hSw; (try dsimp only at hSw); go_simp; (try with_reducible rfl))); (try simp only [ty9, Act.put])
      refine wpAnyH_ready (rs := [10]) (by kernel_rfl) (by simp) ?_
      refine AllReadyH.cons (o := _) rfl (fun K hK => ?_) ?_
      ·(go_simp)
       (try go_wp2_with fail)
       refine hK.out _ _ ?_ (fun hHeld => ?_)
       ·exact HS.out.2.1
       clear hK K
       (try simp only [ty9, Act.put])
       refine tk9 11 ?_ rfl (by kernel_rfl) (fun _ _ _ h => h) ⟨by rfl, ?_⟩ (by assumption) ?_; rotate_left; (focus (intro w hSw; (try dsimp only at hSw); go_simp; (try with_reducible rfl))); (try simp only [ty9, Act.put])
       refine wpAnyH_ready (rs := [12]) (by kernel_rfl) (by simp) ?_
       refine AllReadyH.cons (o := _) rfl (fun K hK => ?_) ?_
       ·(go_simp)
        (try go_wp2_with fail)
        refine hK.out _ _ ?_ (fun hHeld => ?_)
        ·exact HS.out.2.2.1
        clear hK K
        (try simp only [ty9, Act.put])
        refine wpAnyH_done (by kernel_rfl) ?_ _
        (try go_simp)
        clear hHeld
        go_upto_region 10 with fail
        refine wp_region_held_drew (S := (fun w' => w'.cell? ⟨w.heap.size, 0, none⟩ = some (.pointer (some ⟨r, 0, none⟩)) ∧ w'.cell? ⟨wo.heap.size, 0, none⟩ = some (.int .i64 (j : Int)) ∧ w'.cell? ⟨wc.heap.size, 0, none⟩ = some (.int .i64 (o : Int)) ∧ w'.cell? ⟨r, 5, none⟩ = some (.map (some mb)))) (by kernel_rfl) ?_ (fun hHeld => ?_)
        ·exact HS.out.2.2.1
        refine tk9 0 ?_ rfl (by kernel_rfl) (fun _ _ _ h => h) ⟨by rfl, ?_⟩ (by assumption) ?_; rotate_left; (focus (intro w hSw; (try dsimp only at hSw); go_simp; (try with_reducible rfl))); (try simp only [ty9, Act.put])
        refine tk9 1 ?_ rfl (by kernel_rfl) (fun _ _ _ h => h) ⟨by rfl, ?_⟩ (by assumption) ?_; rotate_left; (focus (intro w hSw; (try dsimp only at hSw); go_simp; (try with_reducible rfl))); (try simp only [ty9, Act.put])
        refine tk9 2 ?_ rfl (by kernel_rfl) (fun _ _ _ h => h) ⟨by rfl, ?_⟩ (by assumption) ?_; rotate_left; (focus (intro w hSw; (try dsimp only at hSw); go_simp; (try with_reducible rfl))); (try simp only [ty9, Act.put])
        refine tk9 3 ?_ rfl (by kernel_rfl) (fun _ _ _ h => h) ⟨by rfl, ?_⟩ (by assumption) ?_; rotate_left; (focus (intro w hSw; (try dsimp only at hSw); go_simp; (try with_reducible rfl))); (try simp only [ty9, Act.put])
        refine tk9 4 ?_ rfl (by kernel_rfl) (fun _ _ _ h => h) ⟨by rfl, ?_⟩ (by assumption) ?_; rotate_left; (focus (intro w hSw; (try dsimp only at hSw); go_simp; (try with_reducible rfl))); (try simp only [ty9, Act.put])
        refine tk9 5 ?_ rfl (by kernel_rfl) (fun _ _ _ h => h) ⟨by rfl, ?_⟩ (by assumption) ?_; rotate_left; (focus (intro w hSw; (try dsimp only at hSw); go_simp; (try with_reducible rfl))); (try simp only [ty9, Act.put])
        refine tk9 6 ?_ rfl (by kernel_rfl) (fun _ _ _ h => h) ⟨by rfl, ?_⟩ (by assumption) ?_; rotate_left; (focus (intro w hSw; (try dsimp only at hSw); go_simp; (try with_reducible rfl))); (try simp only [ty9, Act.put])
        refine tk9 7 ?_ rfl (by kernel_rfl) (fun _ _ _ h => h) ⟨by rfl, ?_⟩ (by assumption) ?_; rotate_left; (focus (intro w hSw; (try dsimp only at hSw); go_simp; (try with_reducible rfl))); (try simp only [ty9, Act.put])
        refine wpAnyH_ready (rs := [8, 10]) (by kernel_rfl) (by simp) ?_
        refine AllReadyH.cons (o := _) rfl (fun K hK => ?_) ?_
        ·(go_simp)
         (try go_wp2_with fail)
         refine hK.out _ _ ?_ (fun hHeld => ?_)
         ·exact hHeld
         clear hK K
         (try simp only [ty9, Act.put])
         refine tk9 9 ?_ rfl (by kernel_rfl) (fun _ _ _ h => h) ⟨by rfl, ?_⟩ (by assumption) ?_; rotate_left; (focus (intro w hSw; (try dsimp only at hSw); go_simp; (try with_reducible rfl))); (try simp only [ty9, Act.put])
         refine wpAnyH_ready (rs := [10]) (by kernel_rfl) (by simp) ?_
         refine AllReadyH.cons (o := _) rfl (fun K hK => ?_) ?_
         ·(go_simp)
          (try go_wp2_with fail)
          refine hK.out _ _ ?_ (fun hHeld => ?_)
          ·exact HS.out.2.2.2.1
          clear hK K
          (try simp only [ty9, Act.put])
          refine tk9 11 ?_ rfl (by kernel_rfl) (fun _ _ _ h => h) ⟨by rfl, ?_⟩ (by assumption) ?_; rotate_left; (focus (intro w hSw; (try dsimp only at hSw); go_simp; (try with_reducible rfl))); (try simp only [ty9, Act.put])
          refine wpAnyH_ready (rs := [12]) (by kernel_rfl) (by simp) ?_
          refine AllReadyH.cons (o := _) rfl (fun K hK => ?_) ?_
          ·(go_simp)
           (try go_wp2_with fail)
           refine hK.out _ _ ?_ (fun hHeld => ?_)
           ·exact HS.out.2.2.2.2
           clear hK K
           (try simp only [ty9, Act.put])
           refine wpAnyH_done (by kernel_rfl) ?_ _
           (try go_simp)
           clear hHeld
           go_wp2_with fail
           go_roundg (M - (i + 1))
           case measure => omega
           case rel => exact ⟨i + 1, nm2 + 2, rfl, by omega, by go_num, HZ.out.1, HZ.out.2, by omega⟩
          exact AllReadyH.nil
         exact AllReadyH.nil
        refine AllReadyH.cons (o := _) rfl (fun K hK => ?_) ?_
        ·(go_simp)
         (try go_wp2_with fail)
         refine hK.out _ _ ?_ (fun hHeld => ?_)
         ·exact HS.out.2.2.2.1
         clear hK K
         (try simp only [ty9, Act.put])
         refine tk9 11 ?_ rfl (by kernel_rfl) (fun _ _ _ h => h) ⟨by rfl, ?_⟩ (by assumption) ?_; rotate_left; (focus (intro w hSw; (try dsimp only at hSw); go_simp; (try with_reducible rfl))); (try simp only [ty9, Act.put])
         refine wpAnyH_ready (rs := [8]) (by kernel_rfl) (by simp) ?_
         refine AllReadyH.cons (o := _) rfl (fun K hK => ?_) ?_
         ·(go_simp)
          (try go_wp2_with fail)
          refine hK.out _ _ ?_ (fun hHeld => ?_)
          ·exact hHeld
          clear hK K
          (try simp only [ty9, Act.put])
          refine tk9 9 ?_ rfl (by kernel_rfl) (fun _ _ _ h => h) ⟨by rfl, ?_⟩ (by assumption) ?_; rotate_left; (focus (intro w hSw; (try dsimp only at hSw); go_simp; (try with_reducible rfl))); (try simp only [ty9, Act.put])
          refine wpAnyH_ready (rs := [12]) (by kernel_rfl) (by simp) ?_
          refine AllReadyH.cons (o := _) rfl (fun K hK => ?_) ?_
          ·(go_simp)
           (try go_wp2_with fail)
           refine hK.out _ _ ?_ (fun hHeld => ?_)
           ·exact HS.out.2.2.2.2
           clear hK K
           (try simp only [ty9, Act.put])
           refine wpAnyH_done (by kernel_rfl) ?_ _
           (try go_simp)
           clear hHeld
           go_wp2_with fail
           go_roundg (M - (i + 1))
           case measure => omega
           case rel => exact ⟨i + 1, nm2 + 2, rfl, by omega, by go_num, HZ.out.1, HZ.out.2, by omega⟩
          exact AllReadyH.nil
         exact AllReadyH.nil
        exact AllReadyH.nil
       exact AllReadyH.nil
      exact AllReadyH.nil
     refine AllReadyH.cons (o := _) rfl (fun K hK => ?_) ?_
     ·(go_simp)
      (try go_wp2_with fail)
      refine hK.out _ _ ?_ (fun hHeld => ?_)
      ·exact HS.out.2.1
      clear hK K
      (try simp only [ty9, Act.put])
      refine tk9 11 ?_ rfl (by kernel_rfl) (fun _ _ _ h => h) ⟨by rfl, ?_⟩ (by assumption) ?_; rotate_left; (focus (intro w hSw; (try dsimp only at hSw); go_simp; (try with_reducible rfl))); (try simp only [ty9, Act.put])
      refine wpAnyH_ready (rs := [8]) (by kernel_rfl) (by simp) ?_
      refine AllReadyH.cons (o := _) rfl (fun K hK => ?_) ?_
      ·(go_simp)
       (try go_wp2_with fail)
       refine hK.out _ _ ?_ (fun hHeld => ?_)
       ·exact hHeld
       clear hK K
       (try simp only [ty9, Act.put])
       refine tk9 9 ?_ rfl (by kernel_rfl) (fun _ _ _ h => h) ⟨by rfl, ?_⟩ (by assumption) ?_; rotate_left; (focus (intro w hSw; (try dsimp only at hSw); go_simp; (try with_reducible rfl))); (try simp only [ty9, Act.put])
       refine wpAnyH_ready (rs := [12]) (by kernel_rfl) (by simp) ?_
       refine AllReadyH.cons (o := _) rfl (fun K hK => ?_) ?_
       ·(go_simp)
        (try go_wp2_with fail)
        refine hK.out _ _ ?_ (fun hHeld => ?_)
        ·exact HS.out.2.2.1
        clear hK K
        (try simp only [ty9, Act.put])
        refine wpAnyH_done (by kernel_rfl) ?_ _
        (try go_simp)
        clear hHeld
        go_upto_region 10 with fail
        refine wp_region_held_drew (S := (fun w' => w'.cell? ⟨w.heap.size, 0, none⟩ = some (.pointer (some ⟨r, 0, none⟩)) ∧ w'.cell? ⟨wo.heap.size, 0, none⟩ = some (.int .i64 (j : Int)) ∧ w'.cell? ⟨wc.heap.size, 0, none⟩ = some (.int .i64 (o : Int)) ∧ w'.cell? ⟨r, 5, none⟩ = some (.map (some mb)))) (by kernel_rfl) ?_ (fun hHeld => ?_)
        ·exact HS.out.2.2.1
        refine tk9 0 ?_ rfl (by kernel_rfl) (fun _ _ _ h => h) ⟨by rfl, ?_⟩ (by assumption) ?_; rotate_left; (focus (intro w hSw; (try dsimp only at hSw); go_simp; (try with_reducible rfl))); (try simp only [ty9, Act.put])
        refine tk9 1 ?_ rfl (by kernel_rfl) (fun _ _ _ h => h) ⟨by rfl, ?_⟩ (by assumption) ?_; rotate_left; (focus (intro w hSw; (try dsimp only at hSw); go_simp; (try with_reducible rfl))); (try simp only [ty9, Act.put])
        refine tk9 2 ?_ rfl (by kernel_rfl) (fun _ _ _ h => h) ⟨by rfl, ?_⟩ (by assumption) ?_; rotate_left; (focus (intro w hSw; (try dsimp only at hSw); go_simp; (try with_reducible rfl))); (try simp only [ty9, Act.put])
        refine tk9 3 ?_ rfl (by kernel_rfl) (fun _ _ _ h => h) ⟨by rfl, ?_⟩ (by assumption) ?_; rotate_left; (focus (intro w hSw; (try dsimp only at hSw); go_simp; (try with_reducible rfl))); (try simp only [ty9, Act.put])
        refine tk9 4 ?_ rfl (by kernel_rfl) (fun _ _ _ h => h) ⟨by rfl, ?_⟩ (by assumption) ?_; rotate_left; (focus (intro w hSw; (try dsimp only at hSw); go_simp; (try with_reducible rfl))); (try simp only [ty9, Act.put])
        refine tk9 5 ?_ rfl (by kernel_rfl) (fun _ _ _ h => h) ⟨by rfl, ?_⟩ (by assumption) ?_; rotate_left; (focus (intro w hSw; (try dsimp only at hSw); go_simp; (try with_reducible rfl))); (try simp only [ty9, Act.put])
        refine tk9 6 ?_ rfl (by kernel_rfl) (fun _ _ _ h => h) ⟨by rfl, ?_⟩ (by assumption) ?_; rotate_left; (focus (intro w hSw; (try dsimp only at hSw); go_simp; (try with_reducible rfl))); (try simp only [ty9, Act.put])
        refine tk9 7 ?_ rfl (by kernel_rfl) (fun _ _ _ h => h) ⟨by rfl, ?_⟩ (by assumption) ?_; rotate_left; (focus (intro w hSw; (try dsimp only at hSw); go_simp; (try with_reducible rfl))); (try simp only [ty9, Act.put])
        refine wpAnyH_ready (rs := [8, 10]) (by kernel_rfl) (by simp) ?_
        refine AllReadyH.cons (o := _) rfl (fun K hK => ?_) ?_
        ·(go_simp)
         (try go_wp2_with fail)
         refine hK.out _ _ ?_ (fun hHeld => ?_)
         ·exact hHeld
         clear hK K
         (try simp only [ty9, Act.put])
         refine tk9 9 ?_ rfl (by kernel_rfl) (fun _ _ _ h => h) ⟨by rfl, ?_⟩ (by assumption) ?_; rotate_left; (focus (intro w hSw; (try dsimp only at hSw); go_simp; (try with_reducible rfl))); (try simp only [ty9, Act.put])
         refine wpAnyH_ready (rs := [10]) (by kernel_rfl) (by simp) ?_
         refine AllReadyH.cons (o := _) rfl (fun K hK => ?_) ?_
         ·(go_simp)
          (try go_wp2_with fail)
          refine hK.out _ _ ?_ (fun hHeld => ?_)
          ·exact HS.out.2.2.2.1
          clear hK K
          (try simp only [ty9, Act.put])
          refine tk9 11 ?_ rfl (by kernel_rfl) (fun _ _ _ h => h) ⟨by rfl, ?_⟩ (by assumption) ?_; rotate_left; (focus (intro w hSw; (try dsimp only at hSw); go_simp; (try with_reducible rfl))); (try simp only [ty9, Act.put])
          refine wpAnyH_ready (rs := [12]) (by kernel_rfl) (by simp) ?_
          refine AllReadyH.cons (o := _) rfl (fun K hK => ?_) ?_
          ·(go_simp)
           (try go_wp2_with fail)
           refine hK.out _ _ ?_ (fun hHeld => ?_)
           ·exact HS.out.2.2.2.2
           clear hK K
           (try simp only [ty9, Act.put])
           refine wpAnyH_done (by kernel_rfl) ?_ _
           (try go_simp)
           clear hHeld
           go_wp2_with fail
           go_roundg (M - (i + 1))
           case measure => omega
           case rel => exact ⟨i + 1, nm2 + 2, rfl, by omega, by go_num, HZ.out.1, HZ.out.2, by omega⟩
          exact AllReadyH.nil
         exact AllReadyH.nil
        refine AllReadyH.cons (o := _) rfl (fun K hK => ?_) ?_
        ·(go_simp)
         (try go_wp2_with fail)
         refine hK.out _ _ ?_ (fun hHeld => ?_)
         ·exact HS.out.2.2.2.1
         clear hK K
         (try simp only [ty9, Act.put])
         refine tk9 11 ?_ rfl (by kernel_rfl) (fun _ _ _ h => h) ⟨by rfl, ?_⟩ (by assumption) ?_; rotate_left; (focus (intro w hSw; (try dsimp only at hSw); go_simp; (try with_reducible rfl))); (try simp only [ty9, Act.put])
         refine wpAnyH_ready (rs := [8]) (by kernel_rfl) (by simp) ?_
         refine AllReadyH.cons (o := _) rfl (fun K hK => ?_) ?_
         ·(go_simp)
          (try go_wp2_with fail)
          refine hK.out _ _ ?_ (fun hHeld => ?_)
          ·exact hHeld
          clear hK K
          (try simp only [ty9, Act.put])
          refine tk9 9 ?_ rfl (by kernel_rfl) (fun _ _ _ h => h) ⟨by rfl, ?_⟩ (by assumption) ?_; rotate_left; (focus (intro w hSw; (try dsimp only at hSw); go_simp; (try with_reducible rfl))); (try simp only [ty9, Act.put])
          refine wpAnyH_ready (rs := [12]) (by kernel_rfl) (by simp) ?_
          refine AllReadyH.cons (o := _) rfl (fun K hK => ?_) ?_
          ·(go_simp)
           (try go_wp2_with fail)
           refine hK.out _ _ ?_ (fun hHeld => ?_)
           ·exact HS.out.2.2.2.2
           clear hK K
           (try simp only [ty9, Act.put])
           refine wpAnyH_done (by kernel_rfl) ?_ _
           (try go_simp)
           clear hHeld
           go_wp2_with fail
           go_roundg (M - (i + 1))
           case measure => omega
           case rel => exact ⟨i + 1, nm2 + 2, rfl, by omega, by go_num, HZ.out.1, HZ.out.2, by omega⟩
          exact AllReadyH.nil
         exact AllReadyH.nil
        exact AllReadyH.nil
       exact AllReadyH.nil
      exact AllReadyH.nil
     exact AllReadyH.nil
    ·obtain rfl : i = M := by omega
     have q1 : ¬ (i : Int) < (i : Int) := by omega
     have hgn : Sg.gAt E j i = Sg.gAt E (j + 1) 0 := Sg.gAt_next E j i HJ.out.2.2.2.2.2.2.2.1
     rw [hgn] at hC
     have hTW : TkS w0 wd wr r g p mb s s1 x2 x1 (RowB us) (Sg.Qj G s bl (Sg.withC F0 (o : Int) (own : Int) (Sg.gAt E kk 0)) (o : Int) j) := HJ.out.1.kept hKp fun b e => by
      have h1 := HJ.out.1.m.mb_foot HJ.out.2.1
      subst e
      refine ⟨H.out.1.mu, fun e => ?_, h1.2, h1.1, .inl rfl⟩
      obtain ⟨c9, h2, _⟩ := HJ.out.1.c
      obtain ⟨cs, h3⟩ := pt_block h2
      exact HJ.out.2.1.ne h3 e
     have hNat : natI (Sg.srcN G s bl j) = E j := by rw [H.out.2.2.2.2.2.2.2.2.2.2.1]; exact Sg.srcN_nat H.out.2.2.2.2.2.2.2.2.2.2.2.2.2.2.2.2.2.1 H.out.2.2.2.2.2.2.2.2.2.2.2.2.2.2.2.2.2.2.1 j
     have hOw : OwnI wr wa.heap.size (.slice au i cu) (E j) := by
      have h1 := own_up HJ.out.2.2.2.1 hKp fun b hb e => (HJ.out.2.2.2.2.1 b hb).2.2.1 e
      unfold OwnI
      rw [← HJ.out.2.2.2.2.2.2.2.1]
      exact h1
     have S0 := four_kept hKp HJ.out.2.2.2.2.2.1.1.2 HJ.out.2.2.2.2.2.1.2.1 HJ.out.2.2.2.2.2.1.1.1 HJ.out.2.2.2.2.2.1.2.2 HJ.out.2.2.2.2.2.2.1
     have hSl : ∀ e ∈ Sg.srcN G s bl j, e < s1.n := fun e he => by
      have h1 : (e : Int) ∈ E j := by rw [← hNat]; unfold natI; exact List.mem_map.2 ⟨e, he, rfl⟩
      have h2 := H.out.2.2.2.2.2.2.2.2.2.2.2.2.2.2.2.2.1 j _ h1
      have h3 := hTW.n
      have h4 := H.out.2.2.2.2.2.2.2.2.2.2.2.2.2.2.2.2.2.2.1
      omega
     have hNl : (Sg.srcN G s bl j).length = (E j).length := by rw [← hNat]; unfold natI; rw [List.length_map]
     obtain ⟨c9, hP9, hL9⟩ := hTW.c
     have hSp := rsplit_any w0 w0.heap.size r g p mb wa.heap.size x1 c9 s1 (.slice au i cu) (Sg.srcN G s bl j) wr hTW.m hP9 hL9 hTW.ok hTW.bare hTW.i (by rw [hNat]; exact hOw) (fun b hb => (HJ.out.2.2.2.2.1 b hb).2.2.2.1) hSl (by rw [hNl]; have := H.out.2.2.2.2.2.2.2.2.2.2.2.2.2.2.1 j; omega) (Nat.le_refl _)
     have hRW := HJ.out.2.2.1.kept hKp fun l u b hl hu2 hb e => (HG.out.1.far HJ.out.1 hu2 hb).2.2.1 e
     have c0 := S0.1
     have HW : Hid _ := And.intro hTW (And.intro hNat (And.intro hOw (And.intro S0 (And.intro hSl (And.intro hNl (And.intro hSp (And.intro hRW (And.intro hC hKp))))))))
     clear hTW hNat hOw S0 hSl hNl hP9 hL9 hSp hRW hC hKp hgn
     go_upto_region 13 with (go_at_call 115; refine Calls.mono HW.out.2.2.2.2.2.2.1 ?_; rintro r5 w5 ⟨rfl, x5, c5, s5, hS5⟩; have H5 : Hid _ := And.intro hS5 trivial; clear hS5)
     have hT5 := HW.out.1.split H5.out.1
     have hfarW := fun l u b hu2 hb => HG.out.1.far HW.out.1 (l := l) (u := u) (b := b) hu2 hb
     have hk5 : ∀ (l : Nat) (u : Value) (b : Nat), us[l]? = some u → u.ownBlock = some b → ¬ (b = p ∨ b = r ∨ x1.foot b) := fun l u b hu2 hb e => by
      have h1 := hfarW l u b hu2 hb
      exact e.elim h1.1 fun e => e.elim h1.2.1 h1.2.2.2.1
     have hO5 : OwnI w5 wa.heap.size (.slice au i cu) (E j) := own_up HW.out.2.2.1 H5.out.1.kp fun b hb => hk5 j _ b HJ.out.2.2.2.2.2.2.2.2.1 hb
     have hR5 := HW.out.2.2.2.2.2.2.2.1.kept H5.out.1.kp fun l u b _ hu2 hb => hk5 l u b hu2 hb
     have hmf := HW.out.1.m.mb_foot HW.out.2.2.2.2.2.2.2.2.1
     have hC5 : Cnt w5 mb nm2 (Sg.withC F0 (o : Int) (own : Int) (Sg.gAt E (j + 1) 0)) := HW.out.2.2.2.2.2.2.2.2.1.kept H5.out.1.kp fun e => by
      rcases e with e | e | e
      ·obtain ⟨c9, h2, _⟩ := HW.out.1.c
       obtain ⟨cs, h3⟩ := pt_block h2
       exact HW.out.2.2.2.2.2.2.2.2.1.ne h3 e
      ·exact hmf.2 e
      ·exact hmf.1 e
     have hboxW : ∀ b, (b = w.heap.size ∨ b = wc.heap.size ∨ b = wo.heap.size) → ¬ (b = p ∨ b = r ∨ x1.foot b) := fun b hb e => by
      have l1 := HG.out.1.lo
      have l2 := HG.out.1.sz
      have l3 := HJ.out.2.2.2.2.2.2.2.2.2.2.2.1.kp.size
      rcases hb with rfl | rfl | rfl
      ·rcases e with e | e | e
       ·omega
       ·omega
       ·rcases HJ.out.2.2.2.2.2.2.2.2.2.2.2.1.ft _ e with h2 | h2
        ·have := HG.out.1.fx _ h2; omega
        ·omega
      ·rcases e with e | e | e
       ·omega
       ·omega
       ·rcases HJ.out.2.2.2.2.2.2.2.2.2.2.2.1.ft _ e with h2 | h2
        ·have := HG.out.1.fx _ h2; omega
        ·omega
      ·rcases e with e | e | e
       ·omega
       ·omega
       ·have := (HJ.out.2.2.2.2.2.2.2.2.2.2.2.1.m.foot_lt e).2; omega
     have S5 : w5.cell? ⟨w.heap.size, 0, none⟩ = some (.pointer (some ⟨r, 0, none⟩)) ∧ w5.cell? ⟨wo.heap.size, 0, none⟩ = some (.int .i64 (j : Int)) ∧ w5.cell? ⟨wc.heap.size, 0, none⟩ = some (.int .i64 (o : Int)) ∧ w5.cell? ⟨r, 5, none⟩ = some (.map (some mb)) := ⟨kcell3 H5.out.1.kp (hboxW _ (.inl rfl)) HW.out.2.2.2.1.1, kcell3 H5.out.1.kp (hboxW _ (.inr (.inr rfl))) HW.out.2.2.2.1.2.1, kcell3 H5.out.1.kp (hboxW _ (.inr (.inl rfl))) HW.out.2.2.2.1.2.2.1, (seven_cells hT5.m.box).2.2.2.2.2.1⟩
     have hzs5 : ∀ z ∈ E j, Sml z := fun z hz => by have := H.out.2.2.2.2.2.2.2.2.2.2.2.2.2.2.2.2.1 j z hz; have := H.out.2.2.2.2.2.2.2.2.2.2.2.2.2.2.2.2.2.2.2; have := H.out.2.2.2.2.2.2.2.2.2.2.2.2.2.2.2.2.2.2.1; unfold Sml; omega
     have hfar5 := fun b hb => HG.out.1.far hT5 (l := j) (u := .slice au i cu) (b := b) HJ.out.2.2.2.2.2.2.2.2.1 hb
     have hwo5 : ∀ b, (Value.slice au i cu).ownBlock = some b → b ≠ wo.heap.size := fun b hb e => by
      have := (HJ.out.2.2.2.2.2.2.2.2.2.2.2.2.lt b hb).2
      omega
     have hAs := take1_asks w.heap.size wo.heap.size wc.heap.size r mb nm2 (Sg.withC F0 (o : Int) (own : Int) (Sg.gAt E (j + 1) 0)) (j : Int) (o : Int) (E j) (.slice au i cu) w5.drew S5.1 S5.2.1 S5.2.2.1 S5.2.2.2 (hC5.at rfl) (fun b hb => ⟨(hfar5 b hb).2.2.2.2.1, hwo5 b hb, (hfar5 b hb).2.2.2.2.2.1, (hfar5 b hb).2.1, (hfar5 b hb).2.2.1⟩) (sml_nat (by omega)) (sml_nat (by omega)) hzs5
     have hDel := deleteFunc3 117 wa.heap.size (.pointer (some ⟨w.heap.size, 0, none⟩)) (.pointer (some ⟨wo.heap.size, 0, none⟩)) (.pointer (some ⟨wc.heap.size, 0, none⟩)) _ (.slice au i cu) (E j) w5.drew (trow_at hO5 fun _ _ => rfl) (by have := H.out.2.2.2.2.2.2.2.2.2.2.2.2.2.2.1 j; omega) (enters_of Tryz.func117 (by kernel_rfl) rfl) hAs
     have hSF : natI (Sg.srcF G s bl (Sg.withC F0 (o : Int) (own : Int) (Sg.gAt E kk 0)) (o : Int) j) = (E j).filter fun z => !decide (0 < Sg.withC F0 (o : Int) (own : Int) (Sg.gAt E (j + 1) 0) z (j : Int) (o : Int)) := by
      rw [Sg.srcF_nat H.out.2.2.2.2.2.2.2.2.2.2.2.2.2.2.2.2.2.1 H.out.2.2.2.2.2.2.2.2.2.2.2.2.2.2.2.2.2.2.1 j, ← H.out.2.2.2.2.2.2.2.2.2.2.1]
      refine List.filter_congr fun z _ => ?_
      rw [Sg.final E hlt]
     have hSp2 : ∀ (v6 : Value) (w6 : World), OwnI w6 wa.heap.size v6 ((E j).filter fun z => !decide (0 < Sg.withC F0 (o : Int) (own : Int) (Sg.gAt E (j + 1) 0) z (j : Int) (o : Int))) → v6.ownBlock = (Value.slice au i cu).ownBlock → TkS w0 wd w6 r g p mb s s5 x2 x5 (RowB us) (fun a b => Sg.Qj G s bl (Sg.withC F0 (o : Int) (own : Int) (Sg.gAt E kk 0)) (o : Int) j a b ∧ (a ∈ Sg.srcN G s bl j ↔ b ∈ Sg.srcN G s bl j)) → Calls Tryz.prog 115 #[.pointer (some ⟨r, 0, none⟩), v6] w6 fun e w' => e = .returned (.tuple #[]) ∧ ∃ x' c' s', SpAt w0 w6 w' w0.heap.size r g p mb s5 s' x5 x' c' (Sg.srcF G s bl (Sg.withC F0 (o : Int) (own : Int) (Sg.gAt E kk 0)) (o : Int) j) := fun v6 w6 h1 h2 h3 => by
      obtain ⟨c9, hP9, hL9⟩ := h3.c
      refine rsplit_any w0 w0.heap.size r g p mb wa.heap.size x5 c9 s5 v6 (Sg.srcF G s bl (Sg.withC F0 (o : Int) (own : Int) (Sg.gAt E kk 0)) (o : Int) j) w6 h3.m hP9 hL9 h3.ok h3.bare h3.i (by rw [hSF]; exact h1) (fun b hb => (hfar5 b (by rw [← h2]; exact hb)).2.2.2.1) (fun e he => ?_) ?_ (Nat.le_refl _)
      ·have h4 := HW.out.2.2.2.2.1 e (List.mem_filter.1 he).1
       rw [h3.n, ← HW.out.1.n]
       exact h4
      ·have h4 : (Sg.srcF G s bl (Sg.withC F0 (o : Int) (own : Int) (Sg.gAt E kk 0)) (o : Int) j).length ≤ (Sg.srcN G s bl j).length := List.length_filter_le _ _
       have h5 := HW.out.2.2.2.2.2.1
       have h6 := H.out.2.2.2.2.2.2.2.2.2.2.2.2.2.2.1 j
       omega
     have hK6 : ∀ w6, Kept (fun b => (Value.slice au i cu).ownBlock = some b) w5.drew w6 → TkS w0 wd w6 r g p mb s s5 x2 x5 (RowB us) (fun a b => Sg.Qj G s bl (Sg.withC F0 (o : Int) (own : Int) (Sg.gAt E kk 0)) (o : Int) j a b ∧ (a ∈ Sg.srcN G s bl j ↔ b ∈ Sg.srcN G s bl j)) ∧ Cnt w6 mb nm2 (Sg.withC F0 (o : Int) (own : Int) (Sg.gAt E (j + 1) 0)) ∧ RowsF w6 wa.heap.size us (j + 1) kk E := fun w6 hk6 => by
      have hd5 : Below w5.heap.size w5 w5.drew := (Below.refl _ _).drew
      refine ⟨(hT5.below hd5).kept hk6 fun b hb => ?_, (hC5.below hd5).kept hk6 fun e => (hfar5 _ e).2.2.1 rfl, fun l hl hl2 => ?_⟩
      ·have h1 := hfar5 b hb
       exact ⟨Nat.le_trans H.out.1.up.size (Nat.le_trans H.out.2.2.2.2.2.2.1.size ((hO5.lt b hb).1)), h1.1, h1.2.1, h1.2.2.2.1, .inr (.inl ⟨j, _, HJ.out.2.2.2.2.2.2.2.2.1, hb⟩)⟩
      ·obtain ⟨u2, h1, h2⟩ := hR5 l (by omega) hl2
       exact ⟨u2, h1, own_up (show OwnI w5.drew wa.heap.size u2 (E l) from trow_at h2 fun _ _ => rfl) hk6 fun b hb e => HG.out.1.ap l j u2 _ b h1 HJ.out.2.2.2.2.2.2.2.2.1 (by omega) hb e⟩
     have c5' := S5.1
     have hrb5 : ¬ (w.heap.size = p ∨ w.heap.size = r ∨ x5.foot w.heap.size) := fun e => by
      have l1 := HG.out.1.lo
      have l2 := HG.out.1.sz
      rcases e with e | e | e
      ·omega
      ·omega
      ·rcases hT5.ft _ e with h2 | h2
       ·have := HG.out.1.fx _ h2; omega
       ·omega
     have HD : Hid _ := And.intro hDel (And.intro hSp2 (And.intro hK6 (And.intro hfar5 hrb5)))
     clear hT5 hfarW hk5 hO5 hR5 hmf hC5 hboxW S5 hzs5 hwo5 hAs hDel hSF hSp2 hK6 c0 hfar5 hrb5
     refine wp_region_held_drew (S := (fun w' => w'.cell? ⟨w.heap.size, 0, none⟩ = some (.pointer (some ⟨r, 0, none⟩)))) (by kernel_rfl) ?_ (fun hHeld => ?_)
     ·exact c5'
     refine tk9 0 ?_ rfl (by kernel_rfl) (fun _ _ _ h => h) ⟨by rfl, ?_⟩ (by assumption) ?_; rotate_left; (focus (intro w hSw; (try dsimp only at hSw); go_simp; (try with_reducible rfl))); (try simp only [ty9, Act.put])
     refine tk9 1 ?_ rfl (by kernel_rfl) (fun _ _ _ h => h) ⟨by rfl, ?_⟩ (by assumption) ?_; rotate_left; (focus (intro w hSw; (try dsimp only at hSw); go_simp; (try with_reducible rfl))); (try simp only [ty9, Act.put])
     refine tk9 2 ?_ rfl (by kernel_rfl) (fun _ _ _ h => h) ⟨by rfl, ?_⟩ (by assumption) ?_; rotate_left; (focus (intro w hSw; (try dsimp only at hSw); go_simp; (try with_reducible rfl))); (try simp only [ty9, Act.put])
     refine wpAnyH_ready (rs := [3]) (by kernel_rfl) (by simp) ?_
     refine AllReadyH.cons (o := _) rfl (fun K hK => ?_) ?_
     ·(go_simp; go_at_call 116; refine Calls.mono HD.out.1 ?_; rintro r6 w6 ⟨v6, rfl, hO6, hob6, hk6⟩; have H6 : Hid _ := And.intro hO6 (And.intro hob6 hk6); clear hO6 hob6 hk6)
      (try go_wp2_with fail)
      refine hK.out _ _ ?_ (fun hHeld => ?_)
      ·exact kcell3 H6.out.2.2 (fun e => (HD.out.2.2.2.1 _ e).2.2.2.2.1 rfl) c5'
      clear hK K
      (try simp only [ty9, Act.put])
      refine wpAnyH_ready (rs := [4]) (by kernel_rfl) (by simp) ?_
      refine AllReadyH.cons (o := _) rfl (fun K hK => ?_) ?_
      ·(go_simp; go_at_call 115; refine Calls.mono (HD.out.2.1 v6 w6 H6.out.1 H6.out.2.1 (HD.out.2.2.1 w6 H6.out.2.2).1) ?_; rintro r7 w7 ⟨rfl, x7, c7, s7, hS7⟩; have H7 : Hid _ := And.intro hS7 trivial; clear hS7)
       (try go_wp2_with fail)
       refine hK.out _ _ ?_ (fun hHeld => ?_)
       ·exact kcell3 H7.out.1.kp HD.out.2.2.2.2 (kcell3 H6.out.2.2 (fun e => (HD.out.2.2.2.1 _ e).2.2.2.2.1 rfl) c5')
       clear hK K
       (try simp only [ty9, Act.put])
       refine wpAnyH_done (by kernel_rfl) ?_ _
       (try go_simp)
       clear hHeld
       go_wp2_with fail
       go_roundg (kk - (j + 1))
       case measure => omega
       case rel =>
        obtain ⟨a1, a2, a3⟩ := HD.out.2.2.1 w6 H6.out.2.2
        refine ⟨j + 1, s7, x7, nm2, rfl, by omega, by go_num, (a1.split H7.out.1).congr (fun a b _ _ => (Sg.Qj_next G s bl _ _ j a b).symm), a3.kept H7.out.1.kp ?_, a2.kept H7.out.1.kp ?_, by omega⟩
        ·intro l u b _ hu2 hb e
         have h1 := HG.out.1.far a1 hu2 hb
         exact e.elim h1.1 fun e => e.elim h1.2.1 h1.2.2.2.1
        ·intro e
         have h1 := a1.m.mb_foot a2
         rcases e with e | e | e
         ·obtain ⟨c9, h2, _⟩ := a1.c
          obtain ⟨cs, h3⟩ := pt_block h2
          exact a2.ne h3 e
         ·exact h1.2 e
         ·exact h1.1 e
      exact AllReadyH.nil
     exact AllReadyH.nil
  ·obtain rfl : j = kk := by omega
   have p1 : ¬ (j : Int) < (j : Int) := by omega
   have HE : Hid _ := And.intro hT hC
   clear hT hC hRw
   go_wp2_with fail
   go_end0
   have h1 := HE.out.1
   have h2 := HE.out.2
   have hkk := H.out.2.2.2.2.2.2.2.2.2.2.2.1
   have hlx := (List.getElem?_eq_some_iff.1 H.out.2.2.2.2.1).1
   have hn9 : nm1 ≤ nm + 10000000 := by omega
   rw [H.out.2.2.2.2.2.2.2.2.2.2.1, H.out.2.2.2.2.2.2.2.2.2.2.2.2.2.1, H.out.2.2.2.2.2.2.2.2.2.2.2.2.1, hkk] at h1 h2
   obtain ⟨h3, h4⟩ := take_done H.out.1 H.out.2.1 H.out.2.2.1 hlx H.out.2.2.2.2.1 H2.out.1 (H.out.2.2.2.2.2.2.1.trans (H1.out.1.bl.mono H.out.2.2.2.2.2.2.1.size)) (show Below wc.heap.size wc wd by rw [HG.out.2.2]; exact (Below.refl _ _).alloc (Nat.le_refl _) _) (fun b hb2 => by obtain ⟨l, u, e1, e2⟩ := hb2; have := HG.out.1.rows l u b e1 e2; omega) h1 h2 hn9
   exact ⟨rfl, nm1, s1, x1, h3, h4⟩
end Go.Proofs.YtkiapldehlnndaaGreatDoor
/- strong: contract of a run's smaller. -/
namespace Go.Proofs.YtkiapldehlnndaaGreatDoor
open Go.RowKit Go.Maps
attribute [local go_sem ↓] Go.wp_at_zero Go.wp_at_succ
set_option linter.unusedSimpArgs false in
set_option maxRecDepth 100000 in
set_option maxHeartbeats 4000000 in
theorem smaller_any (B r g p mb : Nat) (x : Rv) (a b : Nat) (y z : Int) (w : World) (hM : RnM w B r g p mb x) (ha : x.sz[a]? = some y) (hb : x.sz[b]? = some z) :
 Calls Tryz.prog 120 #[.pointer (some ⟨r, 0, none⟩), .int .i64 a, .int .i64 b] w fun e w' => e = .returned (.int .i64 ((if y ≤ z then a else b : Nat) : Int)) ∧ Below w.heap.size w w' := by
 obtain ⟨_, _, _, _, c4, _, _⟩ := seven_cells hM.box
 have hal := (List.getElem?_eq_some_iff.1 ha).1
 have hbl := (List.getElem?_eq_some_iff.1 hb).1
 obtain ⟨gz, oz, cz, hvz, _, csa, _⟩ := (hM.q.q 1 (x.vz, x.sz) rfl).cell ha
 simp only at hvz
 have csb := (Que.cellAt (w := w) (B := B) (g := gz) (off := oz) (n := x.sz.length) (cap := cz) (by have h9 := hM.q.q 1 (x.vz, x.sz) rfl; rw [hvz] at h9; exact h9) hb).1
 obtain ⟨nz, hnz⟩ : ∃ nz, nz = x.sz.length := ⟨_, rfl⟩
 rw [hvz, ← hnz] at c4
 rw [← hnz] at hal hbl
 have p0 : (0 : Int) ≤ (a : Int) := by omega
 have p1 : (a : Int) < (nz : Int) := by omega
 have p2 : (0 : Int) ≤ (b : Int) := by omega
 have p3 : (b : Int) < (nz : Int) := by omega
 obtain ⟨cv, hcv⟩ : ∃ cv, cv = cmpI y z := ⟨_, rfl⟩
 have hC := fun W => cmpI_any y z W
 rw [← hcv] at hC
 obtain ⟨m, hm⟩ : ∃ m, m = (if y ≤ z then a else b : Nat) := ⟨_, rfl⟩
 rw [← hm]
 have HC : Hid _ := And.intro hC (And.intro hcv hm)
 clear hM ha hb hvz hnz hC hcv hm
 go_enter Tryz.func120, Tryz.ntmps120
 go_upto_region 1 with fail
 refine wp_region_held_drew (S := (fun w' => w'.cell? ⟨r, 4, none⟩ = some (.slice (some ⟨gz, oz, none⟩) nz cz) ∧ w'.cell? ⟨gz, oz + a, none⟩ = some (.int .i64 y) ∧ w'.cell? ⟨gz, oz + b, none⟩ = some (.int .i64 z))) (by kernel_rfl) ?_ (fun hHeld => ?_)
 ·exact ⟨c4, csa, csb⟩
 refine tk9 0 ?_ rfl (by kernel_rfl) (fun _ _ _ h => h) ⟨by rfl, ?_⟩ (by assumption) ?_; rotate_left; (focus (intro w hSw; (try dsimp only at hSw); go_simp; (try with_reducible rfl))); (try simp only [ty9, Act.put])
 refine tk9 1 ?_ rfl (by kernel_rfl) (fun _ _ _ h => h) ⟨by rfl, ?_⟩ (by assumption) ?_; rotate_left; (focus (intro w hSw; (try dsimp only at hSw); go_simp; (try with_reducible rfl))); (try simp only [ty9, Act.put])
 refine tk9 2 ?_ rfl (by kernel_rfl) (fun _ _ _ h => h) ⟨by rfl, ?_⟩ (by assumption) ?_; rotate_left; (focus (intro w hSw; (try dsimp only at hSw); go_simp; (try with_reducible rfl))); (try simp only [ty9, Act.put])
 refine tk9 3 ?_ rfl (by kernel_rfl) (fun _ _ _ h => h) ⟨by rfl, ?_⟩ (by assumption) ?_; rotate_left; (focus (intro w hSw; (try dsimp only at hSw); go_simp; (try with_reducible rfl))); (try simp only [ty9, Act.put])
 refine tk9 4 ?_ rfl (by kernel_rfl) (fun _ _ _ h => h) ⟨by rfl, ?_⟩ (by assumption) ?_; rotate_left; (focus (intro w hSw; (try dsimp only at hSw); go_simp; (try with_reducible rfl))); (try simp only [ty9, Act.put])
 refine tk9 5 ?_ rfl (by kernel_rfl) (fun _ _ _ h => h) ⟨by rfl, ?_⟩ (by assumption) ?_; rotate_left; (focus (intro w hSw; (try dsimp only at hSw); go_simp; (try with_reducible rfl))); (try simp only [ty9, Act.put])
 refine tk9 6 ?_ rfl (by kernel_rfl) (fun _ _ _ h => h) ⟨by rfl, ?_⟩ (by assumption) ?_; rotate_left; (focus (intro w hSw; (try dsimp only at hSw); go_simp; (try with_reducible rfl))); (try simp only [ty9, Act.put])
 refine tk9 7 ?_ rfl (by kernel_rfl) (fun _ _ _ h => h) ⟨by rfl, ?_⟩ (by assumption) ?_; rotate_left; (focus (intro w hSw; (try dsimp only at hSw); go_simp; (try with_reducible rfl))); (try simp only [ty9, Act.put])
 refine tk9 8 ?_ rfl (by kernel_rfl) (fun _ _ _ h => h) ⟨by rfl, ?_⟩ (by assumption) ?_; rotate_left; (focus (intro w hSw; (try dsimp only at hSw); go_simp; (try with_reducible rfl))); (try simp only [ty9, Act.put])
 refine tk9 9 ?_ rfl (by kernel_rfl) (fun _ _ _ h => h) ⟨by rfl, ?_⟩ (by assumption) ?_; rotate_left; (focus (intro w hSw; (try dsimp only at hSw); go_simp; (try with_reducible rfl))); (try simp only [ty9, Act.put])
 refine tk9 10 ?_ rfl (by kernel_rfl) (fun _ _ _ h => h) ⟨by rfl, ?_⟩ (by assumption) ?_; rotate_left; (focus (intro w hSw; (try dsimp only at hSw); go_simp; (try with_reducible rfl))); (try simp only [ty9, Act.put])
 refine tk9 11 ?_ rfl (by kernel_rfl) (fun _ _ _ h => h) ⟨by rfl, ?_⟩ (by assumption) ?_; rotate_left; (focus (intro w hSw; (try dsimp only at hSw); go_simp; (try with_reducible rfl))); (try simp only [ty9, Act.put])
 refine tk9 12 ?_ rfl (by kernel_rfl) (fun _ _ _ h => h) ⟨by rfl, ?_⟩ (by assumption) ?_; rotate_left; (focus (intro w hSw; (try dsimp only at hSw); go_simp; (try with_reducible rfl))); (try simp only [ty9, Act.put])
 refine tk9 13 ?_ rfl (by kernel_rfl) (fun _ _ _ h => h) ⟨by rfl, ?_⟩ (by assumption) ?_; rotate_left; (focus (intro w hSw; (try dsimp only at hSw); go_simp; (try with_reducible rfl))); (try simp only [ty9, Act.put])
 refine wpAnyH_ready (rs := [14]) (by kernel_rfl) (by simp) ?_
 refine AllReadyH.cons (o := _) rfl (fun K hK => ?_) ?_
 ·(go_simp; go_at_call 165; refine Calls.mono (HC.out.1 _) ?_; rintro r1 w1 ⟨rfl, hw1⟩; obtain rfl := hw1.symm; clear hw1)
  (try go_wp2_with fail)
  refine hK.out _ _ ?_ (fun hHeld => ?_)
  ·exact hHeld
  clear hK K
  (try simp only [ty9, Act.put])
  refine wpAnyH_done (by kernel_rfl) ?_ _
  (try go_simp)
  clear hHeld
  by_cases h1 : y < z
  ·have q1 : cv = -1 := by rw [HC.out.2.1]; unfold cmpI; rw [if_pos h1]
   subst q1
   have HE : Hid (m = a) := (by rw [HC.out.2.2, if_pos (by omega)] : m = a)
   clear h1
   go_wp2_with fail
   go_ret
   exact ⟨by first | rfl | (rw [HE.out]; rfl), (Below.refl _ _).drew⟩
  ·by_cases h2 : z < y
   ·have q1 : cv = 1 := by rw [HC.out.2.1]; unfold cmpI; rw [if_neg h1, if_pos h2]
    subst q1
    have HE : Hid (m = b) := (by rw [HC.out.2.2, if_neg (by omega)] : m = b)
    clear h1 h2
    go_wp2_with fail
    go_ret
    exact ⟨by first | rfl | (rw [HE.out]; rfl), (Below.refl _ _).drew⟩
   ·have q1 : cv = 0 := by rw [HC.out.2.1]; unfold cmpI; rw [if_neg h1, if_neg h2]
    subst q1
    have HE : Hid (m = a) := (by rw [HC.out.2.2, if_pos (by omega)] : m = a)
    clear h1 h2
    go_wp2_with fail
    go_ret
    exact ⟨by first | rfl | (rw [HE.out]; rfl), (Below.refl _ _).drew⟩
 exact AllReadyH.nil
end Go.Proofs.YtkiapldehlnndaaGreatDoor
