/- Texts of this claim, joined: Tk0, RoPure, RoText, SyPure, Copy, Base, SyOut0, BookApp, BookNil, BXSteps, SyReaP, SyArr, SyCanon, Shelf, SoInts, RoSig, RoSig2. -/
import Derived.OrdersHeld
import Derived.RowKit
import GoSem.Claim
import Derived.Lib.ItoaNum
import Derived.Lib.SlicesCompact
import Derived.Test.YtkiapldehlnndaaGreatDoorProg
import Derived.WalkKit
import Derived.Maps.AppendAt
import Derived.RowKitTokens
import Derived.WalkSmall
import Derived.ProofKit
import Derived.Maps.OwnSet
import Derived.Maps.Range
import Derived.OneCell
import Derived.DeepKeys4
import Derived.Deep.AppendLies
import Derived.Deep.RegionLaw
import Derived.Deep.RegionHeld3
import Derived.Deep.DrawnRows
import Derived.Deep.DeepCutAuto
import Derived.Deep.LoopGhost
import Derived.Below
import Derived.ArgAppend
import Derived.Deep.QuietTactic
import Derived.BigQuiet
import Derived.Laws.MakeOwn
import Derived.Shelf.Small.Bits
import Derived.Shelf.Small.Wraps
import Derived.Shelf.Strconv.Itoa0
import Derived.Shelf.Sort.Plain
import Derived.Sort.OwnSortedInts
import Derived.Laws.IdiomStrings
import Derived.Lib.AppendIntMem
/- Short names for what the walks through drawn regions say again and again. -/
namespace Go.Proofs.YtkiapldehlnndaaGreatDoor
/-- An operation that only reads is taken first. -/
theorem tk9 {P : Program} {md : Region.Mode} {ops : Array Oper} {Q : Exit → Act → World → Prop} {S : World → Prop} (i : Nat) {oi : Oper} (v : Value) {fuel : Nat} {listed : Array Bool} {a : Act} {w : World} (hi : ops[i]? = some oi) (hb : (Region.noSelect ops && (Region.free md ops listed i && (Region.ready md ops listed).contains i)) = true) (hQ : ∀ c a w, Q (.panic c) (a.put oi.dst v) w → Q (.panic c) a w) (hy : Region.wanted oi (yielded ops a.tmps) = true ∧ ∀ w, S w → (execOp a.eval oi).run P w = .ok (.value v) w) (hS : S w)
    (h : wpAnyH P md ops Q S fuel (listed.setIfInBounds i true) (a.put oi.dst v) w) : wpAnyH P md ops Q S (fuel + 1) listed a w := by
  rw [Bool.and_eq_true, Bool.and_eq_true] at hb
  exact wpAnyH_take hi hb.1 hb.2.1 hb.2.2 hQ (Or.inl hy) hS h
theorem ty9 : (∀ {α : Type} {l : List α} {i : Nat} (h : i < l.toArray.size), l.toArray[i] = l[i]'h) ∧ (∀ {α : Type} (a : α) (xs : List α) (i : Nat) (h : i + 1 < (a :: xs).length), (a :: xs)[i + 1] = xs[i]'(Nat.lt_of_succ_lt_succ h)) ∧ (∀ {α : Type} (a : α) (xs : List α) (h : 0 < (a :: xs).length), (a :: xs)[0] = a) ∧ (∀ {α : Type} (l : List α) (i : Nat) (a : α), l.toArray.setIfInBounds i a = (l.set i a).toArray) ∧ (∀ {α : Type} (a : α) (xs : List α) (b : α), (a :: xs).set 0 b = b :: xs) ∧ (∀ {α : Type} (a : α) (xs : List α) (n : Nat) (b : α), (a :: xs).set (n + 1) b = a :: xs.set n b) :=
  ⟨fun h => List.getElem_toArray h, fun _ _ _ h => List.getElem_cons_succ _ _ _ h, fun _ _ _ => rfl, fun l i a => by simp, fun _ _ _ => rfl, fun _ _ _ _ => rfl⟩
end Go.Proofs.YtkiapldehlnndaaGreatDoor
/- Plain facts on keys that are numbered in the order in which they come, and on rounds. Nothing of the program is in it. -/
namespace Go.Proofs.YtkiapldehlnndaaGreatDoor.Ro
section
variable {K : Type} [DecidableEq K]
def place (c : K) : List K → Nat
 | [] => 0
 | a :: r => if a = c then 0 else place c r + 1
def more (c : K) (l : List K) : List K := if c ∈ l then l else l ++ [c]
def dd (l : List K) : List K := l.foldl (fun s c => more c s) []
def num (l : List K) : List Nat := l.map fun z => place z (dd l)
theorem place_le (c : K) (l : List K) : place c l ≤ l.length := by
 induction l with
 | nil => simp [place]
 | cons a r ih => unfold place; split <;> simp <;> omega
theorem place_lt {c : K} {l : List K} : place c l < l.length ↔ c ∈ l := by
 induction l with
 | nil => simp [place]
 | cons a r ih =>
   unfold place
   by_cases h : a = c
   ·simp [h]
   ·rw [if_neg h, List.length_cons, Nat.add_lt_add_iff_right, ih, List.mem_cons]
    exact ⟨fun h1 => .inr h1, fun h1 => h1.elim (fun e => absurd e.symm h) id⟩
theorem place_no {c : K} {l : List K} (h : c ∉ l) : place c l = l.length := by
 have h1 := place_le c l
 have h2 : ¬ place c l < l.length := fun h2 => h (place_lt.1 h2)
 omega
theorem place_at {c : K} {l : List K} (h : c ∈ l) : l[place c l]? = some c := by
 induction l with
 | nil => simp at h
 | cons a r ih =>
   unfold place
   by_cases h1 : a = c
   ·simp [h1]
   ·rw [if_neg h1, List.getElem?_cons_succ]
    exact ih ((List.mem_cons.1 h).elim (fun e => absurd e.symm h1) id)
theorem place_inj {a b : K} {l : List K} (ha : a ∈ l) (hb : b ∈ l) (h : place a l = place b l) : a = b := by
 have h1 := place_at ha
 rw [h, place_at hb] at h1
 exact (Option.some.inj h1).symm
theorem place_left {c : K} {a : List K} (b : List K) (h : c ∈ a) : place c (a ++ b) = place c a := by
 induction a with
 | nil => simp at h
 | cons x r ih =>
   simp only [List.cons_append, place]
   by_cases h1 : x = c
   ·simp [h1]
   ·rw [if_neg h1, if_neg h1, ih ((List.mem_cons.1 h).elim (fun e => absurd e.symm h1) id)]
theorem place_more (c : K) (l : List K) : place c (more c l) = place c l := by
 unfold more
 split
 ·rfl
 ·rename_i h
  rw [place_no h]
  induction l with
  | nil => simp [place]
  | cons x r ih =>
    have hx : x ≠ c := fun e => h (by rw [e]; exact List.mem_cons_self)
    have hr : c ∉ r := fun e => h (List.mem_cons_of_mem _ e)
    simp only [List.cons_append, place]
    rw [if_neg hx, ih hr]
    simp
theorem dd_snoc (l : List K) (c : K) : dd (l ++ [c]) = more c (dd l) := by simp [dd]
theorem mem_more {c x : K} {l : List K} : x ∈ more c l ↔ x ∈ l ∨ x = c := by
 unfold more
 split
 ·rename_i h
  exact ⟨.inl, fun h1 => h1.elim id fun e => by rw [e]; exact h⟩
 ·simp
theorem snoc_ind {α : Type} {P : List α → Prop} (h0 : P []) (hs : ∀ l x, P l → P (l ++ [x])) (l : List α) : P l := by
 have h : ∀ n (l : List α), l.length = n → P l := fun n => by
  induction n with
  | zero => intro l hl; rw [List.length_eq_zero_iff.1 hl]; exact h0
  | succ n ih =>
    intro l hl
    rcases List.eq_nil_or_concat l with rfl | ⟨m, x, rfl⟩
    ·simp at hl
    ·rw [List.concat_eq_append]
     exact hs m x (ih m (by simp at hl; omega))
 exact h _ l rfl
theorem mem_dd {x : K} (l : List K) : x ∈ dd l ↔ x ∈ l := by
 refine snoc_ind (P := fun l => x ∈ dd l ↔ x ∈ l) (by simp [dd]) (fun l c ih => ?_) l
 rw [dd_snoc, mem_more, ih]
 simp
theorem num_len (l : List K) : (num l).length = l.length := by simp [num]
theorem num_snoc (l : List K) (c : K) : num (l ++ [c]) = num l ++ [place c (dd l)] := by
 unfold num
 rw [List.map_append, dd_snoc]
 congr 1
 ·refine List.map_congr_left fun z hz => ?_
  have h1 : z ∈ dd l := (mem_dd l).2 hz
  unfold more
  split
  ·rfl
  ·exact place_left _ h1
 ·simp [place_more]
theorem num_at {l : List K} {i : Nat} {x : K} (h : l[i]? = some x) : (num l)[i]? = some (place x (dd l)) := by
 unfold num
 rw [List.getElem?_map, h]
 rfl
theorem num_eq {l : List K} {i j : Nat} {x y : K} (hi : l[i]? = some x) (hj : l[j]? = some y) {u v : Nat} (hu : (num l)[i]? = some u) (hv : (num l)[j]? = some v) : u = v ↔ x = y := by
 rw [num_at hi] at hu
 rw [num_at hj] at hv
 simp only [Option.some.injEq] at hu hv
 subst hu; subst hv
 exact ⟨fun e => place_inj ((mem_dd l).2 (List.mem_of_getElem? hi)) ((mem_dd l).2 (List.mem_of_getElem? hj)) e, fun e => by rw [e]⟩
theorem dd_len_snoc (l : List K) (c : K) : (dd (l ++ [c])).length = (dd l).length + if c ∈ l then 0 else 1 := by
 rw [dd_snoc]
 unfold more
 by_cases h : c ∈ l
 ·rw [if_pos ((mem_dd l).2 h), if_pos h]
  rfl
 ·rw [if_neg (fun h1 => h ((mem_dd l).1 h1)), if_neg h]
  simp
theorem dd_le (l : List K) : (dd l).length ≤ l.length := by
 refine snoc_ind (P := fun l => (dd l).length ≤ l.length) (by simp [dd]) (fun l c ih => ?_) l
 rw [dd_len_snoc]
 simp only [List.length_append, List.length_cons, List.length_nil]
 split <;> omega
theorem num_lt {l : List K} {u : Nat} (h : u ∈ num l) : u < (dd l).length := by
 obtain ⟨z, hz, rfl⟩ := List.mem_map.1 h
 exact place_lt.2 ((mem_dd l).2 hz)
end
theorem finer {A B : Type} [DecidableEq A] [DecidableEq B] (l : List (A × B)) (hf : ∀ p ∈ l, ∀ q ∈ l, p.1 = q.1 → p.2 = q.2) :
 (dd (l.map (·.2))).length ≤ (dd (l.map (·.1))).length ∧ ((dd (l.map (·.2))).length = (dd (l.map (·.1))).length → num (l.map (·.1)) = num (l.map (·.2))) := by
 revert hf
 refine snoc_ind (P := fun l : List (A × B) => (∀ p ∈ l, ∀ q ∈ l, p.1 = q.1 → p.2 = q.2) → (dd (l.map (·.2))).length ≤ (dd (l.map (·.1))).length ∧ ((dd (l.map (·.2))).length = (dd (l.map (·.1))).length → num (l.map (·.1)) = num (l.map (·.2)))) (fun _ => ⟨by simp [dd], fun _ => rfl⟩) (fun l x ih hf => ?_) l
 obtain ⟨ih1, ih2⟩ := ih fun p hp q hq => hf p (List.mem_append_left _ hp) q (List.mem_append_left _ hq)
 simp only [List.map_append, List.map_cons, List.map_nil]
 rw [dd_len_snoc, dd_len_snoc, num_snoc, num_snoc]
 by_cases hx : x.1 ∈ l.map (·.1)
 ·obtain ⟨q, hq, hqe⟩ := List.mem_map.1 hx
  have h2 := hf q (List.mem_append_left _ hq) x (List.mem_append_right _ List.mem_cons_self) hqe
  have hy : x.2 ∈ l.map (·.2) := List.mem_map.2 ⟨q, hq, h2⟩
  rw [if_pos hx, if_pos hy]
  refine ⟨by omega, fun e => ?_⟩
  have h3 := ih2 (by omega)
  obtain ⟨i, hi⟩ := List.mem_iff_getElem?.1 hq
  have a1 := num_at (l := l.map (·.1)) (i := i) (x := q.1) (by rw [List.getElem?_map, hi]; rfl)
  have a2 := num_at (l := l.map (·.2)) (i := i) (x := q.2) (by rw [List.getElem?_map, hi]; rfl)
  rw [h3, a2] at a1
  rw [h3, ← hqe, ← h2, Option.some.inj a1]
 ·rw [if_neg hx]
  by_cases hy : x.2 ∈ l.map (·.2)
  ·rw [if_pos hy]
   exact ⟨by omega, fun e => by omega⟩
  ·rw [if_neg hy]
   refine ⟨by omega, fun e => ?_⟩
   have e2 : (dd (l.map (·.2))).length = (dd (l.map (·.1))).length := by omega
   rw [ih2 e2, place_no (fun h => hx ((mem_dd _).1 h)), place_no (fun h => hy ((mem_dd _).1 h)), e2]
theorem num_congr {A B : Type} [DecidableEq A] [DecidableEq B] {a : List A} {b : List B} (hl : a.length = b.length) (h : ∀ (i j : Nat) (x y : A) (u v : B), a[i]? = some x → a[j]? = some y → b[i]? = some u → b[j]? = some v → (x = y ↔ u = v)) : num a = num b := by
 have hz1 : (a.zip b).map (·.1) = a := by rw [List.map_fst_zip (by omega)]
 have hz2 : (a.zip b).map (·.2) = b := by rw [List.map_snd_zip (by omega)]
 have hm : ∀ p ∈ a.zip b, ∃ i : Nat, a[i]? = some p.1 ∧ b[i]? = some p.2 := fun p hp => by
  obtain ⟨i, hi⟩ := List.mem_iff_getElem?.1 hp
  rw [List.getElem?_zip_eq_some] at hi
  exact ⟨i, hi⟩
 have f1 := finer (a.zip b) fun p hp q hq e => by
  obtain ⟨i, hi1, hi2⟩ := hm p hp
  obtain ⟨j, hj1, hj2⟩ := hm q hq
  exact (h i j _ _ _ _ hi1 hj1 hi2 hj2).1 e
 have hb : ∀ (l : List (A × B)), (l.map Prod.swap).map (·.1) = l.map (·.2) ∧ (l.map Prod.swap).map (·.2) = l.map (·.1) := fun l => by simp
 have f2 := finer ((a.zip b).map Prod.swap) fun p hp q hq e => by
  obtain ⟨p', hp', rfl⟩ := List.mem_map.1 hp
  obtain ⟨q', hq', rfl⟩ := List.mem_map.1 hq
  obtain ⟨i, hi1, hi2⟩ := hm p' hp'
  obtain ⟨j, hj1, hj2⟩ := hm q' hq'
  exact (h i j _ _ _ _ hi1 hj1 hi2 hj2).2 e
 rw [(hb _).1, (hb _).2] at f2
 rw [hz1, hz2] at f1 f2
 exact f1.2 (by omega)
theorem num_num {A : Type} [DecidableEq A] (l : List A) : num (num l) = num l := by
 refine num_congr (num_len l) fun i j x y u v hx hy hu hv => ?_
 exact num_eq hu hv hx hy
def Rise (l : List Int) : Prop := l.Pairwise (· < ·)
theorem rise_unique {a b : List Int} (ha : Rise a) (hb : Rise b) (h : ∀ x, x ∈ a ↔ x ∈ b) : a = b := by
 induction a generalizing b with
 | nil =>
   cases b with
   | nil => rfl
   | cons y s => exact absurd ((h y).2 List.mem_cons_self) (by simp)
 | cons x r ih =>
   cases b with
   | nil => exact absurd ((h x).1 List.mem_cons_self) (by simp)
   | cons y s =>
     obtain ⟨hx, hr⟩ := List.pairwise_cons.1 ha
     obtain ⟨hy, hs⟩ := List.pairwise_cons.1 hb
     have e : x = y := by
      rcases List.mem_cons.1 ((h x).1 List.mem_cons_self) with e | h1
      ·exact e
      ·rcases List.mem_cons.1 ((h y).2 List.mem_cons_self) with e | h2
       ·exact e.symm
       ·have := hx y h2; have := hy x h1; omega
     subst e
     congr 1
     refine ih hr hs fun z => ⟨fun hz => ?_, fun hz => ?_⟩
     ·rcases List.mem_cons.1 ((h z).1 (List.mem_cons_of_mem _ hz)) with e | h1
      ·have := hx z hz; omega
      ·exact h1
     ·rcases List.mem_cons.1 ((h z).2 (List.mem_cons_of_mem _ hz)) with e | h1
      ·have := hy z hz; omega
      ·exact h1
def ins (x : Int) : List Int → List Int
 | [] => [x]
 | a :: r => if x < a then x :: a :: r else if a = x then a :: r else a :: ins x r
theorem mem_ins {x y : Int} {l : List Int} : y ∈ ins x l ↔ y = x ∨ y ∈ l := by
 induction l with
 | nil => simp [ins]
 | cons a r ih =>
   unfold ins
   split
   ·simp
   ·split
    ·rename_i h; subst h; simp
    ·simp only [List.mem_cons, ih]
     constructor
     ·rintro (h | h | h) <;> simp [h]
     ·rintro (h | h | h) <;> simp [h]
theorem ins_rise {x : Int} {l : List Int} (h : Rise l) : Rise (ins x l) := by
 induction l with
 | nil => exact List.pairwise_singleton _ _
 | cons a r ih =>
   obtain ⟨ha, hr⟩ := List.pairwise_cons.1 h
   unfold ins
   split
   ·rename_i h1
    exact List.pairwise_cons.2 ⟨fun y hy => by rcases List.mem_cons.1 hy with rfl | hy; exact h1; have := ha y hy; omega, h⟩
   ·split
    ·exact h
    ·rename_i h1 h2
     exact List.pairwise_cons.2 ⟨fun y hy => by rcases mem_ins.1 hy with rfl | hy; omega; exact ha y hy, ih hr⟩
def sd : List Int → List Int
 | [] => []
 | a :: r => ins a (sd r)
theorem mem_sd {x : Int} {l : List Int} : x ∈ sd l ↔ x ∈ l := by
 induction l with
 | nil => simp [sd]
 | cons a r ih => simp [sd, mem_ins, ih]
theorem sd_rise (l : List Int) : Rise (sd l) := by
 induction l with
 | nil => exact List.Pairwise.nil
 | cons a r ih => exact ins_rise ih
theorem sd_of {l m : List Int} (h : Rise m) (hm : ∀ x, x ∈ m ↔ x ∈ l) : m = sd l := rise_unique h (sd_rise l) fun x => (hm x).trans mem_sd.symm
theorem sd_eq {l m : List Int} : sd l = sd m ↔ ∀ x, x ∈ l ↔ x ∈ m := ⟨fun h x => by rw [← mem_sd, h, mem_sd], fun h => sd_of (sd_rise l) fun x => mem_sd.trans (h x)⟩
abbrev St : Type := Int × Int
def cl (c : List Nat) (t : Int) : Nat := (c[t.toNat]?).getD 0
def ends (M : Int) (c : List Nat) (l : List St) : List Int := l.map fun z => z.1 * M + cl c z.2
def leads (c : List Nat) (l : List St) (b : Int) (k : Nat) : Prop := ∃ z ∈ l, z.1 = b ∧ cl c z.2 = k
theorem mul_inj {a b M : Int} {k m : Nat} (hk : (k : Int) < M) (hm : (m : Int) < M) (h : a * M + k = b * M + m) : a = b ∧ k = m := by
 have e : a = b := by
  rcases Int.lt_trichotomy a b with h1 | h1 | h1
  ·have h2 : (a + 1) * M ≤ b * M := Int.mul_le_mul_of_nonneg_right (by omega) (by omega)
   rw [Int.add_mul] at h2; omega
  ·exact h1
  ·have h2 : (b + 1) * M ≤ a * M := Int.mul_le_mul_of_nonneg_right (by omega) (by omega)
   rw [Int.add_mul] at h2; omega
 subst e
 exact ⟨rfl, by omega⟩
theorem ends_eq {M : Int} {c : List Nat} {l m : List St} (h1 : ∀ z ∈ l, (cl c z.2 : Int) < M) (h2 : ∀ z ∈ m, (cl c z.2 : Int) < M) : sd (ends M c l) = sd (ends M c m) ↔ ∀ b k, leads c l b k ↔ leads c m b k := by
 have half : ∀ {l m : List St}, (∀ z ∈ l, (cl c z.2 : Int) < M) → (∀ z ∈ m, (cl c z.2 : Int) < M) → (∀ x, x ∈ ends M c l → x ∈ ends M c m) → ∀ b k, leads c l b k → leads c m b k := fun {l m} h1 h2 h b k hL => by
  obtain ⟨z, hz, rfl, rfl⟩ := hL
  obtain ⟨y, hy, he⟩ := List.mem_map.1 (h _ (List.mem_map.2 ⟨z, hz, rfl⟩))
  obtain ⟨e1, e2⟩ := mul_inj (h2 y hy) (h1 z hz) he
  exact ⟨y, hy, e1, e2⟩
 have back : ∀ {l m : List St}, (∀ b k, leads c l b k → leads c m b k) → ∀ x, x ∈ ends M c l → x ∈ ends M c m := fun {l m} h x hx => by
  obtain ⟨z, hz, rfl⟩ := List.mem_map.1 hx
  obtain ⟨y, hy, e1, e2⟩ := h _ _ ⟨z, hz, rfl, rfl⟩
  exact List.mem_map.2 ⟨y, hy, by rw [e1, e2]⟩
 rw [sd_eq]
 constructor
 ·exact fun h b k => ⟨half h1 h2 (fun x => (h x).1) b k, half h2 h1 (fun x => (h x).2) b k⟩
 ·exact fun h x => ⟨back (fun b k => (h b k).1) x, back (fun b k => (h b k).2) x⟩
def key (out : Nat → List St) (c : List Nat) (i : Nat) : Int × List Int := ((c[i]?).getD 0, sd (ends 1001 c (out i)))
def nx (n : Nat) (out : Nat → List St) (c : List Nat) : List Nat := num ((List.range n).map (key out c))
def rnd (n : Nat) (out : Nat → List St) : Nat → List Nat
 | 0 => List.replicate n 0
 | k + 1 => nx n out (rnd n out k)
theorem nx_len (n : Nat) (out : Nat → List St) (c : List Nat) : (nx n out c).length = n := by simp [nx, num_len]
theorem rnd_len (n : Nat) (out : Nat → List St) (k : Nat) : (rnd n out k).length = n := by
 cases k with
 | zero => simp [rnd]
 | succ k => exact nx_len n out _
theorem nx_lt {n : Nat} {out : Nat → List St} {c : List Nat} {u : Nat} (h : u ∈ nx n out c) : u < n := by
 have h1 := num_lt h
 have h2 := dd_le ((List.range n).map (key out c))
 simp at h2
 omega
theorem rnd_lt {n : Nat} {out : Nat → List St} {k u : Nat} (h : u ∈ rnd n out k) : u < n := by
 cases k with
 | zero => obtain ⟨h1, rfl⟩ := List.mem_replicate.1 h; omega
 | succ k => exact nx_lt h
theorem key_at {n i : Nat} (out : Nat → List St) (c : List Nat) (h : i < n) : ((List.range n).map (key out c))[i]? = some (key out c i) := by
 rw [List.getElem?_map, List.getElem?_range h]; rfl
theorem nx_eq {n : Nat} {out : Nat → List St} {c : List Nat} (hc : c.length = n) (hn : n ≤ 1000) (hlt : ∀ u ∈ c, u < n) {i j u v x y : Nat} (hu : (nx n out c)[i]? = some u) (hv : (nx n out c)[j]? = some v) (hx : c[i]? = some x) (hy : c[j]? = some y) : u = v ↔ x = y ∧ ∀ b k, leads c (out i) b k ↔ leads c (out j) b k := by
 have hi : i < n := by have := (List.getElem?_eq_some_iff.1 hx).1; omega
 have hj : j < n := by have := (List.getElem?_eq_some_iff.1 hy).1; omega
 have hM : ∀ t : Int, (cl c t : Int) < 1001 := fun t => by
  unfold cl
  cases h : c[t.toNat]? with
  | none => simp
  | some w => have := hlt w (List.mem_of_getElem? h); simp; omega
 have h1 := num_eq (key_at out c hi) (key_at out c hj) hu hv
 rw [h1]
 unfold key
 rw [hx, hy, Prod.mk.injEq, ends_eq (fun z _ => hM z.2) (fun z _ => hM z.2)]
 exact and_congr_left fun _ => (by simp only [Option.getD_some]; omega)
theorem rnd_num (n : Nat) (out : Nat → List St) (k : Nat) : num (rnd n out k) = rnd n out k := by
 cases k with
 | zero =>
   show num (List.replicate n 0) = List.replicate n 0
   refine snoc_ind (P := fun l : List Nat => (∀ x ∈ l, x = 0) → num l = l) (fun _ => rfl) (fun l x ih h => ?_) (List.replicate n 0) (fun x hx => (List.mem_replicate.1 hx).2)
   have hx : x = 0 := h x (List.mem_append_right _ List.mem_cons_self)
   subst hx
   have hl : ∀ y ∈ l, y = 0 := fun y hy => h y (List.mem_append_left _ hy)
   rw [num_snoc, ih hl]
   congr 2
   by_cases h0 : (0 : Nat) ∈ dd l
   ·have hlen : (dd l).length ≤ 1 := by
     clear ih h
     refine snoc_ind (P := fun l : List Nat => (∀ x ∈ l, x = 0) → (dd l).length ≤ 1) (fun _ => by simp [dd]) (fun l x ih h => ?_) l hl
     have h1 := ih fun y hy => h y (List.mem_append_left _ hy)
     rw [dd_len_snoc]
     split
     ·omega
     ·rename_i hx
      have : l = [] := by
       cases l with
       | nil => rfl
       | cons y s => exact absurd (by rw [h x (List.mem_append_right _ List.mem_cons_self), ← h y List.mem_cons_self]; exact List.mem_cons_self) hx
      subst this
      simp [dd]
    have := place_lt.2 h0
    omega
   ·rw [place_no h0]
    cases l with
    | nil => simp [dd]
    | cons y s => exact absurd ((mem_dd _).2 (by rw [← hl y List.mem_cons_self]; exact List.mem_cons_self)) h0
 | succ k => exact num_num _
theorem nx_stop {n : Nat} {out : Nat → List St} {c : List Nat} (hc : c.length = n) (hnum : num c = c) : (dd c).length ≤ (dd (nx n out c)).length ∧ ((dd c).length = (dd (nx n out c)).length → nx n out c = c) := by
 have hf := finer ((nx n out c).zip c) fun p hp q hq e => by
  obtain ⟨i, hi⟩ := List.mem_iff_getElem?.1 hp
  obtain ⟨j, hj⟩ := List.mem_iff_getElem?.1 hq
  rw [List.getElem?_zip_eq_some] at hi hj
  have hil : i < n := by have := (List.getElem?_eq_some_iff.1 hi.2).1; omega
  have hjl : j < n := by have := (List.getElem?_eq_some_iff.1 hj.2).1; omega
  have h1 := (num_eq (key_at out c hil) (key_at out c hjl) hi.1 hj.1).1 e
  have h2 := (Prod.mk.injEq .. ▸ h1 : _ ∧ _).1
  rw [hi.2, hj.2] at h2
  simp only [Option.getD_some] at h2
  omega
 rw [List.map_fst_zip (by rw [nx_len, hc]; exact Nat.le_refl _), List.map_snd_zip (by rw [nx_len, hc]; exact Nat.le_refl _)] at hf
 refine ⟨hf.1, fun e => ?_⟩
 have h1 := hf.2 e
 rw [hnum] at h1
 have h2 : num (nx n out c) = nx n out c := num_num _
 rw [← h2, h1]
theorem rnd_stop {n : Nat} {out : Nat → List St} {k : Nat} (h : (dd (rnd n out k)).length = (dd (rnd n out (k + 1))).length) : rnd n out (k + 1) = rnd n out k := (nx_stop (rnd_len n out k) (rnd_num n out k)).2 h
theorem rnd_grow {n : Nat} {out : Nat → List St} {k : Nat} (hn : 0 < n) (h : ∀ j, j < k → rnd n out (j + 1) ≠ rnd n out j) : k + 1 ≤ (dd (rnd n out k)).length := by
 induction k with
 | zero =>
   have : (0 : Nat) ∈ dd (rnd n out 0) := (mem_dd _).2 (List.mem_replicate.2 ⟨by omega, rfl⟩)
   exact List.length_pos_of_mem this
 | succ k ih =>
   have h1 := ih fun j hj => h j (by omega)
   have h2 := (nx_stop (out := out) (rnd_len n out k) (rnd_num n out k)).1
   have h3 : (dd (rnd n out k)).length ≠ (dd (rnd n out (k + 1))).length := fun e => h k (by omega) (rnd_stop e)
   show k + 1 + 1 ≤ (dd (rnd n out (k + 1))).length
   have h4 : (dd (rnd n out k)).length ≤ (dd (rnd n out (k + 1))).length := h2
   omega
def Last (n : Nat) (out : Nat → List St) (R : Nat) : Prop := rnd n out (R + 1) = rnd n out R ∧ ∀ j, j < R → rnd n out (j + 1) ≠ rnd n out j
theorem changes_lt {n : Nat} {out : Nat → List St} {k : Nat} (h : ∀ j, j < k → rnd n out (j + 1) ≠ rnd n out j) : k < max n 1 := by
 by_cases hn : 0 < n
 ·have h1 := rnd_grow hn h
  have h2 := dd_le (rnd n out k)
  rw [rnd_len] at h2
  omega
 ·obtain rfl : n = 0 := by omega
  rcases Nat.eq_zero_or_pos k with rfl | hk
  ·simp
  ·exact absurd (by rw [List.length_eq_zero_iff.1 (rnd_len 0 out (0 + 1)), List.length_eq_zero_iff.1 (rnd_len 0 out 0)]) (h 0 hk)
theorem Last.lt {n : Nat} {out : Nat → List St} {R : Nat} (h : Last n out R) : R < max n 1 := changes_lt h.2
theorem exists_last (n : Nat) (out : Nat → List St) : ∃ R, Last n out R := by
 have h : ∀ f k, k + f = max n 1 → (∀ j, j < k → rnd n out (j + 1) ≠ rnd n out j) → ∃ R, Last n out R := fun f => by
  induction f with
  | zero => intro k hk hc; have := changes_lt hc; omega
  | succ f ih =>
    intro k hk hc
    by_cases e : rnd n out (k + 1) = rnd n out k
    ·exact ⟨k, e, hc⟩
    ·exact ih (k + 1) (by omega) fun j hj => by
      rcases Nat.lt_or_ge j k with h1 | h1
      ·exact hc j h1
      ·obtain rfl : j = k := by omega
       exact e
 exact h (max n 1) 0 (by omega) fun j hj => by omega
theorem Last.unique {n : Nat} {out : Nat → List St} {R S : Nat} (h : Last n out R) (k : Last n out S) : R = S := by
 rcases Nat.lt_trichotomy R S with h1 | h1 | h1
 ·exact absurd h.1 (k.2 R h1)
 ·exact h1
 ·exact absurd k.1 (h.2 S h1)
def rounds (n : Nat) (out : Nat → List St) (k : Nat) : List (List Nat) := (List.range k).map (rnd n out)
def rankG (n : Nat) (out : Nat → List St) (p q : Nat) (k : Nat) : Nat → Int
 | 0 => -1
 | f + 1 => if (rnd n out k)[p]? = (rnd n out k)[q]? then rankG n out p q (k + 1) f else k
def rank (n : Nat) (out : Nat → List St) (R p q : Nat) : Int := rankG n out p q 0 (R + 1)
end Go.Proofs.YtkiapldehlnndaaGreatDoor.Ro
/- The text of a state's signature: no two signatures have one. What slices.Compact leaves of numbers in order. Nothing of the program is in it. -/
namespace Go.Proofs.YtkiapldehlnndaaGreatDoor.Ro
open Go.Lib
def val (l : List UInt8) : Nat := l.foldl (fun a b => a * 10 + (b.toNat - 48)) 0
def words (es : List Int) : List UInt8 := es.flatMap fun e => 32 :: itoa e
def sigL (c : Int) (es : List Int) : List UInt8 := itoa c ++ words es
theorem sd_len (l : List Int) : (sd l).length ≤ l.length := by
 have hi : ∀ x l, (ins x l).length ≤ l.length + 1 := fun x l => by
  induction l with
  | nil => simp [ins]
  | cons a r ih => unfold ins; split <;> (try split) <;> simp <;> omega
 induction l with
 | nil => simp [sd]
 | cons a r ih => have := hi a (sd r); simp only [sd, List.length_cons]; omega
end Go.Proofs.YtkiapldehlnndaaGreatDoor.Ro
/- Plain facts on edges, their order and one form of their lists; on classes and their one form. Nothing of the program is in it. -/
namespace Go.Proofs.YtkiapldehlnndaaGreatDoor.Sy
abbrev Ed : Type := Int × Int × Int
def lt (a b : Ed) : Bool := if a.1 != b.1 then decide (a.1 < b.1) else if a.2.1 != b.2.1 then decide (a.2.1 < b.2.1) else decide (a.2.2 < b.2.2)
theorem lt_iff (a b : Ed) : lt a b = true ↔ a.1 < b.1 ∨ a.1 = b.1 ∧ (a.2.1 < b.2.1 ∨ a.2.1 = b.2.1 ∧ a.2.2 < b.2.2) := by
 unfold lt
 by_cases h1 : a.1 = b.1
 ·by_cases h2 : a.2.1 = b.2.1 <;> simp [h1, h2]
 ·simp [h1]
theorem lt_irrefl (a : Ed) : lt a a = false := by
 cases h : lt a a with
 | false => rfl
 | true => rw [lt_iff] at h; omega
theorem lt_trans {a b c : Ed} (h1 : lt a b = true) (h2 : lt b c = true) : lt a c = true := by
 rw [lt_iff] at *; omega
theorem lt_asymm {a b : Ed} (h : lt a b = true) : lt b a = false := by
 cases h2 : lt b a with
 | false => rfl
 | true => rw [lt_iff] at h h2; omega
theorem eq_of_not {a b : Ed} (h1 : lt a b = false) (h2 : lt b a = false) : a = b := by
 have h3 : ¬ lt a b = true := by rw [h1]; simp
 have h4 : ¬ lt b a = true := by rw [h2]; simp
 rw [lt_iff] at h3 h4
 obtain ⟨x, y, z⟩ := a
 obtain ⟨u, v, w⟩ := b
 simp only at h3 h4
 have e1 : x = u := by omega
 have e2 : y = v := by omega
 have e3 : z = w := by omega
 rw [e1, e2, e3]
def Str : List Ed → Prop
 | [] => True
 | [_] => True
 | a :: b :: r => lt a b = true ∧ Str (b :: r)
theorem Str.tail {a : Ed} {r : List Ed} (h : Str (a :: r)) : Str r := by
 cases r with
 | nil => trivial
 | cons b s => exact h.2
theorem Str.head {a : Ed} {r : List Ed} (h : Str (a :: r)) : ∀ x ∈ r, lt a x = true := by
 induction r generalizing a with
 | nil => intro x hx; simp at hx
 | cons b s ih =>
   intro x hx
   rcases List.mem_cons.1 hx with rfl | hx
   ·exact h.1
   ·exact lt_trans h.1 (ih h.2 x hx)
theorem Str.cons {a : Ed} {r : List Ed} (h : Str r) (h2 : ∀ x ∈ r, lt a x = true) : Str (a :: r) := by
 cases r with
 | nil => trivial
 | cons b s => exact ⟨h2 b List.mem_cons_self, h⟩
theorem Str.snoc {l : List Ed} {x : Ed} (h : Str l) (h2 : ∀ y ∈ l, lt y x = true) : Str (l ++ [x]) := by
 induction l with
 | nil => trivial
 | cons a r ih =>
   refine Str.cons (ih h.tail fun y hy => h2 y (List.mem_cons_of_mem _ hy)) fun y hy => ?_
   rcases List.mem_append.1 hy with hy | hy
   ·exact h.head y hy
   ·rw [List.mem_singleton.1 hy]; exact h2 a List.mem_cons_self
theorem Str.unique {l m : List Ed} (hl : Str l) (hm : Str m) (h : ∀ x, x ∈ l ↔ x ∈ m) : l = m := by
 induction l generalizing m with
 | nil =>
   cases m with
   | nil => rfl
   | cons b s => exact absurd ((h b).2 List.mem_cons_self) (by simp)
 | cons a r ih =>
   cases m with
   | nil => exact absurd ((h a).1 List.mem_cons_self) (by simp)
   | cons b s =>
     have e : a = b := by
      rcases List.mem_cons.1 ((h a).1 List.mem_cons_self) with e | ha
      ·exact e
      ·rcases List.mem_cons.1 ((h b).2 List.mem_cons_self) with e | hb
       ·exact e.symm
       ·have h1 := hm.head a ha
        have h2 := hl.head b hb
        rw [lt_asymm h1] at h2
        cases h2
     subst e
     congr 1
     refine ih hl.tail hm.tail fun x => ⟨fun hx => ?_, fun hx => ?_⟩
     ·rcases List.mem_cons.1 ((h x).1 (List.mem_cons_of_mem _ hx)) with e | hx2
      ·subst e; have h1 := hl.head x hx; rw [lt_irrefl] at h1; cases h1
      ·exact hx2
     ·rcases List.mem_cons.1 ((h x).2 (List.mem_cons_of_mem _ hx)) with e | hx2
      ·subst e; have h1 := hm.head x hx; rw [lt_irrefl] at h1; cases h1
      ·exact hx2
def ins (x : Ed) : List Ed → List Ed
 | [] => [x]
 | a :: r => if lt x a then x :: a :: r else if lt a x then a :: ins x r else a :: r
theorem ins_mem (x y : Ed) (l : List Ed) : y ∈ ins x l ↔ y = x ∨ y ∈ l := by
 induction l with
 | nil => simp [ins]
 | cons a r ih =>
   unfold ins
   cases h1 : lt x a with
   | true => simp
   | false =>
     cases h2 : lt a x with
     | true =>
       simp only [Bool.false_eq_true, if_false, if_true, List.mem_cons, ih]
       constructor
       ·rintro (h | h | h) <;> simp [h]
       ·rintro (h | h | h) <;> simp [h]
     | false =>
       have e := eq_of_not h1 h2
       subst e
       simp
theorem ins_str (x : Ed) (l : List Ed) (h : Str l) : Str (ins x l) := by
 induction l with
 | nil => trivial
 | cons a r ih =>
   unfold ins
   cases h1 : lt x a with
   | true => exact ⟨h1, h⟩
   | false =>
     cases h2 : lt a x with
     | true =>
       simp only [Bool.false_eq_true, if_false, if_true]
       refine Str.cons (ih h.tail) fun y hy => ?_
       rcases (ins_mem x y r).1 hy with rfl | hy
       ·exact h2
       ·exact h.head y hy
     | false => exact h
def nf : List Ed → List Ed
 | [] => []
 | a :: r => ins a (nf r)
theorem nf_mem (l : List Ed) (x : Ed) : x ∈ nf l ↔ x ∈ l := by
 induction l with
 | nil => simp [nf]
 | cons a r ih => simp [nf, ins_mem, ih]
theorem nf_str (l : List Ed) : Str (nf l) := by
 induction l with
 | nil => trivial
 | cons a r ih => exact ins_str a _ ih
theorem nf_of {l m : List Ed} (h : Str m) (hm : ∀ x, x ∈ m ↔ x ∈ l) : m = nf l := h.unique (nf_str l) fun x => (hm x).trans (nf_mem l x).symm
theorem ins_len (x : Ed) (l : List Ed) : (ins x l).length ≤ l.length + 1 := by
 induction l with
 | nil => simp [ins]
 | cons a r ih =>
   unfold ins
   cases h1 : lt x a <;> cases h2 : lt a x <;> simp <;> omega
theorem nf_len (l : List Ed) : (nf l).length ≤ l.length := by
 induction l with
 | nil => simp [nf]
 | cons a r ih => have := ins_len a (nf r); simp only [nf, List.length_cons]; omega
theorem str_len {m l : List Ed} (h : Str m) (hs : ∀ x ∈ m, x ∈ l) : m.length ≤ l.length := by
 have e : m = nf m := nf_of h fun _ => Iff.rfl
 induction m generalizing l with
 | nil => simp
 | cons a r ih =>
   have ha := hs a List.mem_cons_self
   have h1 : r.length ≤ (l.erase a).length := by
    refine ih h.tail (fun x hx => ?_) (nf_of h.tail fun _ => Iff.rfl)
    have h2 := h.head x hx
    have hne : x ≠ a := fun e => by rw [e, lt_irrefl] at h2; cases h2
    exact (List.mem_erase_of_ne hne).2 (hs x (List.mem_cons_of_mem _ hx))
   rw [List.length_erase_of_mem ha] at h1
   have := List.length_pos_of_mem ha
   simp only [List.length_cons]
   omega
def put (out : List Ed) (e : Ed) : List Ed := if out.getLast? = some e then out else out ++ [e]
theorem put_str {out : List Ed} {e : Ed} (h : Str out) (hle : ∀ x ∈ out, lt e x = false) : Str (put out e) := by
 unfold put
 split
 ·exact h
 ·rename_i hne
  refine h.snoc fun y hy => ?_
  have hys : ∀ (l : List Ed) (z : Ed), Str l → l.getLast? = some z → ∀ y ∈ l, y = z ∨ lt y z = true := fun l => by
   induction l with
   | nil => intro z _ hz; simp at hz
   | cons a r ih =>
     intro z hs hz y hy
     cases r with
     | nil => simp at hz hy; subst hz; exact .inl hy
     | cons b s =>
       rw [List.getLast?_cons_cons] at hz
       rcases List.mem_cons.1 hy with rfl | hy
       ·have hzm := List.mem_of_getLast? hz
        exact .inr (hs.head z hzm)
       ·exact ih z hs.tail hz y hy
  cases hl : out.getLast? with
  | none => rw [List.getLast?_eq_none_iff] at hl; subst hl; simp at hy
  | some z =>
    have hzm := List.mem_of_getLast? hl
    have hz1 : lt z e = true := by
     cases h1 : lt z e with
     | true => rfl
     | false => exact absurd (by rw [hl, eq_of_not h1 (hle z hzm)]) hne
    rcases hys out z h hl y hy with rfl | h2
    ·exact hz1
    ·exact lt_trans h2 hz1
theorem put_mem (out : List Ed) (e x : Ed) : x ∈ put out e ↔ x ∈ out ∨ x = e := by
 unfold put
 split
 ·rename_i h
  have := List.mem_of_getLast? h
  constructor
  ·exact .inl
  ·rintro (h | rfl)
   ·exact h
   ·exact this
 ·simp
structure Mg (a b : List Ed) (i k : Nat) (out : List Ed) : Prop where
 s : Str out
 m : ∀ x, x ∈ out ↔ x ∈ a.take i ∨ x ∈ b.take k
 ha : ∀ x ∈ out, ∀ y ∈ a.drop i, lt y x = false
 hb : ∀ x ∈ out, ∀ y ∈ b.drop k, lt y x = false
theorem Mg.start (a b : List Ed) : Mg a b 0 0 [] := ⟨trivial, fun x => by simp, fun x hx => by simp at hx, fun x hx => by simp at hx⟩
theorem Mg.swap {a b : List Ed} {i k : Nat} {out : List Ed} (h : Mg a b i k out) : Mg b a k i out := ⟨h.s, fun x => (h.m x).trans or_comm, h.hb, h.ha⟩
theorem Mg.left {a b : List Ed} {i k : Nat} {out : List Ed} (h : Mg a b i k out) (hsa : Str a) (hsb : Str b) {e : Ed} (he : a[i]? = some e) (hk : ∀ f, b[k]? = some f → lt f e = false) : Mg a b (i + 1) k (put out e) := by
 obtain ⟨hl, rfl⟩ := List.getElem?_eq_some_iff.1 he
 have hd : a.drop i = a[i] :: a.drop (i + 1) := List.drop_eq_getElem_cons hl
 have hstr : ∀ (l : List Ed) (n : Nat), Str l → Str (l.drop n) := fun l n hs => by
  induction n generalizing l with
  | zero => exact hs
  | succ n ih =>
    cases l with
    | nil => exact hs
    | cons c r => exact ih r hs.tail
 have h1 : Str (a[i] :: a.drop (i + 1)) := by rw [← hd]; exact hstr a i hsa
 have hbk : ∀ y ∈ b.drop k, lt y a[i] = false := fun y hy => by
  cases hb : b.drop k with
  | nil => rw [hb] at hy; simp at hy
  | cons f r =>
    have hkl : k < b.length := by
     rcases Nat.lt_or_ge k b.length with h2 | h2
     ·exact h2
     ·rw [List.drop_eq_nil_of_le h2] at hb; cases hb
    have hf : f = b[k] := by rw [List.drop_eq_getElem_cons hkl] at hb; exact (List.cons.inj hb).1.symm
    have h2 := hk f (by rw [hf]; exact List.getElem?_eq_getElem hkl)
    have h3 : Str (f :: r) := by rw [← hb]; exact hstr b k hsb
    rw [hb] at hy
    rcases List.mem_cons.1 hy with rfl | hy
    ·exact h2
    ·cases h4 : lt y a[i] with
     | false => rfl
     | true => have h5 := lt_trans (h3.head y hy) h4; rw [h2] at h5; cases h5
 have hout : ∀ x ∈ out, lt a[i] x = false := fun x hx => h.ha x hx _ (by rw [hd]; exact List.mem_cons_self)
 refine ⟨put_str h.s hout, fun x => ?_, fun x hx y hy => ?_, fun x hx y hy => ?_⟩
 ·rw [put_mem, h.m, List.take_succ_eq_append_getElem hl]
  simp only [List.mem_append, List.mem_singleton]
  constructor
  ·rintro ((h | h) | h) <;> simp [h]
  ·rintro ((h | h) | h) <;> simp [h]
 ·rcases (put_mem _ _ _).1 hx with hx | rfl
  ·exact h.ha x hx y (by rw [hd]; exact List.mem_cons_of_mem _ hy)
  ·exact lt_asymm (h1.head y hy)
 ·rcases (put_mem _ _ _).1 hx with hx | rfl
  ·exact h.hb x hx y hy
  ·exact hbk y hy
def right (n k s : Int) (es : List Ed) : Bool :=
 decide (0 ≤ n ∧ n ≤ 1000 ∧ 1 ≤ k ∧ k ≤ 201 ∧ es.length ≤ 10000) && decide ((n = 0 → s = 0) ∧ (0 < n → 0 ≤ s ∧ s < n)) && es.all fun e => decide (0 ≤ e.1 ∧ e.1 < n ∧ 0 ≤ e.2.2 ∧ e.2.2 < n ∧ 0 ≤ e.2.1 ∧ e.2.1 < k)
def turn (e : Ed) : Ed := (e.2.2, e.2.1, e.1)
def place (c : Int) : List Int → Nat
 | [] => 0
 | a :: r => if a = c then 0 else place c r + 1
theorem place_le (c : Int) (l : List Int) : place c l ≤ l.length := by
 induction l with
 | nil => simp [place]
 | cons a r ih => unfold place; split <;> simp <;> omega
def canonG : List Int → List Int → List Nat
 | _, [] => []
 | seen, c :: r => place c seen :: canonG (if place c seen < seen.length then seen else seen ++ [c]) r
def canon (l : List Int) : List Nat := canonG [] l
def seenG : List Int → List Int → List Int
 | seen, [] => seen
 | seen, c :: r => seenG (if place c seen < seen.length then seen else seen ++ [c]) r
theorem canonG_len (l : List Int) : ∀ seen, (canonG seen l).length = l.length := by
 induction l with
 | nil => intro _; rfl
 | cons c r ih => intro seen; simp [canonG, ih]
theorem canonG_app (a b : List Int) : ∀ seen, canonG seen (a ++ b) = canonG seen a ++ canonG (seenG seen a) b := by
 induction a with
 | nil => intro _; rfl
 | cons c r ih => intro seen; simp only [List.cons_append, canonG, seenG]; rw [ih]
theorem seenG_app (a b : List Int) : ∀ seen, seenG seen (a ++ b) = seenG (seenG seen a) b := by
 induction a with
 | nil => intro _; rfl
 | cons c r ih => intro seen; simp only [List.cons_append, seenG]; rw [ih]
theorem seenG_len (l : List Int) : ∀ seen, (seenG seen l).length ≤ seen.length + l.length := by
 induction l with
 | nil => intro _; simp [seenG]
 | cons c r ih =>
   intro seen
   simp only [seenG]
   have h1 := ih (if place c seen < seen.length then seen else seen ++ [c])
   have h2 : (if place c seen < seen.length then seen else seen ++ [c]).length ≤ seen.length + 1 := by split <;> simp
   simp only [List.length_cons]
   omega
def top : List Nat → Nat
 | [] => 0
 | k :: r => max (k + 1) (top r)
def together (l : List Int) : Nat := top (canon l)
def formG : Nat → List Int → Bool
 | _, [] => true
 | n, c :: r => decide (0 ≤ c ∧ c ≤ n) && formG (if c = (n : Int) then n + 1 else n) r
end Go.Proofs.YtkiapldehlnndaaGreatDoor.Sy
/- 'append(nil, x...)' of any list, nil too: a row of one's own. (A law of my own, over the library's own laws on append.) -/
namespace Go.Proofs.YtkiapldehlnndaaGreatDoor
open Go.RowKit
theorem run_copy_at {P : Program} (w : World) (base : Nat) (t ty e : TypeId) (i : TypeInfo) (z : Value) (size bytes : Nat) (ht : P.underlying t = some (.slice e)) (hi : P.info? e = some i) (hz : i.zero = some z)
 (hsize : i.size = size) (hby : i.bytes = bytes) (hzs : z.cells.size = size) (hsz : 0 < size) (ao : Option Addr) (m c : Nat) (news : List Value) (hao : ao = none → m = 0) (hl : news.length = m * size)
 (hnews : ∀ ad, ao = some ad → ∀ j u, news[j]? = some u → w.cell? (ad.add j) = some u) (h1 : ∀ u ∈ news, u.oneCell' = true) (h63 : m ≤ maxLen) (hbytes : m * bytes ≤ 140737488355328) (hbase : base ≤ w.heap.size) :
 ∃ v' w', (Builtin.append_ #[t, t] ty #[.slice none 0 0, .slice ao m c]).run P w = .ok v' w' ∧ w'.ownsRow base e size v' m news ∧ w.grownBy w' (Value.slice none 0 0).ownBlock ∧ (v'.ownBlock = none ∨ v'.ownBlock = some w.heap.size) := by
 cases ao with
 | none =>
   obtain rfl := hao rfl
   obtain rfl : news = [] := List.eq_nil_of_length_eq_zero (by simpa using hl)
   refine ⟨.slice none 0 0, w, ?_, World.ownsRow_nil w base e size, ⟨rfl, rfl, rfl, Nat.le_refl _, fun _ _ _ => rfl⟩, Or.inl rfl⟩
   simp [Builtin.append_, run_underlying ht, sizeOf, typeInfo, hi, Builtin.lenOf, Builtin.firstCells]
 | some ad =>
   obtain ⟨v', w', hr, h2, h3, h4, h5⟩ := run_append_own_at (P := P) w base t ty e i z size bytes ht hi hz hsize hby hzs hsz (.slice none 0 0) 0 [] (World.ownsRow_nil _ _ _ _) ad m c news hl (hnews ad rfl) h1 (by simpa using h63) (by simpa using hbytes) hbase
   refine ⟨v', w', hr, by simpa using h2, h3, h5⟩
theorem wpList_copy_at {P : Program} (w : World) {ops : Array Oper} {rest : List Oper} {o : Oper} {a : Act} {Q : Exit → Act → World → Prop} (hgd : o.guard = none) (s x : Operand) (t : TypeId)
 (ho : o.op = .call { callee := .builtin .append, args := #[s, x], argTypes := #[t, t] })
 (base : Nat) (e : TypeId) (i : TypeInfo) (z : Value) (size bytes : Nat) (ht : P.underlying t = some (.slice e)) (hi : P.info? e = some i) (hz : i.zero = some z)
 (hsize : i.size = size) (hby : i.bytes = bytes) (hzs : z.cells.size = size) (hsz : 0 < size) (hs : a.eval s = .slice none 0 0)
 (ao : Option Addr) (m c : Nat) (news : List Value) (hx : a.eval x = .slice ao m c) (hao : ao = none → m = 0) (hl : news.length = m * size) (hnews : ∀ ad, ao = some ad → ∀ j u, news[j]? = some u → w.cell? (ad.add j) = some u) (h1 : ∀ u ∈ news, u.oneCell' = true)
 (h63 : m ≤ maxLen) (hbytes : m * bytes ≤ 140737488355328) (hbase : base ≤ w.heap.size)
 (h : ∀ v' w', w'.ownsRow base e size v' m news → w.grownBy w' (Value.slice none 0 0).ownBlock → (v'.ownBlock = none ∨ v'.ownBlock = some w.heap.size) → wpList P ops Q rest (a.put o.dst v') w') :
 wpList P ops Q (o :: rest) a w := by
 refine wpList_plain hgd fun K hK => ?_
 obtain ⟨v', w', hr, h2, h3, h4⟩ := run_copy_at (P := P) w base t o.type e i z size bytes ht hi hz hsize hby hzs hsz ao m c news hao hl hnews h1 h63 hbytes hbase
 unfold Oper.wp execOp
 simp only [ho, resolve, invoke, builtin, Sem.run_bind, Sem.run_pure, Result.andThen_ok, List.map_toArray, List.map_cons, List.map_nil, hs, hx, hr]
 exact hK _ _ (h v' w' h2 h3 h4)
end Go.Proofs.YtkiapldehlnndaaGreatDoor
/- Lemmas on memory that all texts share: rows of one's own, what stands, lists of numbers. -/
namespace Go.Proofs.YtkiapldehlnndaaGreatDoor
open Go.RowKit Go.Maps
theorem t_lt {w : World} {b : Nat} {o : Obj} (h : w.heap[b]? = some o) : b < w.heap.size := (Array.getElem?_eq_some_iff.1 h).1
theorem cell_up {w W : World} {b o : Nat} {v : Value} (hc : w.cell? ⟨b, o, none⟩ = some v) (hb : Below w.heap.size w W) : W.cell? ⟨b, o, none⟩ = some v := (hb.cell (World.block_lt_of_cell? w _ hc)).trans hc
theorem blk_free {w : World} {b : Nat} {cs : Array Value} {t : TypeId} (h : w.heap[b]? = some (.cells cs t (0, 0))) (k : Nat) : w.frozen? ⟨b, k, none⟩ = false := by simp [World.frozen?, h]
theorem cell0_of {w : World} {b : Nat} {cs : Array Value} {ty : TypeId} {v : Value} {k : Nat} (h : w.heap[b]? = some (.cells cs ty (0, 0))) (h0 : cs[k]? = some v) : w.cell? ⟨b, k, none⟩ = some v := by simp [World.cell?, h, h0]
theorem addz (g i : Nat) : (⟨g, 0, none⟩ : Addr).add i = ⟨g, i, none⟩ := by unfold Addr.add; split <;> simp_all
theorem set_other (w : World) (b o i : Nat) (u : Value) (h : i ≠ b) : (w.setCell ⟨b, o, none⟩ u).heap[i]? = w.heap[i]? := by
 simp only [World.setCell]
 rw [Array.getElem?_modify, if_neg (fun e => h e.symm)]
theorem row_shape {w : World} {base : Nat} {e : TypeId} {size : Nat} {v : Value} {n : Nat} {xs : List Value} (h : w.ownsRow base e size v n xs) : ∃ ao cap, v = .slice ao n cap := by
 rcases h.2 with ⟨rfl, h0⟩ | ⟨g, cap, cur, rfl, _⟩
 ·exact ⟨none, 0, by rw [h0]⟩
 ·exact ⟨_, _, rfl⟩
theorem trow_at {w w' : World} {base : Nat} {e : TypeId} {size : Nat} {v : Value} {n : Nat} {xs : List Value} (h : w.ownsRow base e size v n xs) (hb : ∀ i, v.ownBlock = some i → w'.heap[i]? = w.heap[i]?) : w'.ownsRow base e size v n xs := by
 refine ⟨h.1, ?_⟩
 rcases h.2 with h2 | ⟨g, cap, cur, rfl, h3, hg, h4⟩
 ·exact .inl h2
 ·exact .inr ⟨g, cap, cur, rfl, h3, by rw [hb g rfl]; exact hg, h4⟩
theorem row_base {w : World} {base base' : Nat} {e : TypeId} {size : Nat} {v : Value} {n : Nat} {xs : List Value} (h : w.ownsRow base e size v n xs) (hb : base' ≤ base) : w.ownsRow base' e size v n xs := by
 refine ⟨h.1, ?_⟩
 rcases h.2 with h2 | ⟨g, cap, cur, rfl, h3, hg, h4⟩
 ·exact .inl h2
 ·exact .inr ⟨g, cap, cur, rfl, by omega, hg, h4⟩
theorem tgrown0 {w w1 : World} (hg : w.grownBy w1 (Value.slice none 0 0).ownBlock) : Below w.heap.size w w1 := ⟨hg.os, hg.tape, hg.output, hg.size, fun k hk => hg.block k hk (by simp [Value.ownBlock])⟩
theorem row_cells {w : World} {base : Nat} {e : TypeId} {size : Nat} {v : Value} {n : Nat} {xs : List Value} (h : w.ownsRow base e size v n xs) {i : Nat} (hi : v.ownBlock = some i) : ∃ c, w.heap[i]? = some (.cells c e (0, 0)) := by
 rcases h.2 with ⟨rfl, _⟩ | ⟨g, cap, cur, rfl, _, hg, _⟩
 ·cases hi
 ·simp only [Value.ownBlock, Option.some.injEq] at hi
  exact ⟨cur, hi ▸ hg⟩
structure Kept (F : Nat → Prop) (w w' : World) : Prop where
 os : w'.os = w.os
 tape : w'.tape = w.tape
 output : w'.output = w.output
 size : w.heap.size ≤ w'.heap.size
 block : ∀ k, k < w.heap.size → ¬ F k → w'.heap[k]? = w.heap[k]?
theorem Kept.refl (F : Nat → Prop) (w : World) : Kept F w w := ⟨rfl, rfl, rfl, Nat.le_refl _, fun _ _ _ => rfl⟩
theorem Kept.trans {F : Nat → Prop} {a b c : World} (h : Kept F a b) (k : Kept F b c) : Kept F a c :=
 ⟨k.os.trans h.os, k.tape.trans h.tape, k.output.trans h.output, Nat.le_trans h.size k.size, fun i hi hf => (k.block i (Nat.lt_of_lt_of_le hi h.size) hf).trans (h.block i hi hf)⟩
theorem Kept.mono {F G : Nat → Prop} {a b : World} (h : Kept F a b) (hs : ∀ k, k < a.heap.size → F k → G k) : Kept G a b := ⟨h.os, h.tape, h.output, h.size, fun i hi hg => h.block i hi fun hf => hg (hs i hi hf)⟩
theorem Kept.of_below {F : Nat → Prop} {a b : World} (h : Below a.heap.size a b) : Kept F a b := ⟨h.os, h.tape, h.output, h.size, fun i hi _ => h.block i hi⟩
theorem Kept.of_grown {a b : World} {row : Option Nat} (h : a.grownBy b row) : Kept (fun i => row = some i) a b := ⟨h.os, h.tape, h.output, h.size, fun i hi hn => h.block i hi fun e => hn e.symm⟩
theorem Kept.below {F : Nat → Prop} {a b : World} (h : Kept F a b) {B : Nat} (hB : B ≤ a.heap.size) (hF : ∀ k, F k → B ≤ k) : Below B a b := ⟨h.os, h.tape, h.output, h.size, fun i hi => h.block i (by omega) fun hf => by have := hF i hf; omega⟩
theorem Kept.setCell (a : World) (b o : Nat) (u : Value) : Kept (fun i => i = b) a (a.setCell ⟨b, o, none⟩ u) := by
 have h : Below b a (a.setCell ⟨b, o, none⟩ u) := Below.setCell (Below.refl b a) (Nat.le_refl _) u
 exact ⟨h.os, h.tape, h.output, h.size, fun i _ hn => set_other _ _ _ _ _ hn⟩
theorem Kept.trans2 {F G : Nat → Prop} {a b c : World} (h : Kept F a b) (k : Kept G b c) (hG : ∀ i, G i → F i ∨ a.heap.size ≤ i) : Kept F a c :=
 ⟨k.os.trans h.os, k.tape.trans h.tape, k.output.trans h.output, Nat.le_trans h.size k.size, fun i hi hf => (k.block i (Nat.lt_of_lt_of_le hi h.size) fun hg => (hG i hg).elim hf fun h => by omega).trans (h.block i hi hf)⟩
theorem below_of_drew3 {w w1 : World} (h : Below w.drew.heap.size w.drew w1) : Below w.heap.size w w1 := (Below.refl _ w).drew.trans h
def HasI (w : World) (v : Value) (zs : List Int) : Prop := ∃ ao cap, v = .slice ao zs.length cap ∧ ∀ (i : Nat) (z : Int), zs[i]? = some z → ∃ a, ao = some a ∧ w.cell? (a.add i) = some (.int .i64 z)
theorem HasI.below {w w' : World} {v : Value} {zs : List Int} (h : HasI w v zs) (hb : Below w.heap.size w w') : HasI w' v zs := by
 obtain ⟨ao, cap, h1, h2⟩ := h
 refine ⟨ao, cap, h1, fun i p hi => ?_⟩
 obtain ⟨a, ha, c0⟩ := h2 i p hi
 exact ⟨a, ha, (hb.cell (World.block_lt_of_cell? w _ c0)).trans c0⟩
def iC (zs : List Int) : List Value := zs.map (Value.int .i64)
theorem iC_length (zs : List Int) : (iC zs).length = zs.length * 1 := by simp [iC]
theorem iC_one (zs : List Int) : ∀ u ∈ iC zs, u.oneCell' = true := fun u hu => by
 obtain ⟨z, _, rfl⟩ := List.mem_map.1 hu; rfl
def OwnI (w : World) (B : Nat) (v : Value) (zs : List Int) : Prop := w.ownsRow B 3 1 v zs.length (iC zs)
theorem OwnI.has {w : World} {B : Nat} {v : Value} {zs : List Int} (h : OwnI w B v zs) : HasI w v zs := by
 rcases h.2 with ⟨rfl, h0⟩ | ⟨g, cap, cur, rfl, _⟩
 ·obtain rfl : zs = [] := List.eq_nil_of_length_eq_zero h0
  exact ⟨none, 0, rfl, fun i z hi => by simp at hi⟩
 ·refine ⟨_, cap, rfl, fun i z hi => ⟨_, rfl, ?_⟩⟩
  have hlt := (List.getElem?_eq_some_iff.1 hi).1
  rw [addz, h.cellAt i (by omega)]
  simp [iC, hi]
theorem Tryz.infoI3 : (Tryz.prog.info? 3).map (fun i => (i.zero, i.size, i.bytes)) = some (some (.int .i64 0), 1, 8) := by kernel_rfl
theorem OwnI.cell {w : World} {B g cap n : Nat} {zs : List Int} (h : OwnI w B (.slice (some ⟨g, 0, none⟩) n cap) zs) {i : Nat} {z : Int} (hi : zs[i]? = some z) : w.cell? ⟨g, i, none⟩ = some (.int .i64 z) := by
 have hlt := (List.getElem?_eq_some_iff.1 hi).1
 obtain ⟨ao, cap', e, h2⟩ := h.has
 injection e with e1 e2 e3
 obtain ⟨a, ha, hc⟩ := h2 i z hi
 rw [← e1] at ha
 have := Option.some.inj ha
 rw [← this, addz] at hc
 exact hc
theorem iC_snoc (zs : List Int) (z : Int) : iC (zs ++ [z]) = iC zs ++ [.int .i64 z] := by simp [iC]
theorem two_alloc (w : World) (o p : Obj) : ((w.alloc o).alloc p).heap[w.heap.size + 1]? = some p := by
 have h := (MapKept.heap_alloc (w.alloc o) p).1
 simpa using h
theorem take_succ_of {α : Type} {l : List α} {j : Nat} {x : α} (h : l[j]? = some x) : l.take (j + 1) = l.take j ++ [x] := by
 obtain ⟨hlt, rfl⟩ := List.getElem?_eq_some_iff.1 h
 exact List.take_succ_eq_append_getElem hlt
def LsF (ls : List Value) (b : Nat) : Prop := ∃ l ∈ ls, l.ownBlock = some b
theorem own_ne {w : World} {B1 B2 : Nat} {e1 e2 : TypeId} {s1 s2 : Nat} {v1 v2 : Value} {n1 n2 : Nat} {x1 x2 : List Value} (h1 : w.ownsRow B1 e1 s1 v1 n1 x1) (h2 : w.ownsRow B2 e2 s2 v2 n2 x2) (hne : e1 ≠ e2) (k : Nat) (hk : v1.ownBlock = some k) : v2.ownBlock ≠ some k := fun h => by
 obtain ⟨c1, hc1⟩ := row_cells h1 hk
 obtain ⟨c2, hc2⟩ := row_cells h2 h
 rw [hc1] at hc2
 injection hc2 with e
 injection e with _ e
 exact hne e
theorem own_bk {w : World} {B : Nat} {e t : TypeId} {s : Nat} {v : Value} {n : Nat} {xs : List Value} {bk : Nat} {cs : Array Value} (h : w.ownsRow B e s v n xs) (hb : w.heap[bk]? = some (.cells cs t (0, 0))) (hne : e ≠ t) : v.ownBlock ≠ some bk := fun hk => by
 obtain ⟨c1, hc1⟩ := row_cells h hk
 rw [hc1] at hb
 injection hb with e
 injection e with _ e
 exact hne e
theorem grown_alloc {w w2 : World} {x : Obj} {r : Option Nat} (hg : (w.alloc x).grownBy w2 r) : Kept (fun b => r = some b) w w2 := (Kept.of_below ((Below.refl _ _).alloc (Nat.le_refl _) _)).trans (Kept.of_grown hg)
theorem own_up {w w' : World} {base : Nat} {e : TypeId} {size : Nat} {v : Value} {n : Nat} {xs : List Value} {F : Nat → Prop} (h : w.ownsRow base e size v n xs) (hk : Kept F w w') (hF : ∀ b, v.ownBlock = some b → ¬ F b) : w'.ownsRow base e size v n xs := trow_at h fun b hb => hk.block b (h.lt b hb).2 (hF b hb)
end Go.Proofs.YtkiapldehlnndaaGreatDoor
/- The steps of a state: plain facts. -/
namespace Go.Proofs.YtkiapldehlnndaaGreatDoor
def Sy.steps (es : List Sy.Ed) (i : Int) : List (Int × Int) := (es.filter fun e => e.1 == i).map fun e => (e.2.1, e.2.2)
theorem Sy.steps_snoc (es : List Sy.Ed) (e : Sy.Ed) (i : Int) : Sy.steps (es ++ [e]) i = if e.1 = i then Sy.steps es i ++ [(e.2.1, e.2.2)] else Sy.steps es i := by
 unfold Sy.steps
 rw [List.filter_append, List.map_append]
 by_cases h : e.1 = i <;> simp [h]
theorem Sy.steps_len (es : List Sy.Ed) (i : Int) : (Sy.steps es i).length ≤ es.length := by
 unfold Sy.steps
 rw [List.length_map]
 exact List.length_filter_le _ _
end Go.Proofs.YtkiapldehlnndaaGreatDoor
/- 'append(v, x...)' that tells whether the old row stands: in place, or in new memory with all blocks as they were. (A law of my own, over the library's own laws on append.) -/
namespace Go.Proofs.YtkiapldehlnndaaGreatDoor
open Go.RowKit
end Go.Proofs.YtkiapldehlnndaaGreatDoor
/- The book's parts over a kind of which it has no list. -/
namespace Go.Proofs.YtkiapldehlnndaaGreatDoor
open Go.RowKit
end Go.Proofs.YtkiapldehlnndaaGreatDoor
/- The book's lists of Steps: what it holds in memory, and contracts of the book's parts over them. (Written by mkbx.py out of BX.tmpl.) -/
namespace Go.Proofs.YtkiapldehlnndaaGreatDoor.BSteps
open Go.RowKit Go.Maps
attribute [local go_sem ↓] Go.wp_at_zero Go.wp_at_succ
abbrev El : Type := Int × Int
def enc (z : El) : List Value := [.int .i64 z.1, .int .i64 z.2]
def C (zs : List El) : List Value := zs.flatMap enc
theorem enc_len (z : El) : (enc z).length = 2 := rfl
theorem C_len (zs : List El) : (C zs).length = zs.length * 2 := by
 unfold C
 induction zs with
 | nil => rfl
 | cons z r ih => rw [List.flatMap_cons, List.length_append, ih, enc_len, List.length_cons]; omega
theorem C_app (a b : List El) : C (a ++ b) = C a ++ C b := List.flatMap_append
theorem C_one (zs : List El) : ∀ u ∈ C zs, u.oneCell' = true := fun u hu => by
 obtain ⟨z, _, hz⟩ := List.mem_flatMap.1 hu
 simp only [enc, List.mem_cons, List.not_mem_nil, or_false] at hz
 rcases hz with rfl | rfl <;> rfl
theorem C_at : ∀ (zs : List El) (k : Nat) (z : El), zs[k]? = some z → ∀ q, q < 2 → (C zs)[k * 2 + q]? = (enc z)[q]?
 | [], _, _, h, _, _ => by simp at h
 | y :: r, 0, z, h, q, hq => by
   simp at h
   subst h
   show (enc y ++ C r)[0 * 2 + q]? = _
   rw [List.getElem?_append_left (by rw [enc_len]; omega)]
   congr 1
   omega
 | y :: r, k + 1, z, h, q, hq => by
   have ih := C_at r k z (by simpa using h) q hq
   show (enc y ++ C r)[(k + 1) * 2 + q]? = _
   rw [List.getElem?_append_right (by rw [enc_len]; omega), enc_len, ← ih]
   congr 1
   omega
theorem C_set (zs : List El) {k : Nat} (hk : k < zs.length) (x : El) : C (zs.set k x) = (((C zs).set (k * 2) (.int .i64 x.1)).set (k * 2 + 1) (.int .i64 x.2)) := by
 apply List.ext_getElem?
 intro j
 by_cases hj : j / 2 = k
 ·obtain ⟨q, hq, rfl⟩ : ∃ q, q < 2 ∧ j = k * 2 + q := ⟨j % 2, Nat.mod_lt _ (by decide), by omega⟩
  rw [C_at (zs.set k x) k x (List.getElem?_set_self hk) q hq]
  have hl : (C zs).length = zs.length * 2 := C_len zs
  have hq' : q = 0 ∨ q = 1 := by omega
  rcases hq' with rfl | rfl <;> simp [List.getElem?_set, hl, enc] <;> omega
 ·have e : (C (zs.set k x))[j]? = (C zs)[j]? := by
   rcases Nat.lt_or_ge (j / 2) zs.length with h | h
   ·obtain ⟨z, hz⟩ : ∃ z, zs[j / 2]? = some z := ⟨_, List.getElem?_eq_getElem h⟩
    have hz' : (zs.set k x)[j / 2]? = some z := by rw [List.getElem?_set_ne (fun e => hj e.symm)]; exact hz
    have e0 : j = j / 2 * 2 + j % 2 := by omega
    rw [e0, C_at _ _ z hz' _ (Nat.mod_lt _ (by decide)), C_at _ _ z hz _ (Nat.mod_lt _ (by decide))]
   ·rw [List.getElem?_eq_none (by rw [C_len, List.length_set]; omega), List.getElem?_eq_none (by rw [C_len]; omega)]
  rw [e]
  rw [List.getElem?_set_ne (by omega), List.getElem?_set_ne (by omega)]
def Own (w : World) (B : Nat) (v : Value) (zs : List El) : Prop := w.ownsRow B 142 2 v zs.length (C zs)
def Has (w : World) (v : Value) (zs : List El) : Prop := ∃ ao cap, v = .slice ao zs.length cap ∧ ∀ (j : Nat) (u : Value), (C zs)[j]? = some u → ∃ a, ao = some a ∧ w.cell? (a.add j) = some u
theorem Has.below {w w' : World} {v : Value} {zs : List El} (h : Has w v zs) (hb : Below w.heap.size w w') : Has w' v zs := by
 obtain ⟨ao, cap, h1, h2⟩ := h
 refine ⟨ao, cap, h1, fun i p hi => ?_⟩
 obtain ⟨a, ha, c0⟩ := h2 i p hi
 exact ⟨a, ha, (hb.cell (World.block_lt_of_cell? w _ c0)).trans c0⟩
theorem C_nil {zs : List El} (h : zs ≠ []) : ∃ u, (C zs)[0]? = some u := by
 cases zs with
 | nil => exact absurd rfl h
 | cons z r =>
   have h1 := C_at (z :: r) 0 z rfl 0 (by decide)
   have h2 : (enc z)[0]? = some ((enc z)[0]'(by rw [enc_len]; decide)) := List.getElem?_eq_getElem _
   exact ⟨_, h1.trans h2⟩
theorem Own.at {w : World} {B g cap n : Nat} {zs : List El} (h : Own w B (.slice (some ⟨g, 0, none⟩) n cap) zs) {j : Nat} {u : Value} (hj : (C zs)[j]? = some u) : w.cell? ⟨g, j, none⟩ = some u := by
 obtain ⟨ao', cap', hv⟩ := row_shape h
 injection hv with _ e _
 subst e
 have h' : w.ownsRow B 142 2 (.slice (some ⟨g, 0, none⟩) zs.length cap) zs.length (C zs) := h
 rw [h'.cellAt j (by rw [← h'.1]; exact (List.getElem?_eq_some_iff.1 hj).1), hj]
theorem Own.has {w : World} {B : Nat} {v : Value} {zs : List El} (h : Own w B v zs) : Has w v zs := by
 obtain ⟨ao, cap, hv⟩ := row_shape h
 refine ⟨ao, cap, hv, fun j u hj => ?_⟩
 have hlt := (List.getElem?_eq_some_iff.1 hj).1
 rw [C_len] at hlt
 obtain ⟨g, c, hf, _, _⟩ := World.ownsRow.form h (by omega)
 rw [hv] at hf
 injection hf with e1 e2 e3
 subst e1; subst e3
 refine ⟨_, rfl, ?_⟩
 rw [addz]
 rw [hv] at h
 exact Own.at h hj
theorem add_q (a : Addr) (m q : Nat) : (a.add m).add q = a.add (m + q) := by
 unfold Addr.add
 by_cases h1 : m = 0 <;> by_cases h2 : q = 0 <;> simp [h1, h2] <;> omega
theorem copy_of {w : World} {ao : Option Addr} {n cap : Nat} {zs : List El} (h : Has w (.slice ao n cap) zs) : (ao = none → n = 0) ∧ ∀ ad, ao = some ad → ∀ j u, (C zs)[j]? = some u → w.cell? (ad.add j) = some u := by
 obtain ⟨ao', cap', hv, h2⟩ := h
 injection hv with e1 e2 e3
 subst e1
 refine ⟨fun e => ?_, fun ad e j u hj => ?_⟩
 ·rw [e2]
  by_cases hz : zs = []
  ·rw [hz]; rfl
  ·obtain ⟨u, hu⟩ := C_nil hz
   obtain ⟨a, ha, _⟩ := h2 0 u hu
   rw [e] at ha; cases ha
 ·obtain ⟨a, ha, hc⟩ := h2 j u hj
  rw [e] at ha
  cases ha
  exact hc
def mk1 (i k : Nat) : El := (-1 - (i : Int), (k : Int))
def marks (i f n : Nat) : List El := (List.range n).map fun k => mk1 i (f + k)
theorem Tryz.infoE : (Tryz.prog.info? 142).map (fun i => (i.zero, i.size, i.bytes)) = some (some (.agg #[.int .i64 0, .int .i64 0]), 2, 16) := by kernel_rfl
end Go.Proofs.YtkiapldehlnndaaGreatDoor.BSteps
/- The reachable states: plain facts, and marks and lists in memory. -/
namespace Go.Proofs.YtkiapldehlnndaaGreatDoor
open Go.RowKit Go.Maps
namespace Sy
inductive Rea (es : List Ed) (s : Int) : Int → Prop
 | start : Rea es s s
 | step (e : Ed) : e ∈ es → Rea es s e.1 → Rea es s e.2.2
structure RInv (es : List Ed) (s : Int) (n : Nat) (zs : List Int) (bs : List Bool) (i : Nat) : Prop where
 len : bs.length = n
 iff : ∀ p : Nat, bs[p]? = some true ↔ (p : Int) ∈ zs
 rng : ∀ z ∈ zs, 0 ≤ z ∧ z < (n : Int)
 cnt : zs.length = bs.count true
 rea : ∀ z ∈ zs, Rea es s z
 st : s ∈ zs
 done : ∀ (j : Nat) (z : Int), j < i → zs[j]? = some z → ∀ e ∈ es, e.1 = z → e.2.2 ∈ zs
theorem steps_mem {es : List Ed} {i a b : Int} : (a, b) ∈ steps es i ↔ (i, a, b) ∈ es := by
 unfold steps
 rw [List.mem_map]
 constructor
 ·rintro ⟨e, he, h1⟩
  obtain ⟨h2, h3⟩ := List.mem_filter.1 he
  have e1 : e.1 = i := by simpa using h3
  cases h1
  rw [← e1]
  exact h2
 ·intro h
  exact ⟨(i, a, b), List.mem_filter.2 ⟨h, by simp⟩, rfl⟩
end Sy
def bC (bs : List Bool) : List Value := bs.map Value.bool
theorem own_num {w : World} {B : Nat} {ao : Option Addr} {n cap : Nat} {zs : List Int} (h : OwnI w B (.slice ao n cap) zs) {j : Nat} {z : Int} (hz : zs[j]? = some z) : ∃ g, ao = some ⟨g, 0, none⟩ ∧ w.cell? ⟨g, j, none⟩ = some (.int .i64 z) := by
 have hlt := (List.getElem?_eq_some_iff.1 hz).1
 obtain ⟨g, c, hf, _, _⟩ := World.ownsRow.form h (by omega)
 injection hf with e1 e2 e3
 subst e1
 exact ⟨g, rfl, h.cell hz⟩
theorem step_at {w : World} {ao : Option Addr} {n cap : Nat} {zs : List BSteps.El} (h : BSteps.Has w (.slice ao n cap) zs) {j : Nat} {z : BSteps.El} (hz : zs[j]? = some z) :
 ∃ a, ao = some a ∧ w.cell? (a.add (j * 2)) = some (.int .i64 z.1) ∧ w.cell? ⟨(a.add (j * 2)).block, (a.add (j * 2)).off + 1, none⟩ = some (.int .i64 z.2) := by
 obtain ⟨ao', cap', hv, hc⟩ := h
 injection hv with e1 e2 e3
 subst e1
 obtain ⟨a, rfl, c0⟩ := hc (j * 2 + 0) _ ((BSteps.C_at zs j z hz 0 (by decide)).trans rfl)
 obtain ⟨a1, e1, c1⟩ := hc (j * 2 + 1) _ ((BSteps.C_at zs j z hz 1 (by decide)).trans rfl)
 cases e1
 refine ⟨a, rfl, by simpa using c0, ?_⟩
 rw [← BSteps.add_q] at c1
 exact c1
end Go.Proofs.YtkiapldehlnndaaGreatDoor
/- Rows of memory that make lays: what they hold, and that they are rows of one's own. -/
namespace Go.Proofs.YtkiapldehlnndaaGreatDoor
open Go.RowKit Go.Maps
structure Arr (ty : TypeId) (w wr : World) (gi : Nat) (vs : List Value) : Prop where
 bl : Below w.heap.size w wr
 ids : ∃ cs, wr.heap[gi]? = some (.cells cs ty (0, 0)) ∧ cs.toList = vs
 gu : w.heap.size ≤ gi
theorem Arr.lt {ty : TypeId} {w wr : World} {gi : Nat} {vs : List Value} (h : Arr ty w wr gi vs) : gi < wr.heap.size := by
 obtain ⟨cs, hc, _⟩ := h.ids
 exact t_lt hc
theorem Arr.below {ty : TypeId} {w wr w' : World} {gi : Nat} {vs : List Value} (h : Arr ty w wr gi vs) (hb : Below wr.heap.size wr w') : Arr ty w w' gi vs := by
 obtain ⟨cs, hc, hx⟩ := h.ids
 exact ⟨h.bl.trans (hb.mono h.bl.size), ⟨cs, (hb.block _ (t_lt hc)).trans hc, hx⟩, h.gu⟩
theorem Arr.kept {ty : TypeId} {w wr w' : World} {gi : Nat} {vs : List Value} {F : Nat → Prop} (h : Arr ty w wr gi vs) (hk : Kept F wr w') (hF : ∀ b, F b → w.heap.size ≤ b ∧ b ≠ gi) : Arr ty w w' gi vs := by
 obtain ⟨cs, hc, hx⟩ := h.ids
 exact ⟨h.bl.trans (hk.below h.bl.size fun b hb => (hF b hb).1), ⟨cs, (hk.block _ (t_lt hc) fun hf => (hF gi hf).2 rfl).trans hc, hx⟩, h.gu⟩
theorem Arr.cell {ty : TypeId} {w wr : World} {gi : Nat} {vs : List Value} (h : Arr ty w wr gi vs) {i : Nat} {x : Value} (hi : vs[i]? = some x) : wr.cell? ⟨gi, i, none⟩ = some x := by
 obtain ⟨cs, hc, hx⟩ := h.ids
 refine cell0_of hc ?_
 rw [← Array.getElem?_toList, hx]
 exact hi
theorem Arr.free {ty : TypeId} {w wr : World} {gi : Nat} {vs : List Value} (h : Arr ty w wr gi vs) (i : Nat) : wr.frozen? ⟨gi, i, none⟩ = false := by
 obtain ⟨cs, hc, hx⟩ := h.ids
 exact blk_free hc i
theorem Arr.set {ty : TypeId} {w wr : World} {gi : Nat} {vs : List Value} (h : Arr ty w wr gi vs) (i : Nat) (x : Value) : Arr ty w (wr.setCell ⟨gi, i, none⟩ x) gi (vs.set i x) := by
 obtain ⟨cs, hc, hx⟩ := h.ids
 refine ⟨h.bl.setCell h.gu _, ⟨_, heap_setCell_same wr gi i cs _ _ hc, ?_⟩, h.gu⟩
 rw [Array.toList_setIfInBounds, hx]
theorem Arr.back {ty : TypeId} {w w1 wr : World} {g : Nat} {vs : List Value} (h : Arr ty w1 wr g vs) (hb : Below w.heap.size w w1) : Arr ty w wr g vs := ⟨hb.trans (h.bl.mono hb.size), h.ids, Nat.le_trans hb.size h.gu⟩
theorem Arr.own {ty : TypeId} {w wr : World} {gi : Nat} {vs : List Value} (h : Arr ty w wr gi vs) (hn : vs.length ≤ maxLen) : wr.ownsRow w.heap.size ty 1 (.slice (some ⟨gi, 0, none⟩) vs.length vs.length) vs.length vs := by
 obtain ⟨cs, hc, hx⟩ := h.ids
 refine ⟨by rw [Nat.mul_one], .inr ⟨gi, vs.length, cs, rfl, h.gu, hc, Nat.le_refl _, hn, ?_, ?_⟩⟩
 ·rw [← hx]; simp
 ·rw [hx]; simp
def madeV (z : Value) (n : Nat) : Array Value := madeCells z.cells (n * 1)
theorem madeV_eq (z : Value) (hz : z.cells = #[z]) (n : Nat) : (madeV z n).toList = List.replicate n z := by
 apply List.ext_getElem
 ·simp [madeV, madeCells]
 ·intro i h1 h2
  simp [madeV, madeCells, hz, Nat.mod_one]
theorem arr_new (ty : TypeId) (z : Value) (hz : z.cells = #[z]) (n : Nat) (w : World) : Arr ty w (w.alloc (.cells (madeV z n) ty)) w.heap.size (List.replicate n z) := ⟨(Below.refl _ _).alloc (Nat.le_refl _) _, ⟨_, (MapKept.heap_alloc w _).1, madeV_eq z hz n⟩, Nat.le_refl _⟩
theorem make_of (t e : TypeId) (z : Value) (by8 : Nat) (ht : Tryz.prog.underlying t = some (.slice e)) (hi : (Tryz.prog.info? e).map (fun i => (i.zero, i.size, i.bytes)) = some (some z, 1, by8)) (n : Nat) (hn : n ≤ 1000000) (hby : by8 ≤ 100) (w : World) : (Instr.makeSlice t (.int .i64 (n : Int)) (.int .i64 (n : Int))).run Tryz.prog w = .ok (.slice (some ⟨w.heap.size, 0, none⟩) n n) (w.alloc (.cells (madeV z n) e)) := by
 obtain ⟨i0, hi0, hz0, hz1, hz2⟩ := info_parts hi
 have hm : n * by8 ≤ 1000000 * 100 := Nat.mul_le_mul hn hby
 have h := run_makeSlice (P := Tryz.prog) w t e i0 z ht hi0 hz0 .i64 .i64 (n : Int) (n : Int) (by omega) (Int.le_refl _) (by rw [hz1]; omega) (by rw [hz2]; have h9 : (by8 : Int) * (n : Int) ≤ 100000000 := (by rw [Int.mul_comm]; exact Int.ofNat_le.2 hm); omega) (by omega)
 rw [h, hz1]
 simp [madeV]
theorem Tryz.infoI4 : (Tryz.prog.info? 3).map (fun i => (i.zero, i.size, i.bytes)) = some (some (.int .i64 0), 1, 8) := by kernel_rfl
theorem makeI (n : Nat) (hn : n ≤ 1000000) (w : World) : (Instr.makeSlice 28 (.int .i64 (n : Int)) (.int .i64 (n : Int))).run Tryz.prog w = .ok (.slice (some ⟨w.heap.size, 0, none⟩) n n) (w.alloc (.cells (madeV (.int .i64 0) n) 3)) := make_of _ _ _ 8 Tryz.underlying28 Tryz.infoI4 n hn (by decide) w
theorem Tryz.infoS4 : (Tryz.prog.info? 132).map (fun i => (i.zero, i.size, i.bytes)) = some (some (.slice none 0 0), 1, 24) := by kernel_rfl
theorem makeSt (n : Nat) (hn : n ≤ 1000000) (w : World) : (Instr.makeSlice 50 (.int .i64 (n : Int)) (.int .i64 (n : Int))).run Tryz.prog w = .ok (.slice (some ⟨w.heap.size, 0, none⟩) n n) (w.alloc (.cells (madeV (.slice none 0 0) n) 132)) := make_of _ _ _ 24 Tryz.underlying50 Tryz.infoS4 n hn (by decide) w
end Go.Proofs.YtkiapldehlnndaaGreatDoor
/- Contracts of the document's Canon, Together and Classes. -/
namespace Go.Proofs.YtkiapldehlnndaaGreatDoor
open Go.RowKit Go.Maps
attribute [local go_sem ↓] Go.wp_at_zero Go.wp_at_succ
namespace Sy
theorem canonG_bound (l : List Int) : ∀ seen k, k ∈ canonG seen l → k < (seenG seen l).length := by
 induction l with
 | nil => intro seen k h; simp [canonG] at h
 | cons c r ih =>
   intro seen k h
   simp only [canonG, List.mem_cons] at h
   simp only [seenG]
   have hmono : ∀ (m : List Int) (s : List Int), s.length ≤ (seenG s m).length := fun m => by
    induction m with
    | nil => intro s; simp [seenG]
    | cons d q ih2 =>
      intro s
      simp only [seenG]
      have := ih2 (if place d s < s.length then s else s ++ [d])
      have h2 : s.length ≤ (if place d s < s.length then s else s ++ [d]).length := by split <;> simp
      omega
   rcases h with rfl | h
   ·have h1 := hmono r (if place c seen < seen.length then seen else seen ++ [c])
    have h2 : place c seen < (if place c seen < seen.length then seen else seen ++ [c]).length := by
     have h3 := place_le c seen
     split
     ·assumption
     ·simp; omega
    omega
   ·exact ih _ k h
theorem place_app (c : Int) (a b : List Int) (h : ∀ x ∈ a, x ≠ c) : place c (a ++ b) = a.length + place c b := by
 induction a with
 | nil => simp
 | cons x r ih =>
   have hx := h x List.mem_cons_self
   simp only [List.cons_append, place, if_neg hx, List.length_cons]
   rw [ih fun y hy => h y (List.mem_cons_of_mem _ hy)]
   omega
theorem canon_step {zs : List Int} {i : Nat} {z : Int} (h : zs[i]? = some z) : canonG [] (zs.take (i + 1)) = canonG [] (zs.take i) ++ [place z (seenG [] (zs.take i))] := by
 obtain ⟨hl, rfl⟩ := List.getElem?_eq_some_iff.1 h
 rw [List.take_succ_eq_append_getElem hl, canonG_app]
 rfl
theorem seen_step {zs : List Int} {i : Nat} {z : Int} (h : zs[i]? = some z) : seenG [] (zs.take (i + 1)) = if place z (seenG [] (zs.take i)) < (seenG [] (zs.take i)).length then seenG [] (zs.take i) else seenG [] (zs.take i) ++ [z] := by
 obtain ⟨hl, rfl⟩ := List.getElem?_eq_some_iff.1 h
 rw [List.take_succ_eq_append_getElem hl, seenG_app]
 rfl
end Sy
def natC (l : List Nat) : List Value := l.map fun (k : Nat) => Value.int .i64 (k : Int)
theorem natC_len (l : List Nat) : (natC l).length = l.length := by simp [natC]
def natI (l : List Nat) : List Int := l.map fun (k : Nat) => (k : Int)
theorem iC_nat (l : List Nat) : iC (natI l) = natC l := by simp [iC, natI, natC]
theorem natC_step (C : List Nat) (n i k : Nat) (hC : C.length = i) (hi : i < n) : (natC C ++ List.replicate (n - i) (Value.int .i64 0)).set i (.int .i64 (k : Int)) = natC (C ++ [k]) ++ List.replicate (n - (i + 1)) (Value.int .i64 0) := by
 have e : n - i = (n - (i + 1)) + 1 := by omega
 rw [List.set_append_right _ _ (by rw [natC_len]; omega), natC_len, hC, Nat.sub_self, e, List.replicate_succ, List.set_cons_zero]
 simp [natC]
set_option maxRecDepth 100000 in
set_option maxHeartbeats 8000000 in
theorem refCanon_any (v : Value) (zs : List Int) (w : World) (hv : HasI w v zs) (hn : zs.length ≤ 100000) :
 Calls Tryz.prog 48 #[v] w fun e w' => ∃ u, e = .returned u ∧ OwnI w' w.heap.size u (natI (Sy.canon zs)) ∧ Below w.heap.size w w' := by
 obtain ⟨i0, hi0, hz0, hz1, hz2⟩ := info_parts Tryz.infoI4
 obtain ⟨ao, cap, rfl, hcs⟩ := hv
 obtain ⟨n, hN⟩ : ∃ n, n = zs.length := ⟨_, rfl⟩
 have HH : Hid _ := And.intro hcs hN
 rw [← hN] at hn ⊢
 clear hcs hN
 have hmk := makeI n (by omega) w
 go_enter Tryz.func48, Tryz.ntmps48
 go_wp2_with fail
 clear hmk
 go_loopg [4, 5] n (fun q sv iv wr => ∃ (i : Nat) (seen : List Int), q = n - i ∧ i ≤ n ∧ iv = .int .i64 i ∧ seen = Sy.seenG [] (zs.take i) ∧ OwnI wr (w.heap.size + 1) sv seen ∧ Arr 3 w wr w.heap.size (natC (Sy.canonG [] (zs.take i)) ++ List.replicate (n - i) (.int .i64 0)))
 case atStart => exact ⟨0, [], rfl, Nat.zero_le _, rfl, by simp [Sy.seenG], World.ownsRow_nil _ _ _ _, by simpa [Sy.canonG, natC] using arr_new 3 (.int .i64 0) rfl n w⟩
 case round =>
  obtain ⟨i, seen, rfl, hi, rfl, hseen, hO, hA⟩ := hrel
  obtain ⟨wq, rfl⟩ : ∃ wq, wq = wr := ⟨_, rfl⟩
  by_cases hlt : i < n
  ·obtain ⟨z, hz⟩ : ∃ z, zs[i]? = some z := ⟨zs[i]'(by have := HH.out.2; omega), List.getElem?_eq_getElem _⟩
   obtain ⟨a, rfl, c0⟩ := HH.out.1 i z hz
   have cz : wq.cell? (a.add i) = some (.int .i64 z) := (hA.bl.cell (World.block_lt_of_cell? w _ c0)).trans c0
   have hsl : seen.length ≤ i := by
    have := Sy.seenG_len (zs.take i) []
    rw [← hseen, List.length_take] at this
    simp at this; omega
   obtain ⟨m, hm⟩ : ∃ m, m = seen.length := ⟨_, rfl⟩
   obtain ⟨as0, cs, rfl⟩ := row_shape hO
   have q0 : (0 : Int) ≤ (i : Int) := by omega
   have q1 : (i : Int) < (n : Int) := by omega
   have HO : Hid _ := And.intro hO (And.intro hA (And.intro hseen (And.intro hz hm)))
   rw [← hm]
   rw [← hm] at hsl
   clear hO hA hseen hz hm c0
   go_wp2_with fail
   go_loopg [6] m (fun q kv wr => ∃ (k d : Nat), q = m - k ∧ k ≤ m ∧ kv = .int .i64 k ∧ wr = wq.drewN d ∧ ∀ x ∈ seen.take k, x ≠ z)
   case atStart => exact ⟨0, 0, rfl, Nat.zero_le _, rfl, rfl, fun x hx => by simp at hx⟩
   case round =>
    obtain ⟨k, d, rfl, hk, rfl, rfl, hne⟩ := hrel
    have HN : Hid _ := hne
    clear hne
    by_cases hkm : k < m
    ·obtain ⟨s, hs⟩ : ∃ s, seen[k]? = some s := ⟨seen[k]'(by have := HO.out.2.2.2.2; omega), List.getElem?_eq_getElem _⟩
     obtain ⟨ao2, cap2, hv2, hc2⟩ := HO.out.1.has
     injection hv2 with e1 e2 e3
     subst e1
     obtain ⟨b, rfl, cs0⟩ := hc2 k s hs
     have p0 : (0 : Int) ≤ (k : Int) := by omega
     have p1 : (k : Int) < (m : Int) := by omega
     have p2 : decide ((k : Int) < (m : Int)) = true := decide_eq_true p1
     have HS : Hid (seen[k]? = some s) := hs
     clear hs hc2 e2 e3
     by_cases hsz : s = z
     ·have e1 : (s != z) = false := by simp [hsz]
      have hpl : Sy.place z seen = k := by
       have h1 := List.take_append_drop k seen
       have h2 : seen.drop k = s :: seen.drop (k + 1) := by
        obtain ⟨hl, rfl⟩ := List.getElem?_eq_some_iff.1 HS.out
        exact List.drop_eq_getElem_cons hl
       rw [← h1, Sy.place_app z _ _ HN.out, h2]
       simp only [Sy.place, if_pos hsz, List.length_take]
       have := HO.out.2.2.2.2
       omega
      have p3 : ((k : Int) == (m : Int)) = false := by simp; omega
      have cx := (HO.out.2.1).cell (i := i) (x := .int .i64 0) (by
       rw [List.getElem?_append_right (by rw [natC_len, Sy.canonG_len, List.length_take]; omega), natC_len, Sy.canonG_len, List.length_take, List.getElem?_replicate, if_pos (by have := HH.out.2; omega)])
      have cf := (HO.out.2.1).free i
      have HP : Hid _ := And.intro hpl hsz
      clear hpl hsz
      go_wp2_with fail
      go_quiet (fail)
      rw [World.drewN_drewN]
      go_wp2
      go_roundg (n - (i + 1))
      case measure => omega
      case rel =>
       have hC : (Sy.canonG [] (zs.take i)).length = i := by rw [Sy.canonG_len, List.length_take]; have := HH.out.2; omega
       have hAs := (HO.out.2.1.below (below_drewN (Below.refl _ _) (d + nq))).set i (.int .i64 (k : Int))
       rw [natC_step _ n i k hC hlt] at hAs
       refine ⟨i + 1, seen, rfl, by omega, by go_num, ?_, ?_, ?_⟩
       ·rw [Sy.seen_step HO.out.2.2.2.1, ← HO.out.2.2.1, if_pos (by rw [HP.out.1]; have := HO.out.2.2.2.2; omega)]
       ·have hO1 := HO.out.1
        rw [← HO.out.2.2.2.2] at hO1
        refine trow_at (w' := (wq.drewN (d + nq)).setCell ⟨w.heap.size, i, none⟩ (.int .i64 (k : Int))) hO1 fun b hb => ?_
        rw [set_other _ _ _ _ _ (by have := (hO1.lt b hb).1; omega)]
        rfl
       ·rw [Sy.canon_step HO.out.2.2.2.1, ← HO.out.2.2.1, HP.out.1]
        exact hAs
     ·have e1 : (s != z) = true := by simpa using hsz
      have HZ : Hid (¬ s = z) := hsz
      clear hsz
      go_wp2_with fail
      go_quiet (fail)
      rw [World.drewN_drewN]
      go_wp2
      go_roundg (m - (k + 1))
      case measure => omega
      case rel => exact ⟨k + 1, _, rfl, by omega, by go_num, rfl, fun x hx => by
       rw [take_succ_of HS.out] at hx
       rcases List.mem_append.1 hx with hx | hx
       ·exact HN.out x hx
       ·rw [List.mem_singleton.1 hx]; exact HZ.out⟩
    ·obtain rfl : k = m := by omega
     have p1 : ¬ (k : Int) < (k : Int) := by omega
     have p2 : decide ((k : Int) < (k : Int)) = false := decide_eq_false p1
     have p3 : ((k : Int) == (k : Int)) = true := by simp
     have hpl : Sy.place z seen = k := by
      have h1 := HN.out
      rw [List.take_of_length_le (by have := HO.out.2.2.2.2; omega)] at h1
      have h2 := Sy.place_app z seen [] h1
      rw [List.append_nil] at h2
      rw [h2]; simp [Sy.place]; exact HO.out.2.2.2.2.symm
     have hml : k + 1 ≤ maxLen := by unfold maxLen; omega
     have hby : (k + 1) * 8 ≤ 140737488355328 := by omega
     have HP : Hid _ := hpl
     clear hpl
     go_wp2_with fail
     go_quiet (fail)
     rw [World.drewN_drewN]
     obtain ⟨wz, hwz⟩ : ∃ wz, wz = wq.drewN (d + nq) := ⟨_, rfl⟩
     have hbz : Below wq.heap.size wq wz := by rw [hwz]; exact below_drewN (Below.refl _ _) _
     have cz2 : wz.cell? (a.add i) = some (.int .i64 z) := (hbz.cell (World.block_lt_of_cell? wq _ cz)).trans cz
     have hAz := HO.out.2.1.below hbz
     have hOz : wz.ownsRow (w.heap.size + 1) 3 1 (.slice as0 k cs) k (iC seen) := by have h1 := trow_at (w' := wz) HO.out.1 fun b hb => hbz.block b (HO.out.1.lt b hb).2; rw [← HO.out.2.2.2.2] at h1; exact h1
     rw [← hwz]
     have hle : w.heap.size + 1 ≤ (wz.alloc (.cells #[.int .i64 z] 3)).heap.size := by have := hAz.lt; simp; omega
     have HZ : Hid _ := And.intro hAz hOz
     clear hwz hbz hAz hOz cz
     go_wp2_with (at_builtin; refine wpList_append_own_at _ rfl _ _ 28 rfl (w.heap.size + 1) 3 i0 (.int .i64 0) 1 8 Tryz.underlying28 hi0 hz0 hz1 hz2 rfl (by decide) (.slice as0 k cs) k (iC seen) rfl (HZ.out.2.alloc _) ⟨wz.heap.size, 0, none⟩ 1 1 [.int .i64 z] rfl rfl (World.news_of_block (cs := #[.int .i64 z]) (t := 3) (fr := (0, 0)) (heap_alloc_new wz _)) (by simp [Value.oneCell']) hml hby hle ?_; intro v2 w2 hown2 hgrow2 hnil2 hat2; have hA2 : Arr 3 w w2 w.heap.size (natC (Sy.canonG [] (zs.take i)) ++ List.replicate (n - i) (.int .i64 0)) := HZ.out.1.kept (grown_alloc hgrow2) (fun b hb => by have := (HZ.out.2.lt b hb).1; omega); have cx := hA2.cell (i := i) (x := .int .i64 0) (by rw [List.getElem?_append_right (by rw [natC_len, Sy.canonG_len, List.length_take]; omega), natC_len, Sy.canonG_len, List.length_take, List.getElem?_replicate, if_pos (by have := HH.out.2; omega)]); have cf := hA2.free i; have H2 : Hid _ := And.intro hown2 hA2; clear hown2 hgrow2 hnil2 hat2 hA2)
     go_roundg (n - (i + 1))
     case measure => omega
     case rel =>
      have hC : (Sy.canonG [] (zs.take i)).length = i := by rw [Sy.canonG_len, List.length_take]; have := HH.out.2; omega
      have hAs := H2.out.2.set i (.int .i64 (k : Int))
      rw [natC_step _ n i k hC hlt] at hAs
      refine ⟨i + 1, seen ++ [z], rfl, by omega, by go_num, ?_, ?_, ?_⟩
      ·rw [Sy.seen_step HO.out.2.2.2.1, ← HO.out.2.2.1, if_neg (by rw [HP.out]; have := HO.out.2.2.2.2; omega)]
      ·have h1 : w2.ownsRow (w.heap.size + 1) 3 1 v2 (k + 1) (iC seen ++ [.int .i64 z]) := H2.out.1
       have h2 : OwnI w2 (w.heap.size + 1) v2 (seen ++ [z]) := by unfold OwnI; rw [iC_snoc, List.length_append, ← HO.out.2.2.2.2]; exact h1
       exact trow_at h2 fun b hb => set_other _ _ _ _ _ (by have := (h2.lt b hb).1; omega)
      ·rw [Sy.canon_step HO.out.2.2.2.1, ← HO.out.2.2.1, HP.out]
       exact hAs
  ·obtain rfl : i = n := by omega
   have q1 : ¬ (i : Int) < (i : Int) := by omega
   have HA : Hid _ := hA
   clear hA hO hseen
   go_wp2_with fail
   go_ret
   have hzt : zs.take i = zs := List.take_of_length_le (by have := HH.out.2; omega)
   have h1 := HA.out.own (by rw [List.length_append, natC_len, Sy.canonG_len, List.length_replicate, List.length_take]; unfold maxLen; omega)
   rw [hzt, Nat.sub_self, List.replicate_zero, List.append_nil, natC_len, Sy.canonG_len, ← HH.out.2] at h1
   refine ⟨_, rfl, ?_, HA.out.bl⟩
   unfold OwnI
   rw [iC_nat]
   have h2 : (natI (Sy.canon zs)).length = i := by unfold natI Sy.canon; rw [List.length_map, Sy.canonG_len]; exact HH.out.2.symm
   rw [h2]
   exact h1
end Go.Proofs.YtkiapldehlnndaaGreatDoor
/- Contracts of three functions of Go's library at this program, laid by the shelf's own tools in plain words. -/
namespace Go.Proofs
open Go.Shelf
def Tryz.lays128_ren : Go.Shelf.Ren := ⟨fun | 128 => 195 | n => n, fun | 51 => 254 | 3 => 3 | 4 => 4 | 46 => 234 | 5 => 5 | 9 => 9 | n => n, fun | n => n⟩
def Tryz.lays125_ren : Go.Shelf.Ren := ⟨fun | 125 => 173 | 128 => 195 | 129 => 196 | n => n, fun | 46 => 234 | 3 => 3 | 51 => 254 | 53 => 256 | 4 => 4 | 5 => 5 | 9 => 9 | n => n, fun | n => n⟩
theorem Tryz.lays125 : Go.Proofs.Lays.n125 Tryz.prog Tryz.lays125_ren := {
 mixed := by kernel_rfl
 f125 := Tryz.func173.trans (congrArg some (by kernel_rfl))
 f128 := Tryz.func195.trans (congrArg some (by kernel_rfl))
 f129 := Tryz.func196.trans (congrArg some (by kernel_rfl))
 t3 := Tryz.underlying3
 a3 := Tryz.isAgg3
 z3 := Tryz.sizeOf3
 v3 := Tryz.zeroValue3
 t4 := Tryz.underlying4
 a4 := Tryz.isAgg4
 z4 := Tryz.sizeOf4
 v4 := Tryz.zeroValue4
 t5 := Tryz.underlying5
 a5 := Tryz.isAgg5
 z5 := Tryz.sizeOf5
 v5 := Tryz.zeroValue5
 t9 := Tryz.underlying9
 a9 := Tryz.isAgg9
 z9 := Tryz.sizeOf9
 v9 := Tryz.zeroValue9
 t46 := Tryz.underlying234
 a46 := Tryz.isAgg234
 z46 := Tryz.sizeOf234
 v46 := Tryz.zeroValue234
 t51 := Tryz.underlying254
 a51 := Tryz.isAgg254
 z51 := Tryz.sizeOf254
 v51 := Tryz.zeroValue254
 t53 := Tryz.underlying256
 a53 := Tryz.isAgg256
 z53 := Tryz.sizeOf256
 v53 := Tryz.zeroValue256 }
theorem Tryz.bits_Len (x : Int) (w : World) (h0 : 0 ≤ x) (h1 : x ≤ 18446744073709551615) :
 Calls Tryz.prog 173 #[.int .u64 x] w fun e w' => e = .returned (.int .i64 (Lib.bitLen x.toNat)) ∧ w' = w := Any.bits_Len Tryz.lays125 x w h0 h1
def Tryz.lays215_ren : Go.Shelf.Ren := ⟨fun | 215 => 183 | n => n, fun | 3 => 3 | 4 => 4 | n => n, fun | n => n⟩
def Tryz.lays122_ren : Go.Shelf.Ren := ⟨fun | 122 => 165 | 215 => 183 | n => n, fun | 3 => 3 | 4 => 4 | n => n, fun | n => n⟩
def Tryz.lays129_ren : Go.Shelf.Ren := ⟨fun | 129 => 196 | n => n, fun | 53 => 256 | 3 => 3 | 4 => 4 | 46 => 234 | 5 => 5 | 9 => 9 | n => n, fun | n => n⟩
def Tryz.lays189_ren : Go.Shelf.Ren := ⟨fun | 189 => 168 | 125 => 173 | 257 => 184 | 128 => 195 | 129 => 196 | 294 => 201 | 295 => 202 | 296 => 203 | 297 => 204 | 298 => 205 | 299 => 206 | 216 => 207 | 300 => 208 | 301 => 209 | 328 => 217 | 329 => 211 | 330 => 212 | 331 => 218 | 332 => 219 | 215 => 183 | 343 => 221 | n => n, fun | 28 => 28 | 3 => 3 | 46 => 234 | 0 => 0 | 51 => 254 | 53 => 256 | 4 => 4 | 183 => 248 | 182 => 247 | 131 => 86 | 5 => 5 | 9 => 9 | 218 => 272 | 222 => 243 | 228 => 284 | 229 => 156 | n => n, fun | n => n⟩
theorem Tryz.lays189 : Go.Proofs.Lays.n189 Tryz.prog Tryz.lays189_ren := {
 mixed := by kernel_rfl
 f125 := Tryz.func173.trans (congrArg some (by kernel_rfl))
 f128 := Tryz.func195.trans (congrArg some (by kernel_rfl))
 f129 := Tryz.func196.trans (congrArg some (by kernel_rfl))
 f189 := Tryz.func168.trans (congrArg some (by kernel_rfl))
 f215 := Tryz.func183.trans (congrArg some (by kernel_rfl))
 f216 := Tryz.func207.trans (congrArg some (by kernel_rfl))
 f257 := Tryz.func184.trans (congrArg some (by kernel_rfl))
 f294 := Tryz.func201.trans (congrArg some (by kernel_rfl))
 f295 := Tryz.func202.trans (congrArg some (by kernel_rfl))
 f296 := Tryz.func203.trans (congrArg some (by kernel_rfl))
 f297 := Tryz.func204.trans (congrArg some (by kernel_rfl))
 f298 := Tryz.func205.trans (congrArg some (by kernel_rfl))
 f299 := Tryz.func206.trans (congrArg some (by kernel_rfl))
 f300 := Tryz.func208.trans (congrArg some (by kernel_rfl))
 f301 := Tryz.func209.trans (congrArg some (by kernel_rfl))
 f328 := Tryz.func217.trans (congrArg some (by kernel_rfl))
 f329 := Tryz.func211.trans (congrArg some (by kernel_rfl))
 f330 := Tryz.func212.trans (congrArg some (by kernel_rfl))
 f331 := Tryz.func218.trans (congrArg some (by kernel_rfl))
 f332 := Tryz.func219.trans (congrArg some (by kernel_rfl))
 f343 := Tryz.func221.trans (congrArg some (by kernel_rfl))
 t0 := Tryz.underlying0
 a0 := Tryz.isAgg0
 z0 := Tryz.sizeOf0
 v0 := Tryz.zeroValue0
 t3 := Tryz.underlying3
 a3 := Tryz.isAgg3
 z3 := Tryz.sizeOf3
 v3 := Tryz.zeroValue3
 t4 := Tryz.underlying4
 a4 := Tryz.isAgg4
 z4 := Tryz.sizeOf4
 v4 := Tryz.zeroValue4
 t5 := Tryz.underlying5
 a5 := Tryz.isAgg5
 z5 := Tryz.sizeOf5
 v5 := Tryz.zeroValue5
 t9 := Tryz.underlying9
 a9 := Tryz.isAgg9
 z9 := Tryz.sizeOf9
 v9 := Tryz.zeroValue9
 t28 := Tryz.underlying28
 a28 := Tryz.isAgg28
 z28 := Tryz.sizeOf28
 v28 := Tryz.zeroValue28
 t46 := Tryz.underlying234
 a46 := Tryz.isAgg234
 z46 := Tryz.sizeOf234
 v46 := Tryz.zeroValue234
 t51 := Tryz.underlying254
 a51 := Tryz.isAgg254
 z51 := Tryz.sizeOf254
 v51 := Tryz.zeroValue254
 t53 := Tryz.underlying256
 a53 := Tryz.isAgg256
 z53 := Tryz.sizeOf256
 v53 := Tryz.zeroValue256
 t131 := Tryz.underlying86
 a131 := Tryz.isAgg86
 z131 := Tryz.sizeOf86
 v131 := Tryz.zeroValue86
 t182 := Tryz.underlying247
 a182 := Tryz.isAgg247
 z182 := Tryz.sizeOf247
 v182 := Tryz.zeroValue247
 t183 := Tryz.underlying248
 a183 := Tryz.isAgg248
 z183 := Tryz.sizeOf248
 v183 := Tryz.zeroValue248
 t218 := Tryz.underlying272
 a218 := Tryz.isAgg272
 z218 := Tryz.sizeOf272
 v218 := Tryz.zeroValue272
 t222 := Tryz.underlying243
 a222 := Tryz.isAgg243
 z222 := Tryz.sizeOf243
 v222 := Tryz.zeroValue243
 t228 := Tryz.underlying284
 a228 := Tryz.isAgg284
 z228 := Tryz.sizeOf284
 v228 := Tryz.zeroValue284
 t229 := Tryz.underlying156
 a229 := Tryz.isAgg156
 z229 := Tryz.sizeOf156
 v229 := Tryz.zeroValue156 }
open Go.Sort Go.RowKit in
theorem Tryz.slices_Sort_int (blk off cap : Nat) (zs : List Int) (w : World) (hH : Holds (Value.int .i64) w blk off zs.toArray) (hblk : blk < w.heap.size) (hsz : zs.length < 4611686018427387904) :
 Calls Tryz.prog 168 #[.slice (some ⟨blk, off, none⟩) zs.length cap] w fun e w' =>
  e = .returned (.tuple #[]) ∧ ∃ n os, w' = grow (putRow (Value.int .i64) (Sort.ahead w n) blk off (zs.mergeSort fun x y => decide (x ≤ y)).toArray) os := Any.slices_Sort_int Tryz.lays189 blk off cap zs w hH hblk hsz
end Go.Proofs
/- slices.Sort of a list of numbers that is the call's own. -/
namespace Go.Proofs.YtkiapldehlnndaaGreatDoor
open Go.RowKit Go.Maps
theorem sortI_any (w : World) (B g cap : Nat) (zs : List Int) (h : OwnI w B (.slice (some ⟨g, 0, none⟩) zs.length cap) zs) (hn : zs.length ≤ 1000000) :
 Calls Tryz.prog 168 #[.slice (some ⟨g, 0, none⟩) zs.length cap] w fun e w' => e = .returned (.tuple #[]) ∧ OwnI w' B (.slice (some ⟨g, 0, none⟩) zs.length cap) (zs.mergeSort fun x y => decide (x ≤ y)) ∧ w.grownBy w' (some g) := by
 rcases h.2 with ⟨e, _⟩ | ⟨g', cap', cur, e, hg, hb, hc, hm, hs, ht⟩
 ·cases e
 injection e with e1 e2 e3
 have e4 := Option.some.inj e1
 injection e4 with e5
 subst e5; subst e3
 rw [Nat.mul_one] at ht
 refine (Tryz.slices_Sort_int g 0 cap zs w (holds_of_blockI hb ht) (t_lt hb) (by omega)).mono ?_
 rintro r w' ⟨rfl, n, os, rfl⟩
 have hl : (zs.mergeSort fun x y => decide (x ≤ y)).length = zs.length := List.length_mergeSort _
 refine ⟨rfl, ?_, grownBy_sortedI _⟩
 have := ownsRow_sortedI (n := n) (os := os) hl hg hb hc hm hs
 unfold OwnI
 rw [hl]
 exact this
theorem sort_perm (zs : List Int) : (zs.mergeSort fun x y => decide (x ≤ y)).Perm zs := List.mergeSort_perm _ _
theorem sort_rise (zs : List Int) : (zs.mergeSort fun x y => decide (x ≤ y)).Pairwise (· ≤ ·) := by
 have h := List.pairwise_mergeSort (le := fun x y : Int => decide (x ≤ y)) (fun a b c h1 h2 => by simp at *; omega) (fun a b => by simp; omega) zs
 exact h.imp fun h => by simpa using h
end Go.Proofs.YtkiapldehlnndaaGreatDoor
/- Contract of the program's signature: the text of a state's class, and of the labels and classes that its steps lead to. -/
namespace Go.Proofs.YtkiapldehlnndaaGreatDoor
open Go.RowKit Go.Maps
attribute [local go_sem ↓] Go.wp_at_zero Go.wp_at_succ
def Pow (w : World) : Prop := Lib.TabBelow Tryz.prog w.heap.size w "internal/strconv.uint64pow10" .u64 Lib.pow10Tab
structure SgAt (w wr : World) (g : Nat) (tv : Value) (txt : List UInt8) (es : List Int) : Prop where
 bl : Below w.heap.size w wr
 gu : w.heap.size ≤ g
 row : ∃ cur, wr.heap[g]? = some (.cells cur 3 (0, 0)) ∧ ∀ (i : Nat) (z : Int), es[i]? = some z → cur[i]? = some (.int .i64 z)
 text : wr.ownsRow w.heap.size 5 1 tv txt.length (Lib.byteCells txt)
end Go.Proofs.YtkiapldehlnndaaGreatDoor
/- Contract of the program's signature: the walk. -/
namespace Go.Proofs.YtkiapldehlnndaaGreatDoor
open Go.RowKit Go.Maps
attribute [local go_sem ↓] Go.wp_at_zero Go.wp_at_succ
def sigB (c : Int) (es : List Int) : ByteArray := ⟨(Ro.sigL c es).toArray⟩
theorem ends_take {n : Int} {c : List Nat} {zs : List Ro.St} {i : Nat} {z : Ro.St} (h : zs[i]? = some z) : Ro.ends n c (zs.take (i + 1)) = Ro.ends n c (zs.take i) ++ [z.1 * n + Ro.cl c z.2] := by
 rw [take_succ_of h]
 simp [Ro.ends]
end Go.Proofs.YtkiapldehlnndaaGreatDoor
