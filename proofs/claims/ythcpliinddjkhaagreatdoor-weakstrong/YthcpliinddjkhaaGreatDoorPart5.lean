/- Texts of this claim, joined: RoPure, SgPure, SgPst, SgRun, SgUpd, SgApp, SgAdd, SgInv, SyOut0, BXSteps. -/
import GoSem.Claim
import Derived.Test.YthcpliinddjkhaaGreatDoorPart4
import Derived.Test.YthcpliinddjkhaaGreatDoorPart3
import Derived.Deep.RegionHeld3
import Derived.Test.YthcpliinddjkhaaGreatDoorPart0
import Derived.Test.YthcpliinddjkhaaGreatDoorPart1
import Derived.Deep.QuietTactic
import Derived.BigQuiet
namespace Go.Proofs.YthcpliinddjkhaaGreatDoor
namespace Ro
section
variable {K : Type} [DecidableEq K]
def place (c : K) : List K -> Nat
 | [] => 0
 | a :: r => if a = c then 0 else place c r + 1
def more (c : K) (l : List K) : List K := if c ∈ l then l else l ++ [c]
def dd (l : List K) : List K := l.foldl (fun s c => more c s) []
def num (l : List K) : List Nat := l.map fun z => place z (dd l)
theorem place_le (c : K) (l : List K) : place c l <= l.length := by
 induction l with
 | nil => simp [place]
 | cons a r ih => unfold place; split <;> simp <;> omega
theorem place_lt {c : K} {l : List K} : place c l < l.length ↔ c ∈ l := by
 induction l with
 | nil => simp [place]
 | cons a r ih =>
   unfold place
   by_cases h : a = c
   ·simp [h]
   ·rw [if_neg h, List.length_cons, Nat.add_lt_add_iff_right, ih, List.mem_cons]
    exact ⟨fun h1 => .inr h1, fun h1 => h1.elim (fun e => absurd e.symm h) id⟩
theorem place_no {c : K} {l : List K} (h : c ∉ l) : place c l = l.length := by
 have h1 := place_le c l
 have h2 : ¬ place c l < l.length := fun h2 => h (place_lt.1 h2)
 omega
theorem place_at {c : K} {l : List K} (h : c ∈ l) : l[place c l]? = some c := by
 induction l with
 | nil => simp at h
 | cons a r ih =>
   unfold place
   by_cases h1 : a = c
   ·simp [h1]
   ·rw [if_neg h1, List.getElem?_cons_succ]
    exact ih ((List.mem_cons.1 h).elim (fun e => absurd e.symm h1) id)
theorem place_inj {a b : K} {l : List K} (ha : a ∈ l) (hb : b ∈ l) (h : place a l = place b l) : a = b := by
 have h1 := place_at ha
 rw [h, place_at hb] at h1
 exact (Option.some.inj h1).symm
theorem place_left {c : K} {a : List K} (b : List K) (h : c ∈ a) : place c (a ++ b) = place c a := by
 induction a with
 | nil => simp at h
 | cons x r ih =>
   simp only [List.cons_append, place]
   by_cases h1 : x = c
   ·simp [h1]
   ·rw [if_neg h1, if_neg h1, ih ((List.mem_cons.1 h).elim (fun e => absurd e.symm h1) id)]
theorem place_more (c : K) (l : List K) : place c (more c l) = place c l := by
 unfold more
 split
 ·rfl
 ·rename_i h
  rw [place_no h]
  induction l with
  | nil => simp [place]
  | cons x r ih =>
    have hx : x ≠ c := fun e => h (by rw [e]; exact List.mem_cons_self)
    have hr : c ∉ r := fun e => h (List.mem_cons_of_mem _ e)
    simp only [List.cons_append, place]
    rw [if_neg hx, ih hr]
    simp
theorem dd_snoc (l : List K) (c : K) : dd (l ++ [c]) = more c (dd l) := by simp [dd]
theorem mem_more {c x : K} {l : List K} : x ∈ more c l ↔ x ∈ l \/ x = c := by
 unfold more
 split
 ·rename_i h
  exact ⟨.inl, fun h1 => h1.elim id fun e => by rw [e]; exact h⟩
 ·simp
theorem snoc_ind {α : Type} {P : List α -> Prop} (h0 : P []) (hs : ∀ l x, P l -> P (l ++ [x])) (l : List α) : P l := by
 have h : ∀ n (l : List α), l.length = n -> P l := fun n => by
  induction n with
  | zero => intro l hl; rw [List.length_eq_zero_iff.1 hl]; exact h0
  | succ n ih =>
    intro l hl
    rcases List.eq_nil_or_concat l with rfl | ⟨m, x, rfl⟩
    ·simp at hl
    ·rw [List.concat_eq_append]
     exact hs m x (ih m (by simp at hl; omega))
 exact h _ l rfl
theorem mem_dd {x : K} (l : List K) : x ∈ dd l ↔ x ∈ l := by
 refine snoc_ind (P := fun l => x ∈ dd l ↔ x ∈ l) (by simp [dd]) (fun l c ih => ?_) l
 rw [dd_snoc, mem_more, ih]
 simp
theorem num_len (l : List K) : (num l).length = l.length := by simp [num]
theorem num_snoc (l : List K) (c : K) : num (l ++ [c]) = num l ++ [place c (dd l)] := by
 unfold num
 rw [List.map_append, dd_snoc]
 congr 1
 ·refine List.map_congr_left fun z hz => ?_
  have h1 : z ∈ dd l := (mem_dd l).2 hz
  unfold more
  split
  ·rfl
  ·exact place_left _ h1
 ·simp [place_more]
theorem num_at {l : List K} {i : Nat} {x : K} (h : l[i]? = some x) : (num l)[i]? = some (place x (dd l)) := by
 unfold num
 rw [List.getElem?_map, h]
 rfl
theorem num_eq {l : List K} {i j : Nat} {x y : K} (hi : l[i]? = some x) (hj : l[j]? = some y) {u v : Nat} (hu : (num l)[i]? = some u) (hv : (num l)[j]? = some v) : u = v ↔ x = y := by
 rw [num_at hi] at hu
 rw [num_at hj] at hv
 simp only [Option.some.injEq] at hu hv
 subst hu; subst hv
 exact ⟨fun e => place_inj ((mem_dd l).2 (List.mem_of_getElem? hi)) ((mem_dd l).2 (List.mem_of_getElem? hj)) e, fun e => by rw [e]⟩
theorem dd_len_snoc (l : List K) (c : K) : (dd (l ++ [c])).length = (dd l).length + if c ∈ l then 0 else 1 := by
 rw [dd_snoc]
 unfold more
 by_cases h : c ∈ l
 ·rw [if_pos ((mem_dd l).2 h), if_pos h]
  rfl
 ·rw [if_neg (fun h1 => h ((mem_dd l).1 h1)), if_neg h]
  simp
theorem dd_le (l : List K) : (dd l).length <= l.length := by
 refine snoc_ind (P := fun l => (dd l).length <= l.length) (by simp [dd]) (fun l c ih => ?_) l
 rw [dd_len_snoc]
 simp only [List.length_append, List.length_cons, List.length_nil]
 split <;> omega
theorem num_lt {l : List K} {u : Nat} (h : u ∈ num l) : u < (dd l).length := by
 obtain ⟨z, hz, rfl⟩ := List.mem_map.1 h
 exact place_lt.2 ((mem_dd l).2 hz)
end
theorem finer {A B : Type} [DecidableEq A] [DecidableEq B] (l : List (A × B)) (hf : ∀ p ∈ l, ∀ q ∈ l, p.1 = q.1 -> p.2 = q.2) :
 (dd (l.map (·.2))).length <= (dd (l.map (·.1))).length /\ ((dd (l.map (·.2))).length = (dd (l.map (·.1))).length -> num (l.map (·.1)) = num (l.map (·.2))) := by
 revert hf
 refine snoc_ind (P := fun l : List (A × B) => (∀ p ∈ l, ∀ q ∈ l, p.1 = q.1 -> p.2 = q.2) -> (dd (l.map (·.2))).length <= (dd (l.map (·.1))).length /\ ((dd (l.map (·.2))).length = (dd (l.map (·.1))).length -> num (l.map (·.1)) = num (l.map (·.2)))) (fun _ => ⟨by simp [dd], fun _ => rfl⟩) (fun l x ih hf => ?_) l
 obtain ⟨ih1, ih2⟩ := ih fun p hp q hq => hf p (List.mem_append_left _ hp) q (List.mem_append_left _ hq)
 simp only [List.map_append, List.map_cons, List.map_nil]
 rw [dd_len_snoc, dd_len_snoc, num_snoc, num_snoc]
 by_cases hx : x.1 ∈ l.map (·.1)
 ·obtain ⟨q, hq, hqe⟩ := List.mem_map.1 hx
  have h2 := hf q (List.mem_append_left _ hq) x (List.mem_append_right _ List.mem_cons_self) hqe
  have hy : x.2 ∈ l.map (·.2) := List.mem_map.2 ⟨q, hq, h2⟩
  rw [if_pos hx, if_pos hy]
  refine ⟨by omega, fun e => ?_⟩
  have h3 := ih2 (by omega)
  obtain ⟨i, hi⟩ := List.mem_iff_getElem?.1 hq
  have a1 := num_at (l := l.map (·.1)) (i := i) (x := q.1) (by rw [List.getElem?_map, hi]; rfl)
  have a2 := num_at (l := l.map (·.2)) (i := i) (x := q.2) (by rw [List.getElem?_map, hi]; rfl)
  rw [h3, a2] at a1
  rw [h3, <- hqe, <- h2, Option.some.inj a1]
 ·rw [if_neg hx]
  by_cases hy : x.2 ∈ l.map (·.2)
  ·rw [if_pos hy]
   exact ⟨by omega, fun e => by omega⟩
  ·rw [if_neg hy]
   refine ⟨by omega, fun e => ?_⟩
   have e2 : (dd (l.map (·.2))).length = (dd (l.map (·.1))).length := by omega
   rw [ih2 e2, place_no (fun h => hx ((mem_dd _).1 h)), place_no (fun h => hy ((mem_dd _).1 h)), e2]
theorem num_congr {A B : Type} [DecidableEq A] [DecidableEq B] {a : List A} {b : List B} (hl : a.length = b.length) (h : ∀ (i j : Nat) (x y : A) (u v : B), a[i]? = some x -> a[j]? = some y -> b[i]? = some u -> b[j]? = some v -> (x = y ↔ u = v)) : num a = num b := by
 have hz1 : (a.zip b).map (·.1) = a := by rw [List.map_fst_zip (by omega)]
 have hz2 : (a.zip b).map (·.2) = b := by rw [List.map_snd_zip (by omega)]
 have hm : ∀ p ∈ a.zip b, ∃ i : Nat, a[i]? = some p.1 /\ b[i]? = some p.2 := fun p hp => by
  obtain ⟨i, hi⟩ := List.mem_iff_getElem?.1 hp
  rw [List.getElem?_zip_eq_some] at hi
  exact ⟨i, hi⟩
 have f1 := finer (a.zip b) fun p hp q hq e => by
  obtain ⟨i, hi1, hi2⟩ := hm p hp
  obtain ⟨j, hj1, hj2⟩ := hm q hq
  exact (h i j _ _ _ _ hi1 hj1 hi2 hj2).1 e
 have hb : ∀ (l : List (A × B)), (l.map Prod.swap).map (·.1) = l.map (·.2) /\ (l.map Prod.swap).map (·.2) = l.map (·.1) := fun l => by simp
 have f2 := finer ((a.zip b).map Prod.swap) fun p hp q hq e => by
  obtain ⟨p', hp', rfl⟩ := List.mem_map.1 hp
  obtain ⟨q', hq', rfl⟩ := List.mem_map.1 hq
  obtain ⟨i, hi1, hi2⟩ := hm p' hp'
  obtain ⟨j, hj1, hj2⟩ := hm q' hq'
  exact (h i j _ _ _ _ hi1 hj1 hi2 hj2).2 e
 rw [(hb _).1, (hb _).2] at f2
 rw [hz1, hz2] at f1 f2
 exact f1.2 (by omega)
theorem num_num {A : Type} [DecidableEq A] (l : List A) : num (num l) = num l := by
 refine num_congr (num_len l) fun i j x y u v hx hy hu hv => ?_
 exact num_eq hu hv hx hy
def Rise (l : List Int) : Prop := l.Pairwise (· < ·)
theorem rise_unique {a b : List Int} (ha : Rise a) (hb : Rise b) (h : ∀ x, x ∈ a ↔ x ∈ b) : a = b := by
 induction a generalizing b with
 | nil =>
   cases b with
   | nil => rfl
   | cons y s => exact absurd ((h y).2 List.mem_cons_self) (by simp)
 | cons x r ih =>
   cases b with
   | nil => exact absurd ((h x).1 List.mem_cons_self) (by simp)
   | cons y s =>
     obtain ⟨hx, hr⟩ := List.pairwise_cons.1 ha
     obtain ⟨hy, hs⟩ := List.pairwise_cons.1 hb
     have e : x = y := by
      rcases List.mem_cons.1 ((h x).1 List.mem_cons_self) with e | h1
      ·exact e
      ·rcases List.mem_cons.1 ((h y).2 List.mem_cons_self) with e | h2
       ·exact e.symm
       ·have := hx y h2; have := hy x h1; omega
     subst e
     congr 1
     refine ih hr hs fun z => ⟨fun hz => ?_, fun hz => ?_⟩
     ·rcases List.mem_cons.1 ((h z).1 (List.mem_cons_of_mem _ hz)) with e | h1
      ·have := hx z hz; omega
      ·exact h1
     ·rcases List.mem_cons.1 ((h z).2 (List.mem_cons_of_mem _ hz)) with e | h1
      ·have := hy z hz; omega
      ·exact h1
def ins (x : Int) : List Int -> List Int
 | [] => [x]
 | a :: r => if x < a then x :: a :: r else if a = x then a :: r else a :: ins x r
theorem mem_ins {x y : Int} {l : List Int} : y ∈ ins x l ↔ y = x \/ y ∈ l := by
 induction l with
 | nil => simp [ins]
 | cons a r ih =>
   unfold ins
   split
   ·simp
   ·split
    ·rename_i h; subst h; simp
    ·simp only [List.mem_cons, ih]
     constructor
     ·rintro (h | h | h) <;> simp [h]
     ·rintro (h | h | h) <;> simp [h]
theorem ins_rise {x : Int} {l : List Int} (h : Rise l) : Rise (ins x l) := by
 induction l with
 | nil => exact List.pairwise_singleton _ _
 | cons a r ih =>
   obtain ⟨ha, hr⟩ := List.pairwise_cons.1 h
   unfold ins
   split
   ·rename_i h1
    exact List.pairwise_cons.2 ⟨fun y hy => by rcases List.mem_cons.1 hy with rfl | hy; exact h1; have := ha y hy; omega, h⟩
   ·split
    ·exact h
    ·rename_i h1 h2
     exact List.pairwise_cons.2 ⟨fun y hy => by rcases mem_ins.1 hy with rfl | hy; omega; exact ha y hy, ih hr⟩
def sd : List Int -> List Int
 | [] => []
 | a :: r => ins a (sd r)
theorem mem_sd {x : Int} {l : List Int} : x ∈ sd l ↔ x ∈ l := by
 induction l with
 | nil => simp [sd]
 | cons a r ih => simp [sd, mem_ins, ih]
theorem sd_rise (l : List Int) : Rise (sd l) := by
 induction l with
 | nil => exact List.Pairwise.nil
 | cons a r ih => exact ins_rise ih
theorem sd_of {l m : List Int} (h : Rise m) (hm : ∀ x, x ∈ m ↔ x ∈ l) : m = sd l := rise_unique h (sd_rise l) fun x => (hm x).trans mem_sd.symm
theorem sd_eq {l m : List Int} : sd l = sd m ↔ ∀ x, x ∈ l ↔ x ∈ m := ⟨fun h x => by rw [<- mem_sd, h, mem_sd], fun h => sd_of (sd_rise l) fun x => mem_sd.trans (h x)⟩
abbrev St : Type := Int × Int
def cl (c : List Nat) (t : Int) : Nat := (c[t.toNat]?).getD 0
def ends (M : Int) (c : List Nat) (l : List St) : List Int := l.map fun z => z.1 * M + cl c z.2
def leads (c : List Nat) (l : List St) (b : Int) (k : Nat) : Prop := ∃ z ∈ l, z.1 = b /\ cl c z.2 = k
theorem mul_inj {a b M : Int} {k m : Nat} (hk : (k : Int) < M) (hm : (m : Int) < M) (h : a * M + k = b * M + m) : a = b /\ k = m := by
 have e : a = b := by
  rcases Int.lt_trichotomy a b with h1 | h1 | h1
  ·have h2 : (a + 1) * M <= b * M := Int.mul_le_mul_of_nonneg_right (by omega) (by omega)
   rw [Int.add_mul] at h2; omega
  ·exact h1
  ·have h2 : (b + 1) * M <= a * M := Int.mul_le_mul_of_nonneg_right (by omega) (by omega)
   rw [Int.add_mul] at h2; omega
 subst e
 exact ⟨rfl, by omega⟩
theorem ends_eq {M : Int} {c : List Nat} {l m : List St} (h1 : ∀ z ∈ l, (cl c z.2 : Int) < M) (h2 : ∀ z ∈ m, (cl c z.2 : Int) < M) : sd (ends M c l) = sd (ends M c m) ↔ ∀ b k, leads c l b k ↔ leads c m b k := by
 have half : ∀ {l m : List St}, (∀ z ∈ l, (cl c z.2 : Int) < M) -> (∀ z ∈ m, (cl c z.2 : Int) < M) -> (∀ x, x ∈ ends M c l -> x ∈ ends M c m) -> ∀ b k, leads c l b k -> leads c m b k := fun {l m} h1 h2 h b k hL => by
  obtain ⟨z, hz, rfl, rfl⟩ := hL
  obtain ⟨y, hy, he⟩ := List.mem_map.1 (h _ (List.mem_map.2 ⟨z, hz, rfl⟩))
  obtain ⟨e1, e2⟩ := mul_inj (h2 y hy) (h1 z hz) he
  exact ⟨y, hy, e1, e2⟩
 have back : ∀ {l m : List St}, (∀ b k, leads c l b k -> leads c m b k) -> ∀ x, x ∈ ends M c l -> x ∈ ends M c m := fun {l m} h x hx => by
  obtain ⟨z, hz, rfl⟩ := List.mem_map.1 hx
  obtain ⟨y, hy, e1, e2⟩ := h _ _ ⟨z, hz, rfl, rfl⟩
  exact List.mem_map.2 ⟨y, hy, by rw [e1, e2]⟩
 rw [sd_eq]
 constructor
 ·exact fun h b k => ⟨half h1 h2 (fun x => (h x).1) b k, half h2 h1 (fun x => (h x).2) b k⟩
 ·exact fun h x => ⟨back (fun b k => (h b k).1) x, back (fun b k => (h b k).2) x⟩
def key (out : Nat -> List St) (c : List Nat) (i : Nat) : Int × List Int := ((c[i]?).getD 0, sd (ends 1001 c (out i)))
def nx (n : Nat) (out : Nat -> List St) (c : List Nat) : List Nat := num ((List.range n).map (key out c))
def rnd (n : Nat) (out : Nat -> List St) : Nat -> List Nat
 | 0 => List.replicate n 0
 | k + 1 => nx n out (rnd n out k)
theorem nx_len (n : Nat) (out : Nat -> List St) (c : List Nat) : (nx n out c).length = n := by simp [nx, num_len]
theorem rnd_len (n : Nat) (out : Nat -> List St) (k : Nat) : (rnd n out k).length = n := by
 cases k with
 | zero => simp [rnd]
 | succ k => exact nx_len n out _
theorem nx_lt {n : Nat} {out : Nat -> List St} {c : List Nat} {u : Nat} (h : u ∈ nx n out c) : u < n := by
 have h1 := num_lt h
 have h2 := dd_le ((List.range n).map (key out c))
 simp at h2
 omega
theorem rnd_lt {n : Nat} {out : Nat -> List St} {k u : Nat} (h : u ∈ rnd n out k) : u < n := by
 cases k with
 | zero => obtain ⟨h1, rfl⟩ := List.mem_replicate.1 h; omega
 | succ k => exact nx_lt h
theorem key_at {n i : Nat} (out : Nat -> List St) (c : List Nat) (h : i < n) : ((List.range n).map (key out c))[i]? = some (key out c i) := by
 rw [List.getElem?_map, List.getElem?_range h]; rfl
theorem nx_eq {n : Nat} {out : Nat -> List St} {c : List Nat} (hc : c.length = n) (hn : n <= 1000) (hlt : ∀ u ∈ c, u < n) {i j u v x y : Nat} (hu : (nx n out c)[i]? = some u) (hv : (nx n out c)[j]? = some v) (hx : c[i]? = some x) (hy : c[j]? = some y) : u = v ↔ x = y /\ ∀ b k, leads c (out i) b k ↔ leads c (out j) b k := by
 have hi : i < n := by have := (List.getElem?_eq_some_iff.1 hx).1; omega
 have hj : j < n := by have := (List.getElem?_eq_some_iff.1 hy).1; omega
 have hM : ∀ t : Int, (cl c t : Int) < 1001 := fun t => by
  unfold cl
  cases h : c[t.toNat]? with
  | none => simp
  | some w => have := hlt w (List.mem_of_getElem? h); simp; omega
 have h1 := num_eq (key_at out c hi) (key_at out c hj) hu hv
 rw [h1]
 unfold key
 rw [hx, hy, Prod.mk.injEq, ends_eq (fun z _ => hM z.2) (fun z _ => hM z.2)]
 exact and_congr_left fun _ => (by simp only [Option.getD_some]; omega)
theorem rnd_num (n : Nat) (out : Nat -> List St) (k : Nat) : num (rnd n out k) = rnd n out k := by
 cases k with
 | zero =>
   show num (List.replicate n 0) = List.replicate n 0
   refine snoc_ind (P := fun l : List Nat => (∀ x ∈ l, x = 0) -> num l = l) (fun _ => rfl) (fun l x ih h => ?_) (List.replicate n 0) (fun x hx => (List.mem_replicate.1 hx).2)
   have hx : x = 0 := h x (List.mem_append_right _ List.mem_cons_self)
   subst hx
   have hl : ∀ y ∈ l, y = 0 := fun y hy => h y (List.mem_append_left _ hy)
   rw [num_snoc, ih hl]
   congr 2
   by_cases h0 : (0 : Nat) ∈ dd l
   ·have hlen : (dd l).length <= 1 := by
     clear ih h
     refine snoc_ind (P := fun l : List Nat => (∀ x ∈ l, x = 0) -> (dd l).length <= 1) (fun _ => by simp [dd]) (fun l x ih h => ?_) l hl
     have h1 := ih fun y hy => h y (List.mem_append_left _ hy)
     rw [dd_len_snoc]
     split
     ·omega
     ·rename_i hx
      have : l = [] := by
       cases l with
       | nil => rfl
       | cons y s => exact absurd (by rw [h x (List.mem_append_right _ List.mem_cons_self), <- h y List.mem_cons_self]; exact List.mem_cons_self) hx
      subst this
      simp [dd]
    have := place_lt.2 h0
    omega
   ·rw [place_no h0]
    cases l with
    | nil => simp [dd]
    | cons y s => exact absurd ((mem_dd _).2 (by rw [<- hl y List.mem_cons_self]; exact List.mem_cons_self)) h0
 | succ k => exact num_num _
theorem nx_stop {n : Nat} {out : Nat -> List St} {c : List Nat} (hc : c.length = n) (hnum : num c = c) : (dd c).length <= (dd (nx n out c)).length /\ ((dd c).length = (dd (nx n out c)).length -> nx n out c = c) := by
 have hf := finer ((nx n out c).zip c) fun p hp q hq e => by
  obtain ⟨i, hi⟩ := List.mem_iff_getElem?.1 hp
  obtain ⟨j, hj⟩ := List.mem_iff_getElem?.1 hq
  rw [List.getElem?_zip_eq_some] at hi hj
  have hil : i < n := by have := (List.getElem?_eq_some_iff.1 hi.2).1; omega
  have hjl : j < n := by have := (List.getElem?_eq_some_iff.1 hj.2).1; omega
  have h1 := (num_eq (key_at out c hil) (key_at out c hjl) hi.1 hj.1).1 e
  have h2 := (Prod.mk.injEq .. ▸ h1 : _ /\ _).1
  rw [hi.2, hj.2] at h2
  simp only [Option.getD_some] at h2
  omega
 rw [List.map_fst_zip (by rw [nx_len, hc]; exact Nat.le_refl _), List.map_snd_zip (by rw [nx_len, hc]; exact Nat.le_refl _)] at hf
 refine ⟨hf.1, fun e => ?_⟩
 have h1 := hf.2 e
 rw [hnum] at h1
 have h2 : num (nx n out c) = nx n out c := num_num _
 rw [<- h2, h1]
theorem rnd_stop {n : Nat} {out : Nat -> List St} {k : Nat} (h : (dd (rnd n out k)).length = (dd (rnd n out (k + 1))).length) : rnd n out (k + 1) = rnd n out k := (nx_stop (rnd_len n out k) (rnd_num n out k)).2 h
theorem rnd_grow {n : Nat} {out : Nat -> List St} {k : Nat} (hn : 0 < n) (h : ∀ j, j < k -> rnd n out (j + 1) ≠ rnd n out j) : k + 1 <= (dd (rnd n out k)).length := by
 induction k with
 | zero =>
   have : (0 : Nat) ∈ dd (rnd n out 0) := (mem_dd _).2 (List.mem_replicate.2 ⟨by omega, rfl⟩)
   exact List.length_pos_of_mem this
 | succ k ih =>
   have h1 := ih fun j hj => h j (by omega)
   have h2 := (nx_stop (out := out) (rnd_len n out k) (rnd_num n out k)).1
   have h3 : (dd (rnd n out k)).length ≠ (dd (rnd n out (k + 1))).length := fun e => h k (by omega) (rnd_stop e)
   show k + 1 + 1 <= (dd (rnd n out (k + 1))).length
   have h4 : (dd (rnd n out k)).length <= (dd (rnd n out (k + 1))).length := h2
   omega
def Last (n : Nat) (out : Nat -> List St) (R : Nat) : Prop := rnd n out (R + 1) = rnd n out R /\ ∀ j, j < R -> rnd n out (j + 1) ≠ rnd n out j
theorem changes_lt {n : Nat} {out : Nat -> List St} {k : Nat} (h : ∀ j, j < k -> rnd n out (j + 1) ≠ rnd n out j) : k < max n 1 := by
 by_cases hn : 0 < n
 ·have h1 := rnd_grow hn h
  have h2 := dd_le (rnd n out k)
  rw [rnd_len] at h2
  omega
 ·obtain rfl : n = 0 := by omega
  rcases Nat.eq_zero_or_pos k with rfl | hk
  ·simp
  ·exact absurd (by rw [List.length_eq_zero_iff.1 (rnd_len 0 out (0 + 1)), List.length_eq_zero_iff.1 (rnd_len 0 out 0)]) (h 0 hk)
theorem exists_last (n : Nat) (out : Nat -> List St) : ∃ R, Last n out R := by
 have h : ∀ f k, k + f = max n 1 -> (∀ j, j < k -> rnd n out (j + 1) ≠ rnd n out j) -> ∃ R, Last n out R := fun f => by
  induction f with
  | zero => intro k hk hc; have := changes_lt hc; omega
  | succ f ih =>
    intro k hk hc
    by_cases e : rnd n out (k + 1) = rnd n out k
    ·exact ⟨k, e, hc⟩
    ·exact ih (k + 1) (by omega) fun j hj => by
      rcases Nat.lt_or_ge j k with h1 | h1
      ·exact hc j h1
      ·obtain rfl : j = k := by omega
       exact e
 exact h (max n 1) 0 (by omega) fun j hj => by omega
theorem Last.unique {n : Nat} {out : Nat -> List St} {R S : Nat} (h : Last n out R) (k : Last n out S) : R = S := by
 rcases Nat.lt_trichotomy R S with h1 | h1 | h1
 ·exact absurd h.1 (k.2 R h1)
 ·exact h1
 ·exact absurd k.1 (h.2 S h1)
def rounds (n : Nat) (out : Nat -> List St) (k : Nat) : List (List Nat) := (List.range k).map (rnd n out)
def rankG (n : Nat) (out : Nat -> List St) (p q : Nat) (k : Nat) : Nat -> Int
 | 0 => -1
 | f + 1 => if (rnd n out k)[p]? = (rnd n out k)[q]? then rankG n out p q (k + 1) f else k
def rank (n : Nat) (out : Nat -> List St) (R p q : Nat) : Int := rankG n out p q 0 (R + 1)
end Ro
namespace Sg
open Ro
def into (out : Nat -> List St) (X : Nat -> Prop) (b : Int) (p : Nat) : Prop := ∃ z ∈ out p, z.1 = b /\ X z.2.toNat
def Fits (n : Nat) (out : Nat -> List St) : Prop := ∀ p, p < n -> ∀ z ∈ out p, 0 <= z.2 /\ z.2 < (n : Int)
theorem into_congr {n : Nat} {out : Nat -> List St} (hf : Fits n out) {X Y : Nat -> Prop} (h : ∀ t, t < n -> (X t ↔ Y t)) {b : Int} {p : Nat} (hp : p < n) : into out X b p ↔ into out Y b p := by
 have hh : ∀ {X Y : Nat -> Prop}, (∀ t, t < n -> (X t ↔ Y t)) -> into out X b p -> into out Y b p := fun h ⟨z, hz, e, hx⟩ => ⟨z, hz, e, (h _ (by have := hf p hp z hz; omega)).1 hx⟩
 exact ⟨hh h, hh fun t ht => (h t ht).symm⟩
def Stable (n : Nat) (out : Nat -> List St) (O : Nat -> Nat) : Prop := ∀ p q, p < n -> q < n -> O p = O q -> ∀ b B, into out (fun t => O t = B) b p -> into out (fun t => O t = B) b q
def Coarse (n : Nat) (c : List Nat) (O : Nat -> Nat) : Prop := ∀ p q, p < n -> q < n -> c[p]? = c[q]? -> O p = O q
theorem cl_of {c : List Nat} {t : Int} {x : Nat} (h : c[t.toNat]? = some x) : cl c t = x := by unfold cl; rw [h]; rfl
theorem at_lt {n : Nat} {c : List Nat} (hc : c.length = n) {p : Nat} (hp : p < n) : ∃ x, c[p]? = some x := ⟨c[p]'(by omega), List.getElem?_eq_getElem _⟩
theorem stable_rnd {n : Nat} {out : Nat -> List St} {O : Nat -> Nat} (hn : n <= 1000) (hf : Fits n out) (hs : Stable n out O) : ∀ k p q, p < n -> q < n -> O p = O q -> (rnd n out k)[p]? = (rnd n out k)[q]? := by
 intro k
 induction k with
 | zero => intro p q hp hq _; simp [rnd, hp, hq]
 | succ k ih =>
   intro p q hp hq e
   obtain ⟨u, hu⟩ := at_lt (rnd_len n out (k + 1)) hp
   obtain ⟨v, hv⟩ := at_lt (rnd_len n out (k + 1)) hq
   obtain ⟨x, hx⟩ := at_lt (rnd_len n out k) hp
   obtain ⟨y, hy⟩ := at_lt (rnd_len n out k) hq
   have half : ∀ p q, p < n -> q < n -> O p = O q -> ∀ b j, leads (rnd n out k) (out p) b j -> leads (rnd n out k) (out q) b j := fun p q hp hq e b j ⟨z, hz, e1, e2⟩ => by
    obtain ⟨z', hz', e3, e4⟩ := hs p q hp hq e b (O z.2.toNat) ⟨z, hz, e1, rfl⟩
    refine ⟨z', hz', e3, ?_⟩
    have h1 := hf p hp z hz
    have h2 := hf q hq z' hz'
    have h3 := ih z'.2.toNat z.2.toNat (by omega) (by omega) e4
    rw [<- e2]
    unfold cl
    rw [h3]
   have h1 := nx_eq (out := out) (rnd_len n out k) hn (fun u hu => rnd_lt hu) (i := p) (j := q) hu hv hx hy
   rw [hu, hv, h1.2 ⟨?_, fun b j => ⟨half p q hp hq e b j, half q p hq hp e.symm b j⟩⟩]
   have h2 := ih p q hp hq e
   rw [hx, hy] at h2
   exact Option.some.inj h2
def Sat (n : Nat) (c : List Nat) (X : Nat -> Prop) : Prop := ∀ p q, p < n -> q < n -> c[p]? = c[q]? -> X p -> X q
theorem last_into {n : Nat} {out : Nat -> List St} {R : Nat} (hn : n <= 1000) (hf : Fits n out) (hR : Last n out R) {X : Nat -> Prop} (hX : Sat n (rnd n out R) X) (b : Int) : Sat n (rnd n out R) (into out X b) := by
 intro p q hp hq e ⟨z, hz, e1, hx⟩
 obtain ⟨x, hcx⟩ := at_lt (rnd_len n out R) hp
 obtain ⟨y, hcy⟩ := at_lt (rnd_len n out R) hq
 have hu : (nx n out (rnd n out R))[p]? = some x := by
  have h1 : nx n out (rnd n out R) = rnd n out R := hR.1
  rw [h1]; exact hcx
 have hv : (nx n out (rnd n out R))[q]? = some y := by
  have h1 : nx n out (rnd n out R) = rnd n out R := hR.1
  rw [h1]; exact hcy
 have hxy : x = y := by rw [hcx, hcy] at e; exact Option.some.inj e
 have h1 := ((nx_eq (out := out) (rnd_len n out R) hn (fun u hu => rnd_lt hu) hu hv hcx hcy).1 hxy).2
 have h2 := hf p hp z hz
 obtain ⟨t, ht⟩ := at_lt (rnd_len n out R) (show z.2.toNat < n by omega)
 obtain ⟨z', hz', e3, e4⟩ := (h1 b t).1 ⟨z, hz, e1, cl_of ht⟩
 have h3 := hf q hq z' hz'
 obtain ⟨t', ht'⟩ := at_lt (rnd_len n out R) (show z'.2.toNat < n by omega)
 rw [cl_of ht'] at e4
 exact ⟨z', hz', e3, hX _ _ (by omega) (by omega) (by rw [ht, ht', e4]) hx⟩
theorem Coarse.sat {n : Nat} {c : List Nat} {O : Nat -> Nat} (h : Coarse n c O) (P : Nat -> Prop) : Sat n c (fun t => P (O t)) := fun p q hp hq e hx => by
 show P (O q)
 rw [<- h p q hp hq e]
 exact hx
theorem Sat.and {n : Nat} {c : List Nat} {X Y : Nat -> Prop} (h : Sat n c X) (k : Sat n c Y) : Sat n c (fun t => X t /\ Y t) := fun p q hp hq e hx => ⟨h p q hp hq e hx.1, k p q hp hq e hx.2⟩
theorem Sat.not {n : Nat} {c : List Nat} {X : Nat -> Prop} (h : Sat n c X) : Sat n c (fun t => ¬ X t) := fun p q hp hq e hx hy => hx (h q p hq hp e.symm hy)
theorem blocks_last {n : Nat} {out : Nat -> List St} {R : Nat} {O : Nat -> Nat} (hn : n <= 1000) (hf : Fits n out) (hs : Stable n out O) (hc : Coarse n (rnd n out R) O) : num ((List.range n).map O) = rnd n out R := by
 rw [<- rnd_num n out R]
 refine num_congr (by simp [rnd_len]) fun i j x y u v hx hy hu hv => ?_
 have hi : i < n := by have := (List.getElem?_eq_some_iff.1 hu).1; rw [rnd_len] at this; exact this
 have hj : j < n := by have := (List.getElem?_eq_some_iff.1 hv).1; rw [rnd_len] at this; exact this
 rw [List.getElem?_map, List.getElem?_range hi] at hx
 rw [List.getElem?_map, List.getElem?_range hj] at hy
 simp only [Option.map_some, Option.some.injEq] at hx hy
 subst hx; subst hy
 constructor
 ·intro e
  have := stable_rnd hn hf hs R i j hi hj e
  rw [hu, hv] at this
  exact Option.some.inj this
 ·intro e
  exact hc i j hi hj (by rw [hu, hv, e])
def Split (n : Nat) (S : (Nat -> Prop) -> Prop) (O O' : Nat -> Nat) : Prop := ∀ p q, p < n -> q < n -> (O' p = O' q ↔ O p = O q /\ ∀ X, S X -> (X p ↔ X q))
theorem Split.coarse {n : Nat} {S : (Nat -> Prop) -> Prop} {O O' : Nat -> Nat} {c : List Nat} (h : Split n S O O') (hc : Coarse n c O) (hS : ∀ X, S X -> Sat n c X) : Coarse n c O' := fun p q hp hq e => (h p q hp hq).2 ⟨hc p q hp hq e, fun X hX => ⟨hS X hX p q hp hq e, hS X hX q p hq hp e.symm⟩⟩
theorem Split.finer {n : Nat} {S : (Nat -> Prop) -> Prop} {O O' : Nat -> Nat} (h : Split n S O O') {p q : Nat} (hp : p < n) (hq : q < n) (e : O' p = O' q) : O p = O q := ((h p q hp hq).1 e).1
def Even (n : Nat) (out : Nat -> List St) (O H : Nat -> Nat) : Prop := ∀ p q, p < n -> q < n -> O p = O q -> ∀ b k, into out (fun t => H t = k) b p -> into out (fun t => H t = k) b q
def By (out : Nat -> List St) (B Y : Nat -> Prop) (X : Nat -> Prop) : Prop := ∃ b, (X = into out B b) \/ X = fun p => into out B b p /\ ¬ into out Y b p
end Sg
section
theorem split_eq {s : Pst} (hO : s.Ok) {b p q : Nat} (hb : b < s.nb) (hp : p < s.n) (hq : q < s.n) : (s.split b).O p = (s.split b).O q ↔ s.O p = s.O q /\ (s.O p = b -> s.isM p = s.isM q) := by
 rw [split_O hO hb hp, split_O hO hb hq]
 obtain ⟨p1, p2, p3⟩ := hO.o p hp
 obtain ⟨q1, q2, q3⟩ := hO.o q hq
 by_cases hs : s.splits b
 ·generalize decide (2 * (s.R b - s.B b) <= s.D b - s.B b) = d
  by_cases hpb : s.O p = b
  ·by_cases hqb : s.O q = b
   ·have e : ∀ y, s.O y = b -> (s.splits b /\ s.O y = b /\ s.isM y = d ↔ s.isM y = d) := fun y hy => ⟨fun h => h.2.2, fun h => ⟨hs, hy, h⟩⟩
    simp only [e p hpb, e q hqb]
    by_cases h1 : s.isM p = d
    ·rw [if_pos h1]
     by_cases h2 : s.isM q = d
     ·rw [if_pos h2]; exact ⟨fun _ => ⟨by rw [hpb, hqb], fun _ => by rw [h1, h2]⟩, fun _ => rfl⟩
     ·rw [if_neg h2]; exact ⟨fun h => by omega, fun h => absurd ((h.2 hpb).symm.trans h1) h2⟩
    ·rw [if_neg h1]
     by_cases h2 : s.isM q = d
     ·rw [if_pos h2]; exact ⟨fun h => by omega, fun h => absurd ((h.2 hpb).trans h2) h1⟩
     ·rw [if_neg h2]
      refine ⟨fun h => ⟨h, fun _ => ?_⟩, fun h => h.1⟩
      cases hm : s.isM p <;> cases hn : s.isM q <;> cases d <;> simp_all
   ·have eq2 : (if s.splits b /\ s.O q = b /\ s.isM q = d then s.nb else s.O q) = s.O q := if_neg (fun h => hqb h.2.1)
    rw [eq2]
    constructor
    ·intro h; split at h <;> omega
    ·intro h; exact absurd (h.1.symm.trans hpb) hqb
  ·have ep2 : (if s.splits b /\ s.O p = b /\ s.isM p = d then s.nb else s.O p) = s.O p := if_neg (fun h => hpb h.2.1)
   rw [ep2]
   by_cases hqb : s.O q = b
   ·constructor
    ·intro h; split at h <;> omega
    ·intro h; exact absurd (h.1.trans hqb) hpb
   ·have eq2 : (if s.splits b /\ s.O q = b /\ s.isM q = d then s.nb else s.O q) = s.O q := if_neg (fun h => hqb h.2.1)
    rw [eq2]
    exact ⟨fun h => ⟨h, fun h1 => absurd h1 hpb⟩, fun h => h.1⟩
 ·rw [if_neg (fun h => hs h.1), if_neg (fun h => hs h.1)]
  refine ⟨fun h => ⟨h, fun h1 => ?_⟩, fun h => h.1⟩
  have v := hO.iv b hb
  unfold Pst.splits at hs
  have hq1 : s.O q = b := h.symm.trans h1
  rw [h1] at p2 p3
  rw [hq1] at q2 q3
  unfold Pst.isM
  rw [h1, hq1]
  exact decide_eq_decide.2 (by omega)
def Pst.markIf (s : Pst) (e : Nat) : Pst := if s.P e < s.R (s.O e) then s else s.mark e
def Pst.marks (s : Pst) (l : List Nat) : Pst := l.foldl Pst.markIf s
def Pst.splitAll (s : Pst) (l : List Nat) : Pst := l.foldl (fun s e => s.split (s.O e)) s
theorem splitAll_ok {l : List Nat} : ∀ {s : Pst}, s.Ok -> (∀ e ∈ l, e < s.n) -> (s.splitAll l).Ok /\ (s.splitAll l).n = s.n /\ (∀ y, y < s.n -> ((s.splitAll l).isM y = true ↔ s.isM y = true /\ ∀ e ∈ l, s.O e ≠ s.O y)) /\ ∀ p q, p < s.n -> q < s.n -> ((s.splitAll l).O p = (s.splitAll l).O q ↔ s.O p = s.O q /\ ((∃ e ∈ l, s.O e = s.O p) -> s.isM p = s.isM q)) := by
 induction l with
 | nil => intro s hO _; exact ⟨hO, rfl, fun y _ => by simp [Pst.splitAll], fun p q _ _ => by simp [Pst.splitAll]⟩
 | cons e r ih =>
   intro s hO hl
   have he := hl e List.mem_cons_self
   have hb := (hO.o e he).1
   obtain ⟨h1, h2, _, _, h3⟩ := split_ok hO hb
   have hE := fun p q hp hq => split_eq (p := p) (q := q) hO hb hp hq
   obtain ⟨k1, k2, k3, k4⟩ := ih h1 (fun f hf => by rw [h2]; exact hl f (List.mem_cons_of_mem _ hf))
   have hr : ∀ f ∈ r, f < s.n := fun f hf => hl f (List.mem_cons_of_mem _ hf)
   refine ⟨k1, k2.trans h2, fun y hy => ?_, fun p q hp hq => ?_⟩
   ·show (Pst.splitAll (s.split (s.O e)) r).isM y = true ↔ _
    rw [k3 y (by rw [h2]; exact hy), h3 y hy]
    simp only [Bool.and_eq_true, decide_eq_true_eq, List.forall_mem_cons]
    constructor
    ·rintro ⟨⟨a1, a2⟩, a3⟩
     refine ⟨a1, fun h => a2 h.symm, fun f hf h => a3 f hf ?_⟩
     exact (hE f y (hr f hf) hy).2 ⟨h, fun h4 => absurd (h.symm.trans h4) a2⟩
    ·rintro ⟨a1, a2, a3⟩
     exact ⟨⟨a1, fun h => a2 h.symm⟩, fun f hf h => a3 f hf ((hE f y (hr f hf) hy).1 h).1⟩
   ·show (Pst.splitAll (s.split (s.O e)) r).O p = (Pst.splitAll (s.split (s.O e)) r).O q ↔ _
    rw [k4 p q (by rw [h2]; exact hp) (by rw [h2]; exact hq), hE p q hp hq, h3 p hp, h3 q hq]
    by_cases h4 : s.O p = s.O e
    ·constructor
     ·rintro ⟨⟨a1, a2⟩, _⟩
      exact ⟨a1, fun _ => a2 h4⟩
     ·rintro ⟨a1, a2⟩
      refine ⟨⟨a1, fun _ => a2 ⟨e, List.mem_cons_self, h4.symm⟩⟩, fun _ => ?_⟩
      have h5 : s.O q = s.O e := a1.symm.trans h4
      simp [h4, h5]
    ·constructor
     ·rintro ⟨⟨a1, a2⟩, a3⟩
      refine ⟨a1, fun ⟨f, hf, h5⟩ => ?_⟩
      have h6 : ¬ s.O q = s.O e := fun h => h4 (a1.trans h)
      rcases List.mem_cons.1 hf with rfl | hf
      ·exact absurd h5.symm h4
      ·have := a3 ⟨f, hf, (hE f p (hr f hf) hp).2 ⟨h5, fun h7 => absurd (h5.symm.trans h7) h4⟩⟩
       simpa [h4, h6] using this
     ·rintro ⟨a1, a2⟩
      refine ⟨⟨a1, fun h => absurd h h4⟩, fun ⟨f, hf, h5⟩ => ?_⟩
      rw [a2 ⟨f, List.mem_cons_of_mem _ hf, ((hE f p (hr f hf) hp).1 h5).1⟩, a1]
def Pst.bare (s : Pst) : Prop := ∀ y, y < s.n -> s.isM y = false
end
section
open Go.RowKit Go.Maps
attribute [local go_sem ↓] Go.wp_at_zero Go.wp_at_succ
theorem Que.cell {w : World} {B : Nat} {v : Value} {zs : List Int} (h : Que w B v zs) {i : Nat} {z : Int} (hi : zs[i]? = some z) : ∃ g off cap, v = .slice (some ⟨g, off, none⟩) zs.length cap /\ zs.length <= cap /\ w.cell? ⟨g, off + i, none⟩ = some (.int .i64 z) /\ w.frozen? ⟨g, off + i, none⟩ = false := by
 have hl := (List.getElem?_eq_some_iff.1 hi).1
 rcases h with ⟨_, rfl⟩ | ⟨g, off, cap, cur, rfl, hB, hg, hn, hm, hs, ht⟩
 ·simp at hi
 ·refine ⟨g, off, cap, rfl, hn, cell0_of hg ?_, blk_free hg _⟩
  rw [<- Array.getElem?_toList]
  have h9 : ((cur.toList.drop off).take zs.length)[i]? = (iC zs)[i]? := by rw [ht]
  rw [List.getElem?_take_of_lt hl, List.getElem?_drop] at h9
  rw [h9]
  simp [iC, hi]
theorem Que.set {w : World} {B g off n cap : Nat} {zs : List Int} (h : Que w B (.slice (some ⟨g, off, none⟩) n cap) zs) {i : Nat} (hi : i < zs.length) (z : Int) : Que (w.setCell ⟨g, off + i, none⟩ (.int .i64 z)) B (.slice (some ⟨g, off, none⟩) n cap) (zs.set i z) := by
 rcases h with ⟨e, _⟩ | ⟨g', off', cap', cur, e, hB, hg, hn, hm, hs, ht⟩
 ·cases e
 ·cases e
  refine .inr ⟨g, off, cap, _, by rw [List.length_set], hB, heap_setCell_same w g _ cur _ _ hg, by rw [List.length_set]; exact hn, hm, by simp; omega, ?_⟩
  rw [Array.toList_setIfInBounds, List.length_set]
  apply List.ext_getElem?
  intro j
  rcases Nat.lt_or_ge j zs.length with hj | hj
  ·have h9 : ((cur.toList.drop off).take zs.length)[j]? = (iC zs)[j]? := by rw [ht]
   rw [List.getElem?_take_of_lt hj, List.getElem?_drop] at h9
   rw [List.getElem?_take_of_lt hj, List.getElem?_drop]
   by_cases e : j = i
   ·subst e
    rw [List.getElem?_set_self (by simp; omega)]
    simp [iC, hi]
   ·rw [List.getElem?_set_ne (by omega), h9]
    simp only [iC, List.getElem?_map]
    rw [List.getElem?_set_ne (fun e2 => e e2.symm)]
  ·rw [List.getElem?_eq_none (by simp; omega), List.getElem?_eq_none (by simp [iC]; omega)]
structure Rv where
 vh : Value
 vo : Value
 vz : Value
 vw : Value
 ow : List Int
 sz : List Int
 wt : List Int
 H : List (Value × List Int)
 ks : List Nat
def Rv.L (x : Rv) : List (Value × List Int) := (x.vo, x.ow) :: (x.vz, x.sz) :: (x.vw, x.wt) :: x.H
def Rv.foot (x : Rv) (b : Nat) : Prop := x.vh.ownBlock = some b \/ Foot x.L b
structure RnM (w : World) (B r g p mb : Nat) (x : Rv) : Prop where
 box : w.heap[r]? = some (.cells #[.pointer (some ⟨g, 0, none⟩), .pointer (some ⟨p, 0, none⟩), x.vh, x.vo, x.vz, .map (some mb), x.vw] 203 (0, 0))
 hp : w.ownsRow B 221 2 x.vh x.ks.length (hpC x.H x.ks)
 len : x.H.length = x.ks.length
 q : QueAll w B x.L
 up : B <= r
 fl : ∀ z ∈ x.H, At0 z.1
theorem RnM.foot_lt {w : World} {B r g p mb : Nat} {x : Rv} (h : RnM w B r g p mb x) {b : Nat} (hb : x.foot b) : B <= b /\ b < w.heap.size := hb.elim (fun e => h.hp.lt b e) fun e => h.q.lt e
theorem RnM.foot_ne {w : World} {B r g p mb : Nat} {x : Rv} (h : RnM w B r g p mb x) {b : Nat} {cs : Array Value} {t : TypeId} (hb : w.heap[b]? = some (.cells cs t (0, 0))) (h1 : 221 ≠ t) (h2 : 3 ≠ t) : ¬ x.foot b := fun hf => by
 rcases hf with hf | hf
 ·exact own_bk h.hp hb h1 hf
 ·obtain ⟨c2, hc⟩ := h.q.typed hf
  rw [hb] at hc
  injection hc with e
  injection e with _ e
  exact h2 e.symm
theorem RnM.r_foot {w : World} {B r g p mb : Nat} {x : Rv} (h : RnM w B r g p mb x) : ¬ x.foot r := h.foot_ne h.box (by decide) (by decide)
theorem RnM.heap_list {w : World} {B r g p mb : Nat} {x : Rv} (h : RnM w B r g p mb x) {b : Nat} (h1 : x.vh.ownBlock = some b) : ¬ Foot x.L b := fun hf => by
 obtain ⟨c2, hc⟩ := h.q.typed hf
 exact own_bk h.hp hc (by decide) h1
theorem RnM.kept {w w' : World} {B r g p mb : Nat} {x : Rv} {F : Nat -> Prop} (h : RnM w B r g p mb x) (hk : Kept F w w') (hr : ¬ F r) (hF : ∀ b, x.foot b -> ¬ F b) : RnM w' B r g p mb x :=
 ⟨(hk.block r (t_lt h.box) hr).trans h.box, own_up h.hp hk fun b hb => hF b (.inl hb), h.len, h.q.kept hk fun b hb => hF b (.inr hb), h.up, h.fl⟩
theorem RnM.below {w w' : World} {B r g p mb : Nat} {x : Rv} (h : RnM w B r g p mb x) (hb : Below w.heap.size w w') : RnM w' B r g p mb x := h.kept (F := fun _ => False) ⟨hb.os, hb.tape, hb.output, hb.size, fun i hi _ => hb.block i hi⟩ (fun h => h) fun _ _ h => h
theorem seven_cells {w : World} {b : Nat} {a0 a1 a2 a3 a4 a5 a6 : Value} {t : TypeId} (h : w.heap[b]? = some (.cells #[a0, a1, a2, a3, a4, a5, a6] t (0, 0))) : w.cell? ⟨b, 0, none⟩ = some a0 /\ w.cell? ⟨b, 1, none⟩ = some a1 /\ w.cell? ⟨b, 2, none⟩ = some a2 /\ w.cell? ⟨b, 3, none⟩ = some a3 /\ w.cell? ⟨b, 4, none⟩ = some a4 /\ w.cell? ⟨b, 5, none⟩ = some a5 /\ w.cell? ⟨b, 6, none⟩ = some a6 :=
 ⟨cell0_of h rfl, cell0_of h rfl, cell0_of h rfl, cell0_of h rfl, cell0_of h rfl, cell0_of h rfl, cell0_of h rfl⟩
set_option maxHeartbeats 1000000 in
theorem rmembers_any (w0 : World) (B r g p mb : Nat) (x : Rv) (c : Nat -> Int) (s : Pst) (b : Nat) (w : World) (hM : RnM w B r g p mb x) (hP : Pt w0 w p c) (hL : Lay c s) (hO : s.Ok) (hb : b < s.nb) :
 Calls Tryz.prog 140 #[.pointer (some ⟨r, 0, none⟩), .int .i64 b] w fun e w' => ∃ u, e = .returned u /\ OwnI w' w.heap.size u (s.mem b) /\ Below w.heap.size w w' := by
 obtain ⟨_, c1, _⟩ := seven_cells hM.box
 have hMb := members_ok p c s b w0 w hP hL hO hb
 have H : Hid _ := And.intro hMb trivial
 clear hM hP hL hO hb hMb
 go_enter Tryz.func140, Tryz.ntmps140
 go_wp2_with (go_at_call 158; refine Calls.mono H.out.1 ?_; rintro r1 w1 ⟨u, rfl, hu, hb1⟩; have H1 : Hid _ := And.intro hu hb1; clear hu hb1)
 go_ret
 exact ⟨_, rfl, H1.out.1, H1.out.2⟩
end
section
open Go.RowKit Go.Maps
theorem QueAll.setAt {w : World} {B k g off n cap i : Nat} {L : List (Value × List Int)} {zs : List Int} (h : QueAll w B L) (hL : L[k]? = some (.slice (some ⟨g, off, none⟩) n cap, zs)) (hi : i < zs.length) (z : Int) : QueAll (w.setCell ⟨g, off + i, none⟩ (.int .i64 z)) B (L.set k (.slice (some ⟨g, off, none⟩) n cap, zs.set i z)) :=
 h.put hL ((Kept.setCell w g (off + i) _).mono fun b _ e => by rw [e]; rfl) ((h.q k _ hL).set hi z) (.inl rfl)
theorem RnM.setSz {w : World} {B r g p mb gz oz n cap : Nat} {x : Rv} (h : RnM w B r g p mb x) (hv : x.vz = .slice (some ⟨gz, oz, none⟩) n cap) {i : Nat} (hi : i < x.sz.length) (z : Int) : RnM (w.setCell ⟨gz, oz + i, none⟩ (.int .i64 z)) B r g p mb { x with sz := x.sz.set i z } := by
 have hf : Foot x.L gz := ⟨(x.vz, x.sz), by simp [Rv.L], by rw [hv]; rfl⟩
 have hr : r ≠ gz := fun e => h.r_foot (.inr (by rw [e]; exact hf))
 have hk := Kept.setCell w gz (oz + i) (.int .i64 z)
 refine ⟨(hk.block r (t_lt h.box) hr).trans h.box, own_up h.hp hk fun b hb e => h.heap_list hb (by rw [e]; exact hf), h.len, ?_, h.up, h.fl⟩
 have h1 := h.q.setAt (k := 1) (zs := x.sz) (by rw [<- hv]; rfl) hi z
 rw [<- hv] at h1
 exact h1
theorem box_put {w : World} {b k : Nat} {cs : Array Value} {t : TypeId} (h : w.heap[b]? = some (.cells cs t (0, 0))) (v : Value) : (w.setCell ⟨b, k, none⟩ v).heap[b]? = some (.cells (cs.setIfInBounds k v) t (0, 0)) := heap_setCell_same w b k cs t _ h
theorem RnM.parts {w w1 : World} {B r g p mb k : Nat} {x : Rv} {v v' : Value} {zs zs' : List Int} (h : RnM w B r g p mb x) (hL : x.L[k]? = some (v, zs)) (hk : Kept (fun b => v.ownBlock = some b) w w1) (hq : Que w1 B v' zs') (hat : v'.ownBlock = v.ownBlock \/ ∀ b, v'.ownBlock = some b -> w.heap.size <= b) :
 w1.heap[r]? = w.heap[r]? /\ w1.ownsRow B 221 2 x.vh x.ks.length (hpC x.H x.ks) /\ QueAll w1 B (x.L.set k (v', zs')) /\ (∀ b, Foot (x.L.set k (v', zs')) b -> b ≠ r) /\ (∀ b, x.vh.ownBlock = some b -> ¬ Foot (x.L.set k (v', zs')) b /\ b ≠ r) := by
 have hm : (v, zs) ∈ x.L := List.mem_of_getElem? hL
 have hfv : ∀ b, v.ownBlock = some b -> Foot x.L b := fun b hb => ⟨_, hm, hb⟩
 have hnew : ∀ b, Foot (x.L.set k (v', zs')) b -> Foot x.L b \/ w.heap.size <= b := fun b hb => by
  rcases foot_set hb with h1 | h1
  ·exact .inl h1
  ·rcases hat with h2 | h2
   ·exact .inl (hfv b (by rw [<- h2]; exact h1))
   ·exact .inr (h2 b h1)
 refine ⟨hk.block r (t_lt h.box) fun e => h.r_foot (.inr (hfv r e)), own_up h.hp hk fun b hb e => h.heap_list hb (hfv b e), h.q.put hL hk hq hat, fun b hb e => ?_, fun b hb => ⟨fun hf => ?_, fun e => ?_⟩⟩
 ·rcases hnew b hb with h1 | h1
  ·exact h.r_foot (.inr (by rw [<- e]; exact h1))
  ·have := t_lt h.box; omega
 ·rcases hnew b hf with h1 | h1
  ·exact h.heap_list hb h1
  ·have := (h.hp.lt b hb).2; omega
 ·exact h.r_foot (.inl (by rw [<- e]; exact hb))
theorem QueAll.setBox {w : World} {B r k : Nat} {L : List (Value × List Int)} (h : QueAll w B L) (hr : ∀ b, Foot L b -> b ≠ r) (v : Value) : QueAll (w.setCell ⟨r, k, none⟩ v) B L := h.kept (Kept.setCell w r k v) fun b hb e => hr b hb e
theorem RnM.appVz {w w1 : World} {B r g p mb : Nat} {x : Rv} {v' : Value} {zs' : List Int} (h : RnM w B r g p mb x) (hk : Kept (fun b => x.vz.ownBlock = some b) w w1) (hq : Que w1 B v' zs') (hat : v'.ownBlock = x.vz.ownBlock \/ ∀ b, v'.ownBlock = some b -> w.heap.size <= b) : RnM (w1.setCell ⟨r, 4, none⟩ v') B r g p mb { x with vz := v', sz := zs' } := by
 obtain ⟨h1, h2, h3, h4, h5⟩ := h.parts (k := 1) rfl hk hq hat
 exact ⟨box_put (h1.trans h.box) v', own_up h2 (Kept.setCell w1 r 4 v') fun b hb e => (h5 b hb).2 e, h.len, h3.setBox h4 v', h.up, h.fl⟩
theorem RnM.appVo {w w1 : World} {B r g p mb : Nat} {x : Rv} {v' : Value} {zs' : List Int} (h : RnM w B r g p mb x) (hk : Kept (fun b => x.vo.ownBlock = some b) w w1) (hq : Que w1 B v' zs') (hat : v'.ownBlock = x.vo.ownBlock \/ ∀ b, v'.ownBlock = some b -> w.heap.size <= b) : RnM (w1.setCell ⟨r, 3, none⟩ v') B r g p mb { x with vo := v', ow := zs' } := by
 obtain ⟨h1, h2, h3, h4, h5⟩ := h.parts (k := 0) rfl hk hq hat
 exact ⟨box_put (h1.trans h.box) v', own_up h2 (Kept.setCell w1 r 3 v') fun b hb e => (h5 b hb).2 e, h.len, h3.setBox h4 v', h.up, h.fl⟩
theorem RnM.appVw {w w1 : World} {B r g p mb : Nat} {x : Rv} {v' : Value} {zs' : List Int} (h : RnM w B r g p mb x) (hk : Kept (fun b => x.vw.ownBlock = some b) w w1) (hq : Que w1 B v' zs') (hat : v'.ownBlock = x.vw.ownBlock \/ ∀ b, v'.ownBlock = some b -> w.heap.size <= b) : RnM (w1.setCell ⟨r, 6, none⟩ v') B r g p mb { x with vw := v', wt := zs' } := by
 obtain ⟨h1, h2, h3, h4, h5⟩ := h.parts (k := 2) rfl hk hq hat
 exact ⟨box_put (h1.trans h.box) v', own_up h2 (Kept.setCell w1 r 6 v') fun b hb e => (h5 b hb).2 e, h.len, h3.setBox h4 v', h.up, h.fl⟩
theorem RnM.putHeap {w w1 : World} {B r g p mb gh cap o : Nat} {x : Rv} {v v' : Value} {bs bs' : List Int} (h : RnM w B r g p mb x) (hv : x.vh = .slice (some ⟨gh, 0, none⟩) x.ks.length cap) (hH : x.H[o]? = some (v, bs)) (hk : Kept (fun b => v.ownBlock = some b) w w1) (hq : Que w1 B v' bs') (hat : v'.ownBlock = v.ownBlock \/ ∀ b, v'.ownBlock = some b -> w.heap.size <= b) (ha : At0 v') : RnM (w1.setCell ⟨gh, o * 2, none⟩ v') B r g p mb { x with H := x.H.set o (v', bs') } := by
 obtain ⟨h1, h2, h3, h4, h5⟩ := h.parts (k := o + 3) (by show x.H[o]? = _; exact hH) hk hq hat
 have hgh := h5 gh (by rw [hv]; rfl)
 refine ⟨(set_other _ _ _ _ _ (fun e => hgh.2 e.symm)).trans (h1.trans h.box), ?_, by rw [List.length_set]; exact h.len, ?_, h.up, fun z hz => (List.mem_or_eq_of_mem_set hz).elim (h.fl z) fun e => by rw [e]; exact ha⟩
 ·have h6 := h2
  rw [hv] at h6
  have h7 := (h6.stored (o * 2) v').1
  rw [hpC_set x.H x.ks o (v', bs')] at h7
  show World.ownsRow _ _ _ _ x.vh _ _
  rw [hv]
  exact h7
 ·have h6 := h3.kept (Kept.setCell w1 gh (o * 2) v') fun b hb e => hgh.1 (by rw [<- e]; exact hb)
  exact h6
theorem RnM.putStates {w : World} {B r g p mb gh cap o : Nat} {x : Rv} (h : RnM w B r g p mb x) (hv : x.vh = .slice (some ⟨gh, 0, none⟩) x.ks.length cap) (k : Nat) : RnM (w.setCell ⟨gh, o * 2 + 1, none⟩ (.int .i64 (k : Int))) B r g p mb { x with ks := x.ks.set o k } := by
 have hb : x.vh.ownBlock = some gh := by rw [hv]; rfl
 have hr : r ≠ gh := fun e => h.r_foot (.inl (by rw [e]; exact hb))
 refine ⟨(set_other _ _ _ _ _ hr).trans h.box, ?_, by rw [List.length_set]; exact h.len, h.q.kept (Kept.setCell w gh _ _) fun b hf e => h.heap_list hb (by rw [<- e]; exact hf), h.up, h.fl⟩
 have h6 := h.hp
 rw [hv] at h6
 have h7 := (h6.stored (o * 2 + 1) (.int .i64 (k : Int))).1
 rw [hpC_setk] at h7
 show World.ownsRow _ _ _ _ x.vh _ _
 rw [hv, List.length_set]
 exact h7
end
section
open Go.RowKit Go.Maps
theorem wp_que_append {o : Oper} {a : Act} {K : Act -> World -> Prop} {Q : Exit -> Act -> World -> Prop} (w : World) (s x : Operand) (ho : o.op = .call { callee := .builtin .append, args := #[s, x], argTypes := #[57, 57] })
 (v : Value) (zs : List Int) (B : Nat) (hs : a.eval s = v) (hq : Que w B v zs) (ad : Addr) (c : Nat) (z : Int) (hx : a.eval x = .slice (some ad) 1 c) (hc : w.cell? (ad.add 0) = some (.int .i64 z)) (hn : zs.length <= 1000000) (hB : B <= w.heap.size)
 (h : ∀ v' w', Que w' B v' (zs ++ [z]) -> w.grownBy w' v.ownBlock -> (v'.ownBlock = v.ownBlock \/ v'.ownBlock = some w.heap.size) -> (At0 v -> At0 v') -> K (a.put o.dst v') w') : o.wp Tryz.prog a w K Q := by
 obtain ⟨v', w', hr, h2, h3, h4, h5⟩ := que_append o.type z ad c v zs B w hq hc hn hB
 unfold Oper.wp execOp
 simp only [ho, resolve, invoke, builtin, Sem.run_bind, Sem.run_pure, Result.andThen_ok, List.map_toArray, List.map_cons, List.map_nil, hs, hx, hr]
 exact h v' w' h2 h3 h4 h5
theorem wpList_que_append {ops : Array Oper} {rest : List Oper} {o : Oper} {a : Act} {Q : Exit -> Act -> World -> Prop} (w : World) (hgd : o.guard = none) (s x : Operand) (ho : o.op = .call { callee := .builtin .append, args := #[s, x], argTypes := #[57, 57] })
 (v : Value) (zs : List Int) (B : Nat) (hs : a.eval s = v) (hq : Que w B v zs) (ad : Addr) (c : Nat) (z : Int) (hx : a.eval x = .slice (some ad) 1 c) (hc : w.cell? (ad.add 0) = some (.int .i64 z)) (hn : zs.length <= 1000000) (hB : B <= w.heap.size)
 (h : ∀ v' w', Que w' B v' (zs ++ [z]) -> w.grownBy w' v.ownBlock -> (v'.ownBlock = v.ownBlock \/ v'.ownBlock = some w.heap.size) -> (At0 v -> At0 v') -> wpList Tryz.prog ops Q rest (a.put o.dst v') w') : wpList Tryz.prog ops Q (o :: rest) a w :=
 wpList_plain hgd fun _ hK => wp_que_append w s x ho v zs B hs hq ad c z hx hc hn hB fun v' w' h2 h3 h4 h5 => hK _ _ (h v' w' h2 h3 h4 h5)
theorem Que.alloc {w : World} {B : Nat} {v : Value} {zs : List Int} (h : Que w B v zs) (o : Obj) : Que (w.alloc o) B v zs := h.at fun b hb => ((Below.refl _ w).alloc (Nat.le_refl _) o).block b (h.lt b hb).2
theorem que_up {w : World} {v v' : Value} {o : Obj} (h : v'.ownBlock = v.ownBlock \/ v'.ownBlock = some (w.alloc o).heap.size) : v'.ownBlock = v.ownBlock \/ ∀ b, v'.ownBlock = some b -> w.heap.size <= b := by
 rcases h with h | h
 ·exact .inl h
 ·refine .inr fun b hb => ?_
  rw [h] at hb
  have := Option.some.inj hb
  rw [World.size_alloc] at this
  omega
theorem one_cell (w : World) (z : Int) : (w.alloc (.cells #[.int .i64 z] 3)).cell? ((⟨w.heap.size, 0, none⟩ : Addr).add 0) = some (.int .i64 z) := by
 rw [Addr.add_lit]
 exact cell0_of (heap_alloc_new w _) rfl
theorem RnM.appZ {w w1 : World} {B r g p mb : Nat} {x : Rv} {u v' : Value} {zs' : List Int} (h : RnM w B r g p mb x) (hu : x.vz = u) (hk : Kept (fun b => u.ownBlock = some b) w w1) (hq : Que w1 B v' zs') (hat : v'.ownBlock = u.ownBlock \/ ∀ b, v'.ownBlock = some b -> w.heap.size <= b) : RnM (w1.setCell ⟨r, 4, none⟩ v') B r g p mb { x with vz := v', sz := zs' } := by
 subst hu
 exact h.appVz hk hq hat
theorem RnM.appO {w w1 : World} {B r g p mb : Nat} {x : Rv} {u v' : Value} {zs' : List Int} (h : RnM w B r g p mb x) (hu : x.vo = u) (hk : Kept (fun b => u.ownBlock = some b) w w1) (hq : Que w1 B v' zs') (hat : v'.ownBlock = u.ownBlock \/ ∀ b, v'.ownBlock = some b -> w.heap.size <= b) : RnM (w1.setCell ⟨r, 3, none⟩ v') B r g p mb { x with vo := v', ow := zs' } := by
 subst hu
 exact h.appVo hk hq hat
theorem RnM.appW {w w1 : World} {B r g p mb : Nat} {x : Rv} {u v' : Value} {zs' : List Int} (h : RnM w B r g p mb x) (hu : x.vw = u) (hk : Kept (fun b => u.ownBlock = some b) w w1) (hq : Que w1 B v' zs') (hat : v'.ownBlock = u.ownBlock \/ ∀ b, v'.ownBlock = some b -> w.heap.size <= b) : RnM (w1.setCell ⟨r, 6, none⟩ v') B r g p mb { x with vw := v', wt := zs' } := by
 subst hu
 exact h.appVw hk hq hat
theorem RnM.boxAt {w w1 : World} {B r g p mb k : Nat} {x : Rv} {u : Value} {zs : List Int} (h : RnM w B r g p mb x) (hL : x.L[k]? = some (u, zs)) (hk : Kept (fun b => u.ownBlock = some b) w w1) : w1.heap[r]? = some (.cells #[.pointer (some ⟨g, 0, none⟩), .pointer (some ⟨p, 0, none⟩), x.vh, x.vo, x.vz, .map (some mb), x.vw] 203 (0, 0)) :=
 (hk.block r (t_lt h.box) fun e => h.r_foot (.inr ⟨_, List.mem_of_getElem? hL, e⟩)).trans h.box
theorem appKept {w w1 : World} {r k j : Nat} {x : Rv} {u v' : Value} {zs : List Int} (hL : x.L[k]? = some (u, zs)) (hk : Kept (fun b => u.ownBlock = some b) w w1) : Kept (fun b => b = r \/ x.foot b) w (w1.setCell ⟨r, j, none⟩ v') :=
 (hk.mono fun _ _ e => .inr (.inr ⟨_, List.mem_of_getElem? hL, e⟩)).trans ((Kept.setCell w1 r j v').mono fun _ _ e => .inl e)
theorem foot_app {x : Rv} {k b : Nat} {u v' : Value} {zs zs' : List Int} {n : Nat} (hL : x.L[k]? = some (u, zs)) (hat : v'.ownBlock = u.ownBlock \/ ∀ b, v'.ownBlock = some b -> n <= b) (hb : x.vh.ownBlock = some b \/ Foot (x.L.set k (v', zs')) b) : x.foot b \/ n <= b := by
 rcases hb with hb | hb
 ·exact .inl (.inl hb)
 ·rcases foot_set hb with h1 | h1
  ·exact .inl (.inr h1)
  ·rcases hat with h2 | h2
   ·exact .inl (.inr ⟨_, List.mem_of_getElem? hL, by simp only; rw [<- h2]; exact h1⟩)
   ·exact .inr (h2 b h1)
theorem Que.slice {w : World} {B : Nat} {v : Value} {zs : List Int} (h : Que w B v zs) : ∃ a n c, v = .slice a n c := by
 obtain ⟨a, c, e, _⟩ := h.shape
 exact ⟨a, _, c, e⟩
structure Grew (w w' : World) (r : Nat) (x x' : Rv) : Prop where
 kp : Kept (fun b => b = r \/ x.foot b) w w'
 ft : ∀ b, x'.foot b -> x.foot b \/ w.heap.size <= b
theorem Grew.refl (w : World) (r : Nat) (x : Rv) : Grew w w r x x := ⟨Kept.refl _ _, fun _ h => .inl h⟩
theorem Grew.trans {w w1 w2 : World} {r : Nat} {x x1 x2 : Rv} (h : Grew w w1 r x x1) (k : Grew w1 w2 r x1 x2) : Grew w w2 r x x2 :=
 ⟨h.kp.trans2 k.kp fun b hb => by
  rcases hb with hb | hb
  ·exact .inl (.inl hb)
  ·exact (h.ft b hb).imp .inr id, fun b hb => by
  rcases k.ft b hb with h1 | h1
  ·exact h.ft b h1
  ·have := h.kp.size; exact .inr (by omega)⟩
theorem Grew.below {w w1 w2 : World} {r : Nat} {x x1 : Rv} (h : Grew w w1 r x x1) (hb : Below w1.heap.size w1 w2) : Grew w w2 r x x1 := ⟨h.kp.trans (Kept.of_below hb), h.ft⟩
end
section
open Go.RowKit Go.Maps
attribute [local go_sem ↓] Go.wp_at_zero Go.wp_at_succ
theorem sg_b {w wr : World} {P : Prop} (h : P /\ Hid (Below w.heap.size w wr)) : Below w.heap.size w wr := h.2.out
theorem sg_bel {a b c : World} (h : Below b.heap.size b c) (k : Below a.heap.size a b) : Below a.heap.size a c := k.trans (h.mono k.size)
theorem sg_cell {wa wb : World} {a : Addr} {x : Value} (h : wa.cell? a = some x) (hb : Below wa.heap.size wa wb) : wb.cell? a = some x := (hb.cell (World.block_lt_of_cell? wa _ h)).trans h
theorem sg_free {wa wb : World} {a : Addr} (hl : a.block < wa.heap.size) (h : wa.frozen? a = false) (hb : Below wa.heap.size wa wb) : wb.frozen? a = false := (World.frozen?_of_block (hb.block _ hl)).trans h
theorem sg_up {w2 wa wb : World} {a0 a1 : Addr} {x0 x1 : Value} (hb : Below wa.heap.size wa wb) (h : (wa.cell? a0 = some x0 /\ wa.cell? a1 = some x1) /\ Hid (Below w2.heap.size w2 wa)) : (wb.cell? a0 = some x0 /\ wb.cell? a1 = some x1) /\ Hid (Below w2.heap.size w2 wb) :=
 ⟨⟨sg_cell h.1.1 hb, sg_cell h.1.2 hb⟩, (sg_bel hb h.2.out : Below w2.heap.size w2 wb)⟩
theorem RnM.hform {w : World} {B r g p mb : Nat} {x : Rv} (h : RnM w B r g p mb x) (h0 : 0 < x.ks.length) : ∃ gh cap, x.vh = .slice (some ⟨gh, 0, none⟩) x.ks.length cap := by
 obtain ⟨gh, cap, h1, _⟩ := h.hp.form h0
 exact ⟨gh, cap, h1⟩
theorem RnM.hcell {w : World} {B r g p mb gh cap o k : Nat} {x : Rv} {v : Value} {bs : List Int} (h : RnM w B r g p mb x) (hv : x.vh = .slice (some ⟨gh, 0, none⟩) x.ks.length cap) (hH : x.H[o]? = some (v, bs)) (hk : x.ks[o]? = some k) : w.cell? ⟨gh, o * 2, none⟩ = some v /\ w.cell? ⟨gh, o * 2 + 1, none⟩ = some (.int .i64 (k : Int)) /\ ∀ j, w.frozen? ⟨gh, j, none⟩ = false := by
 have h1 := h.hp
 rw [hv] at h1
 have hl := (List.getElem?_eq_some_iff.1 hk).1
 obtain ⟨h2, h3⟩ := hpC_at x.H x.ks o (v, bs) k hH hk
 exact ⟨(h1.cellAt (o * 2) (by omega)).trans h2, (h1.cellAt (o * 2 + 1) (by omega)).trans h3, fun j => h1.frozenAt j⟩
structure AddAt (w w' : World) (B r g p mb : Nat) (x x' : Rv) (o old fr : Nat) (z n : Int) (bs : List Int) : Prop where
 m : RnM w' B r g p mb x'
 ow : x'.ow = x.ow ++ [(o : Int)]
 sz : x'.sz = x.sz.set old (z - n) ++ [n]
 ks : x'.ks = x.ks
 hs : x'.H.map (·.2) = (x.H.map (·.2)).set o (bs ++ [(fr : Int)])
 wt : x'.wt = if bs.length = 1 then x.wt ++ [(o : Int)] else x.wt
 gw : Grew w w' r x x'
set_option linter.unusedSimpArgs false in
set_option maxRecDepth 100000 in
set_option maxHeartbeats 8000000 in
theorem radd_any (w0 : World) (B r g p mb : Nat) (x : Rv) (c : Nat -> Int) (s : Pst) (fr old o k : Nat) (z : Int) (v : Value) (bs : List Int) (w : World) (hM : RnM w B r g p mb x) (hP : Pt w0 w p c) (hL : Lay c s) (hO : s.Ok) (hfr : fr < s.nb) (how : x.ow[old]? = some (o : Int)) (hsz : x.sz[old]? = some z) (hH : x.H[o]? = some (v, bs)) (hks : x.ks[o]? = some k)
 (h1 : x.ow.length <= 100000) (h2 : x.sz.length <= 100000) (h3 : bs.length <= 100000) (h4 : x.wt.length <= 100000) (hz : 0 <= z /\ z <= 1000) :
 Calls Tryz.prog 190 #[.pointer (some ⟨r, 0, none⟩), .int .i64 fr, .int .i64 old] w fun e w' => e = .returned (.tuple #[]) /\ ∃ x', AddAt w w' B r g p mb x x' o old fr z (s.mem fr).length bs := by
 have hMem := fun W (hb : Below w.heap.size w W) => rmembers_any w0 B r g p mb x c s fr W (hM.below hb) (hP.below hb) hL hO hfr
 have hml : (s.mem fr).length <= 1000 := by rw [mem_len hO hfr]; have := hO.iv fr hfr; have := hO.n1; omega
 obtain ⟨c0, c1, c2, c3, c4, c5, c6⟩ := seven_cells hM.box
 have holt := (List.getElem?_eq_some_iff.1 how).1
 have hzlt := (List.getElem?_eq_some_iff.1 hsz).1
 have hkl := (List.getElem?_eq_some_iff.1 hks).1
 obtain ⟨go, oo, co, hvo, hoc, cow, fow⟩ := (hM.q.q 0 (x.vo, x.ow) rfl).cell how
 obtain ⟨gz, oz, cz, hvz, hzc, csz, fsz⟩ := (hM.q.q 1 (x.vz, x.sz) rfl).cell hsz
 simp only at hvo hvz
 obtain ⟨gh, ch, hvh⟩ := hM.hform (by omega)
 obtain ⟨M, hMM⟩ : ∃ M, M = (s.mem fr).length := ⟨_, rfl⟩
 rw [<- hMM] at hml ⊢
 obtain ⟨nz, hnz⟩ : ∃ nz, nz = x.sz.length := ⟨_, rfl⟩
 obtain ⟨no, hno⟩ : ∃ no, no = x.ow.length := ⟨_, rfl⟩
 obtain ⟨nk, hnk⟩ : ∃ nk, nk = x.ks.length := ⟨_, rfl⟩
 rw [hvo] at c3
 rw [hvz] at c4
 rw [hvh] at c2
 rw [<- hno] at c3 hoc holt
 rw [<- hnz] at c4 hzc hzlt
 rw [<- hnk] at c2 hkl
 have p0 : (0 : Int) <= (old : Int) := by omega
 have p1 : (old : Int) < (no : Int) := by omega
 have p2 : (old : Int) < (nz : Int) := by omega
 have p3 : (0 : Int) <= (o : Int) := by omega
 have p4 : (o : Int) < (nk : Int) := by omega
 have p5 : IntKind.i64.wrap (z - (M : Int)) = z - (M : Int) := by rw [IntKind.wrap_i64]; omega
 have H : Hid _ := And.intro hM (And.intro hMem (And.intro hMM (And.intro hvo (And.intro hvz (And.intro hvh (And.intro hnz (And.intro hno (And.intro hnk (And.intro hH (And.intro hks (And.intro h1 (And.intro h2 (And.intro h3 (And.intro h4 hsz))))))))))))))
 clear hM hMem hMM hvo hvz hvh hnz hno hnk hH hks h1 h2 h3 h4 how hsz hP hL hO hfr hoc hzc
 go_enter Tryz.func190, Tryz.ntmps190
 go_upto_region 0 with fail
 go_region_held3 (fun w' => (w'.cell? ⟨r, 3, none⟩ = some (.slice (some ⟨go, oo, none⟩) no co) /\ w'.cell? ⟨go, oo + old, none⟩ = some (.int .i64 o)) /\ Hid (Below w.heap.size w w')) (first | exact sg_up hb2 (by assumption) | exact ⟨⟨c3, cow⟩, ((Below.refl _ _).drew : Below w.heap.size w w.drew)⟩ | go_keep)
  ((first
    | (go_at_call 140; refine Calls.mono (H.out.2.1 _ (sg_b (by assumption))) ?_; rintro r1 w1 ⟨u, rfl, hu, hb2⟩; obtain ⟨ua, uc, rfl⟩ := row_shape hu; rw [<- H.out.2.2.1])
    | fail))
 have hbw := sg_b (by assumption)
 have hM1 := H.out.1.below hbw
 have y4 := sg_cell c4 hbw
 have ysz := sg_cell csz hbw
 have yfz := sg_free (World.block_lt_of_cell? w _ csz) fsz hbw
 have H1 : Hid _ := And.intro hM1 hbw
 clear c0 c1 c2 c3 c4 c5 c6 csz fsz cow fow hM1 hbw hb2 hu
 rename_i hS3
 clear hS3
 go_upto_region 2 with fail
 obtain ⟨wA, hwA⟩ : ∃ wA, wA = w1.setCell ⟨gz, oz + old, none⟩ (.int .i64 (z - (M : Int))) := ⟨_, rfl⟩
 rw [<- hwA]
 obtain ⟨xA, hxA⟩ : ∃ xA : Rv, xA = { x with sz := x.sz.set old (z - (M : Int)) } := ⟨_, rfl⟩
 have hMA : RnM wA B r g p mb xA := by rw [hwA, hxA]; exact H1.out.1.setSz H.out.2.2.2.2.1 (by rw [<- H.out.2.2.2.2.2.2.1]; exact hzlt) _
 have hGA : Grew w wA r x xA := by
  rw [hwA, hxA]
  exact ⟨(Kept.of_below H1.out.2).trans ((Kept.setCell w1 gz _ _).mono fun b _ e => .inr (.inr ⟨(x.vz, x.sz), by simp [Rv.L], by simp only; rw [H.out.2.2.2.2.1, e]; rfl⟩)), fun b hb => foot_app (x := x) (k := 1) (v' := x.vz) (zs' := x.sz.set old (z - (M : Int))) rfl (.inl rfl) hb⟩
 have HA : Hid _ := And.intro hMA (And.intro hGA hxA)
 clear y4 ysz yfz hwA hMA hGA hxA
 have hL : xA.L[1]? = some (.slice (some ⟨gz, oz, none⟩) nz cz, x.sz.set old (z - (M : Int))) := by rw [HA.out.2.2]; show some (x.vz, _) = some (_, _); rw [H.out.2.2.2.2.1, <- H.out.2.2.2.2.2.2.1]
 have hQ := HA.out.1.q.q 1 _ hL
 obtain ⟨b0, b1, b2, b3, b4, b5, b6⟩ := seven_cells HA.out.1.box
 have hu : xA.vz = .slice (some ⟨gz, oz, none⟩) nz cz := by have h9 := congrArg (Option.map (·.1)) hL; exact Option.some.inj h9
 rw [hu] at b4
 have HQ : Hid _ := And.intro hQ (And.intro hL hu)
 have hB : B <= (wA.alloc (.cells #[.int .i64 ((M : Int))] 3)).heap.size := by have := t_lt HA.out.1.box; have := HA.out.1.up; rw [World.size_alloc]; omega
 clear hQ hL hu
 go_upto_region 3 with (at_builtin; refine wpList_que_append _ rfl _ _ rfl (.slice (some ⟨gz, oz, none⟩) nz cz) (x.sz.set old (z - (M : Int))) B rfl (HQ.out.1.alloc _) ⟨wA.heap.size, 0, none⟩ 1 ((M : Int)) rfl (one_cell _ _) (by rw [List.length_set]; have := H.out.2.2.2.2.2.2.2.2.2.2.2.2.1; omega) hB ?_; intro vn wn hqn hgn han ha0; clear ha0; obtain ⟨an, nn, cn, rfl⟩ := hqn.slice; have hkn := grown_alloc hgn; have hbx := HA.out.1.boxAt HQ.out.2.1 hkn; have bc := (seven_cells hbx).2.2.2.2.1; have bf := blk_free hbx 4; have HN : Hid _ := And.intro hqn (And.intro hkn (que_up han)); clear hqn hgn han hkn hbx)
 obtain ⟨wA', hw2⟩ : ∃ w2, w2 = wn.setCell ⟨r, 4, none⟩ (.slice an nn cn) := ⟨_, rfl⟩
 rw [<- hw2]
 obtain ⟨xB, hx2⟩ : ∃ x2 : Rv, x2 = { xA with vz := .slice an nn cn, sz := x.sz.set old (z - (M : Int)) ++ [(M : Int)] } := ⟨_, rfl⟩
 have hM2 : RnM wA' B r g p mb xB := by rw [hw2, hx2]; exact HA.out.1.appZ HQ.out.2.2 HN.out.2.1 HN.out.1 HN.out.2.2
 have hG2 : Grew wA wA' r xA xB := by rw [hw2, hx2]; exact ⟨appKept HQ.out.2.1 HN.out.2.1, fun b hb => foot_app (k := 1) HQ.out.2.1 HN.out.2.2 hb⟩
 have HB : Hid _ := And.intro hM2 (And.intro (HA.out.2.1.trans hG2) (And.intro hx2 HA.out.2.2))
 clear b0 b1 b2 b3 b4 b5 b6 hB HQ HN hw2 hx2 hM2 hG2 bc bf
 have hL : xB.L[0]? = some (.slice (some ⟨go, oo, none⟩) no co, x.ow) := by rw [HB.out.2.2.1, HA.out.2.2]; show some (x.vo, _) = some (_, _); rw [H.out.2.2.2.1, <- H.out.2.2.2.2.2.2.2.1]
 have hQ := HB.out.1.q.q 0 _ hL
 obtain ⟨b0, b1, b2, b3, b4, b5, b6⟩ := seven_cells HB.out.1.box
 have hu : xB.vo = .slice (some ⟨go, oo, none⟩) no co := by have h9 := congrArg (Option.map (·.1)) hL; exact Option.some.inj h9
 rw [hu] at b3
 have HQ : Hid _ := And.intro hQ (And.intro hL hu)
 have hB : B <= (wA'.alloc (.cells #[.int .i64 ((o : Int))] 3)).heap.size := by have := t_lt HB.out.1.box; have := HB.out.1.up; rw [World.size_alloc]; omega
 clear hQ hL hu
 go_upto_region 4 with (at_builtin; refine wpList_que_append _ rfl _ _ rfl (.slice (some ⟨go, oo, none⟩) no co) (x.ow) B rfl (HQ.out.1.alloc _) ⟨wA'.heap.size, 0, none⟩ 1 ((o : Int)) rfl (one_cell _ _) (by have := H.out.2.2.2.2.2.2.2.2.2.2.2.1; omega) hB ?_; intro vn wn hqn hgn han ha0; clear ha0; obtain ⟨an, nn, cn, rfl⟩ := hqn.slice; have hkn := grown_alloc hgn; have hbx := HB.out.1.boxAt HQ.out.2.1 hkn; have bc := (seven_cells hbx).2.2.2.1; have bf := blk_free hbx 3; have HN : Hid _ := And.intro hqn (And.intro hkn (que_up han)); clear hqn hgn han hkn hbx)
 obtain ⟨wA'', hw2⟩ : ∃ w2, w2 = wn.setCell ⟨r, 3, none⟩ (.slice an nn cn) := ⟨_, rfl⟩
 rw [<- hw2]
 obtain ⟨xC, hx2⟩ : ∃ x2 : Rv, x2 = { xB with vo := .slice an nn cn, ow := x.ow ++ [(o : Int)] } := ⟨_, rfl⟩
 have hM2 : RnM wA'' B r g p mb xC := by rw [hw2, hx2]; exact HB.out.1.appO HQ.out.2.2 HN.out.2.1 HN.out.1 HN.out.2.2
 have hG2 : Grew wA' wA'' r xB xC := by rw [hw2, hx2]; exact ⟨appKept HQ.out.2.1 HN.out.2.1, fun b hb => foot_app (k := 0) HQ.out.2.1 HN.out.2.2 hb⟩
 have HC : Hid _ := And.intro hM2 (And.intro (HB.out.2.1.trans hG2) (And.intro hx2 HB.out.2.2))
 clear b0 b1 b2 b3 b4 b5 b6 hB HQ HN hw2 hx2 hM2 hG2 bc bf
 have hHC : xC.H[o]? = some (v, bs) := by rw [HC.out.2.2.1, HB.out.2.2.1, HA.out.2.2]; exact H.out.2.2.2.2.2.2.2.2.2.1
 have hvC : xC.vh = .slice (some ⟨gh, 0, none⟩) nk ch := by rw [HC.out.2.2.1, HB.out.2.2.1, HA.out.2.2]; show x.vh = _; rw [H.out.2.2.2.2.2.1, <- H.out.2.2.2.2.2.2.2.2.1]
 have hkC : xC.ks = x.ks := by rw [HC.out.2.2.1, HB.out.2.2.1, HA.out.2.2]
 have hvC' : xC.vh = .slice (some ⟨gh, 0, none⟩) xC.ks.length ch := by rw [hkC, <- H.out.2.2.2.2.2.2.2.2.1]; exact hvC
 obtain ⟨hc0, hc1, hcf⟩ := HC.out.1.hcell hvC' hHC (by rw [hkC]; exact H.out.2.2.2.2.2.2.2.2.2.2.1)
 have hQv := HC.out.1.q.q (o + 3) (v, bs) (by show xC.H[o]? = _; exact hHC)
 obtain ⟨b0, b1, b2, b3, b4, b5, b6⟩ := seven_cells HC.out.1.box
 rw [hvC] at b2
 obtain ⟨av, cv, hve, _⟩ := hQv.shape
 simp only at hve
 obtain ⟨nb, hnb⟩ : ∃ nb, nb = bs.length := ⟨_, rfl⟩
 rw [<- hnb] at hve
 rw [hve] at hc0 hQv hHC
 have hf0 := hcf (o * 2)
 have hB : B <= (wA''.alloc (.cells #[.int .i64 (fr : Int)] 3)).heap.size := by have := t_lt HC.out.1.box; have := HC.out.1.up; rw [World.size_alloc]; omega
 have HQ : Hid _ := And.intro hQv (And.intro hHC (And.intro hvC' (And.intro hkC (And.intro hnb hve))))
 clear hQv hHC hvC hvC' hkC hnb hve hc1 hcf
 go_upto_region 6 with (at_builtin; refine wpList_que_append _ rfl _ _ rfl (.slice av nb cv) bs B rfl (HQ.out.1.alloc _) ⟨wA''.heap.size, 0, none⟩ 1 (fr : Int) rfl (one_cell _ _) (by have := H.out.2.2.2.2.2.2.2.2.2.2.2.2.2.1; omega) hB ?_; intro vn wn hqn hgn han ha0; obtain ⟨an, cn, hne, _⟩ := hqn.shape; obtain ⟨nn, hnn⟩ : ∃ nn, nn = (bs ++ [(fr : Int)]).length := ⟨_, rfl⟩; rw [<- hnn] at hne; subst hne; have hkn := grown_alloc hgn; have hpt := HC.out.1.parts (k := o + 3) (by show xC.H[o]? = _; exact HQ.out.2.1) hkn hqn (que_up han); have hrow := hpt.2.1; rw [HQ.out.2.2.1] at hrow; have bc := (hrow.cellAt (o * 2) (by rw [HQ.out.2.2.2.1, <- H.out.2.2.2.2.2.2.2.2.1]; omega)).trans (hpC_at xC.H xC.ks o _ k HQ.out.2.1 (by rw [HQ.out.2.2.2.1]; exact H.out.2.2.2.2.2.2.2.2.2.2.1)).1; have bf := hrow.frozenAt (o * 2); have HN : Hid _ := And.intro hqn (And.intro hkn (And.intro (que_up han) hnn)); have HA0 : Hid (At0 _) := (ha0 (HC.out.1.fl _ (List.mem_of_getElem? HQ.out.2.1)) : At0 _); clear hqn hgn han hkn hpt hrow hnn ha0)
 obtain ⟨wD, hw2⟩ : ∃ w2, w2 = wn.setCell ⟨gh, o * 2, none⟩ (.slice an nn cn) := ⟨_, rfl⟩
 rw [<- hw2]
 obtain ⟨xD, hx2⟩ : ∃ x2 : Rv, x2 = { xC with H := xC.H.set o (.slice an nn cn, bs ++ [(fr : Int)]) } := ⟨_, rfl⟩
 have hM2 : RnM wD B r g p mb xD := by rw [hw2, hx2]; exact HC.out.1.putHeap HQ.out.2.2.1 HQ.out.2.1 HN.out.2.1 HN.out.1 HN.out.2.2.1 HA0.out
 have hG2 : Grew wA'' wD r xC xD := by
  rw [hw2, hx2]
  exact ⟨(HN.out.2.1.mono fun b _ e => .inr (.inr ⟨_, List.mem_of_getElem? (show xC.L[o + 3]? = some _ from HQ.out.2.1), e⟩)).trans ((Kept.setCell wn gh (o * 2) _).mono fun b _ e => .inr (.inl (by rw [HQ.out.2.2.1, e]; rfl))), fun b hb => foot_app (x := xC) (k := o + 3) HQ.out.2.1 HN.out.2.2.1 hb⟩
 have hxw : xD.wt = x.wt /\ xD.vw = x.vw := by rw [hx2, HC.out.2.2.1, HB.out.2.2.1, HA.out.2.2]; exact ⟨rfl, rfl⟩
 have hcell := hM2.hcell (o := o) (k := k) (v := .slice an nn cn) (bs := bs ++ [(fr : Int)]) (by rw [hx2]; exact HQ.out.2.2.1) (by rw [hx2]; exact List.getElem?_set_self (List.getElem?_eq_some_iff.1 HQ.out.2.1).1) (by rw [hx2]; show xC.ks[o]? = _; rw [HQ.out.2.2.2.1]; exact H.out.2.2.2.2.2.2.2.2.2.2.1)
 have d0 := hcell.1
 have hnn : nn = nb + 1 := by rw [HN.out.2.2.2, HQ.out.2.2.2.2.1]; simp
 have HD : Hid _ := And.intro hM2 (And.intro (HC.out.2.1.trans hG2) (And.intro hx2 (And.intro hxw (And.intro HQ.out.2.2.2.2.1 (And.intro HQ.out.2.2.2.1 HN.out.2.2.2)))))
 clear b0 b1 b2 b3 b4 b5 b6 hB HQ HN hw2 hx2 hM2 hG2 bc bf hxw hcell hf0 hc0
 have hfin : ∀ (w' : World) (x' : Rv), RnM w' B r g p mb x' -> Grew wD w' r xD x' -> x'.ow = xD.ow -> x'.sz = xD.sz -> x'.ks = xD.ks -> x'.H = xD.H -> x'.wt = (if bs.length = 1 then x.wt ++ [(o : Int)] else x.wt) -> ∃ x', AddAt w w' B r g p mb x x' o old fr z (M : Int) bs := fun w' x' e1 e2 e3 e4 e5 e6 e7 => by
  refine ⟨x', e1, ?_, ?_, ?_, ?_, e7, HD.out.2.1.trans e2⟩
  ·rw [e3, HD.out.2.2.1, HC.out.2.2.1]
  ·rw [e4, HD.out.2.2.1, HC.out.2.2.1, HB.out.2.2.1]
  ·rw [e5, HD.out.2.2.1]; exact HD.out.2.2.2.2.2.1
  ·rw [e6, HD.out.2.2.1, HC.out.2.2.1, HB.out.2.2.1, HA.out.2.2]
   rw [List.map_set]
 have HF : Hid _ := hfin
 clear hfin
 by_cases hb1 : nb = 1
 ·have q1 : ((nn : Int) == 2) = true := by rw [hnn, hb1]; rfl
  have HB1 : Hid _ := And.intro hb1 hnn
  clear hb1 hnn
  obtain ⟨aw, cw, hwe, _⟩ := (HD.out.1.q.q 2 (xD.vw, xD.wt) rfl).shape
  simp only at hwe
  obtain ⟨nw, hnw⟩ : ∃ nw, nw = xD.wt.length := ⟨_, rfl⟩
  rw [<- hnw] at hwe
  have hL : xD.L[2]? = some (.slice aw nw cw, xD.wt) := by show some (xD.vw, xD.wt) = _; rw [hwe]
  obtain ⟨b0, b1, b2, b3, b4, b5, b6⟩ := seven_cells HD.out.1.box
  rw [hwe] at b6
  have hwl : xD.wt.length <= 1000000 := by rw [HD.out.2.2.2.1.1]; have := H.out.2.2.2.2.2.2.2.2.2.2.2.2.2.2.1; omega
  have hB : B <= (wD.alloc (.cells #[.int .i64 (o : Int)] 3)).heap.size := by have := t_lt HD.out.1.box; have := HD.out.1.up; rw [World.size_alloc]; omega
  have HQ : Hid _ := And.intro (HD.out.1.q.q 2 _ hL) (And.intro hL hwe)
  clear hL hwe hnw
  go_wp2_with (at_builtin; refine wpList_que_append _ rfl _ _ rfl (.slice aw nw cw) xD.wt B rfl (HQ.out.1.alloc _) ⟨wD.heap.size, 0, none⟩ 1 (o : Int) rfl (one_cell _ _) hwl hB ?_; intro vn wn hqn hgn han ha0; clear ha0; obtain ⟨an, nn, cn, rfl⟩ := hqn.slice; have hkn := grown_alloc hgn; have hbx := HD.out.1.boxAt HQ.out.2.1 hkn; have bc := (seven_cells hbx).2.2.2.2.2.2; have bf := blk_free hbx 6; have HN : Hid _ := And.intro hqn (And.intro hkn (que_up han)); clear hqn hgn han hkn hbx)
  go_end0
  exact ⟨rfl, HF.out _ _ (HD.out.1.appW HQ.out.2.2 HN.out.2.1 HN.out.1 HN.out.2.2) ⟨appKept HQ.out.2.1 HN.out.2.1, fun b hb => foot_app (x := xD) (k := 2) HQ.out.2.1 HN.out.2.2 hb⟩ rfl rfl rfl rfl (by rw [if_pos (by rw [<- HD.out.2.2.2.2.1]; exact HB1.out.1)]; show xD.wt ++ [(o : Int)] = _; rw [HD.out.2.2.2.1.1])⟩
 ·have q1 : ((nn : Int) == 2) = false := by rw [hnn]; simp; omega
  have HB1 : Hid _ := And.intro hb1 hnn
  clear hb1 hnn
  go_wp2_with fail
  go_end0
  exact ⟨rfl, HF.out _ _ HD.out.1 (Grew.refl _ _ _) rfl rfl rfl rfl (by rw [if_neg (by rw [<- HD.out.2.2.2.2.1]; exact HB1.out.1)]; exact HD.out.2.2.2.1.1)⟩
end
section
open Go.RowKit Go.Maps
def Rv.of (x : Rv) (b : Nat) : Int := (x.ow[b]?).getD 0
structure RunI (s : Pst) (x : Rv) : Prop where
 ow : x.ow.length = s.nb
 sz : x.sz.length = s.nb
 szv : ∀ b, b < s.nb -> x.sz[b]? = some ((s.mem b).length : Int)
 own : ∀ b, b < s.nb -> ∃ o : Nat, x.ow[b]? = some (o : Int) /\ o < x.ks.length
 nd : ∀ (o : Nat) (bs : List Int), (x.H.map (·.2))[o]? = some bs -> bs.Nodup
 hs : ∀ (o : Nat) (bs : List Int), (x.H.map (·.2))[o]? = some bs -> ∀ z, z ∈ bs ↔ ∃ b : Nat, z = (b : Int) /\ b < s.nb /\ x.ow[b]? = some (o : Int)
 wt : ∀ (o : Nat) (bs : List Int), (x.H.map (·.2))[o]? = some bs -> 2 <= bs.length -> (o : Int) ∈ x.wt
 wtl : x.wt.length <= s.nb
 wtn : ∀ z ∈ x.wt, ∃ o : Nat, z = (o : Int) /\ o < x.ks.length
 len : x.H.length = x.ks.length
theorem split_nb {s : Pst} {b : Nat} (h : s.splits b) : (s.split b).nb = s.nb + 1 := by
 unfold Pst.split
 rw [if_pos h]
 split <;> rfl
theorem split_nb_not {s : Pst} {b : Nat} (h : ¬ s.splits b) : (s.split b).nb = s.nb := by
 unfold Pst.split
 rw [if_neg h]
 rfl
theorem mem_of_O {s t : Pst} (hn : t.n = s.n) {y : Nat} (h : ∀ e, e < s.n -> (t.O e = y ↔ s.O e = y)) : t.mem y = s.mem y := by
 unfold Pst.mem
 rw [hn]
 congr 1
 refine List.filter_congr fun e he => ?_
 exact decide_eq_decide.2 (h e (List.mem_range.1 he))
theorem split_mem_other {s : Pst} (hO : s.Ok) {b y : Nat} (hb : b < s.nb) (hy : y < s.nb) (hne : y ≠ b) : (s.split b).mem y = s.mem y := by
 refine mem_of_O (split_ok hO hb).2.1 fun e he => ?_
 rw [split_O hO hb he]
 by_cases h : s.splits b /\ s.O e = b /\ s.isM e = decide (2 * (s.R b - s.B b) <= s.D b - s.B b)
 ·rw [if_pos h]
  have := h.2.1
  omega
 ·rw [if_neg h]
theorem mem_not {s : Pst} (hO : s.Ok) {b : Nat} (hb : b < s.nb) (h : ¬ s.splits b) (y : Nat) : (s.split b).mem y = s.mem y := mem_of_O (split_ok hO hb).2.1 fun e _ => by rw [clear_O s b h]
theorem split_mem_sum {s : Pst} (hO : s.Ok) {b : Nat} (hb : b < s.nb) (h : s.splits b) : ((s.split b).mem b).length + ((s.split b).mem s.nb).length = (s.mem b).length := by
 have hO' := (split_ok hO hb).1
 have hnb := split_nb h
 have v := hO.iv b hb
 rw [mem_len hO hb, mem_len hO' (by omega), mem_len hO' (by omega)]
 unfold Pst.split
 rw [if_pos h]
 obtain ⟨q1, q2⟩ := h
 have hne : b ≠ s.nb := by omega
 split <;> simp only [Pst.cut, upd_same, upd_ne _ _ hne] <;> omega
theorem split_keep {s : Pst} (hO : s.Ok) {b : Nat} (hb : b < s.nb) {e : Nat} (he : e < s.n) : (s.split b).O e = s.O e \/ (s.splits b /\ (s.split b).O e = s.nb /\ s.O e = b) := by
 rw [split_O hO hb he]
 by_cases h : s.splits b /\ s.O e = b /\ s.isM e = decide (2 * (s.R b - s.B b) <= s.D b - s.B b)
 ·rw [if_pos h]; exact .inr ⟨h.1, rfl, h.2.1⟩
 ·rw [if_neg h]; exact .inl rfl
theorem RunI.stay {s : Pst} {x : Rv} (hI : RunI s x) (hO : s.Ok) {b : Nat} (hb : b < s.nb) (h : ¬ s.splits b) : RunI (s.split b) x := by
 have hn := split_nb_not h
 exact ⟨by rw [hn]; exact hI.ow, by rw [hn]; exact hI.sz, fun y hy => by rw [mem_not hO hb h]; exact hI.szv y (by omega), fun y hy => hI.own y (by omega), hI.nd, fun o bs ho z => by rw [hn]; exact hI.hs o bs ho z, hI.wt, by rw [hn]; exact hI.wtl, hI.wtn, hI.len⟩
theorem RunI.grow {s : Pst} {x x' : Rv} {w w' : World} {B r g p mb o b : Nat} {bs : List Int} (hI : RunI s x) (hO : s.Ok) (hb : b < s.nb) (h : s.splits b) (how : x.ow[b]? = some (o : Int)) (hH : (x.H.map (·.2))[o]? = some bs) (hA : AddAt w w' B r g p mb x x' o b s.nb ((s.mem b).length : Int) (((s.split b).mem s.nb).length : Int) bs) : RunI (s.split b) x' /\ (∀ e, e < s.n -> x'.of ((s.split b).O e) = x.of (s.O e)) := by
 have hnb := split_nb h
 have hsum := split_mem_sum hO hb h
 have hol : o < x.ks.length := by
  have := (List.getElem?_eq_some_iff.1 hH).1
  rw [List.length_map] at this
  rw [<- hI.len]; exact this
 have how' : ∀ y, y < s.nb -> x'.ow[y]? = x.ow[y]? := fun y hy => by rw [hA.ow, List.getElem?_append_left (by rw [hI.ow]; exact hy)]
 have hown : x'.ow[s.nb]? = some (o : Int) := by rw [hA.ow, List.getElem?_append_right (by rw [hI.ow]; exact Nat.le_refl _), hI.ow, Nat.sub_self]; rfl
 have hHs : ∀ (q : Nat) (cs : List Int), (x'.H.map (·.2))[q]? = some cs -> (q = o /\ cs = bs ++ [(s.nb : Int)]) \/ (q ≠ o /\ (x.H.map (·.2))[q]? = some cs) := fun q cs hq => by
  rw [hA.hs] at hq
  by_cases e : q = o
  ·subst e
   rw [List.getElem?_set_self (List.getElem?_eq_some_iff.1 hH).1] at hq
   exact .inl ⟨rfl, (Option.some.inj hq).symm⟩
  ·rw [List.getElem?_set_ne (fun e2 => e e2.symm)] at hq
   exact .inr ⟨e, hq⟩
 have hlen' : x'.H.length = x'.ks.length := by
  have h9 := congrArg List.length hA.hs
  rw [List.length_map, List.length_set, List.length_map] at h9
  rw [h9, hA.ks]; exact hI.len
 have hmem : ∀ (q : Nat), ∀ z, (∃ y : Nat, z = (y : Int) /\ y < s.nb + 1 /\ x'.ow[y]? = some (q : Int)) ↔ (∃ y : Nat, z = (y : Int) /\ y < s.nb /\ x.ow[y]? = some (q : Int)) \/ (q = o /\ z = (s.nb : Int)) := fun q z => by
  constructor
  ·rintro ⟨y, rfl, hy, hq⟩
   rcases Nat.lt_or_ge y s.nb with h1 | h1
   ·rw [how' y h1] at hq; exact .inl ⟨y, rfl, h1, hq⟩
   ·obtain rfl : y = s.nb := by omega
    rw [hown] at hq
    have := Option.some.inj hq
    exact .inr ⟨by omega, rfl⟩
  ·rintro (⟨y, rfl, hy, hq⟩ | ⟨rfl, rfl⟩)
   ·exact ⟨y, rfl, by omega, by rw [how' y hy]; exact hq⟩
   ·exact ⟨s.nb, rfl, by omega, hown⟩
 refine ⟨⟨?_, ?_, fun y hy => ?_, fun y hy => ?_, fun q cs hq => ?_, fun q cs hq z => ?_, fun q cs hq hc => ?_, ?_, fun z hz => ?_, hlen'⟩, fun e he => ?_⟩
 ·rw [hA.ow, List.length_append, hI.ow, hnb]; rfl
 ·rw [hA.sz, List.length_append, List.length_set, hI.sz, hnb]; rfl
 ·rw [hnb] at hy
  rw [hA.sz]
  rcases Nat.lt_or_ge y s.nb with h1 | h1
  ·rw [List.getElem?_append_left (by rw [List.length_set, hI.sz]; exact h1)]
   by_cases e : y = b
   ·subst e
    rw [List.getElem?_set_self (by rw [hI.sz]; exact h1)]
    congr 1
    omega
   ·rw [List.getElem?_set_ne (fun e2 => e e2.symm), hI.szv y h1, split_mem_other hO hb h1 e]
  ·obtain rfl : y = s.nb := by omega
   rw [List.getElem?_append_right (by rw [List.length_set, hI.sz]; exact Nat.le_refl _), List.length_set, hI.sz, Nat.sub_self]; rfl
 ·rw [hnb] at hy
  rw [hA.ks]
  rcases Nat.lt_or_ge y s.nb with h1 | h1
  ·rw [how' y h1]; exact hI.own y h1
  ·obtain rfl : y = s.nb := by omega
   exact ⟨o, hown, hol⟩
 ·rcases hHs q cs hq with ⟨rfl, rfl⟩ | ⟨_, h1⟩
  ·refine List.nodup_append.2 ⟨hI.nd q bs hH, by simp, fun a ha c hc e => ?_⟩
   rw [List.mem_singleton.1 hc] at e
   obtain ⟨y, hy, hy2, _⟩ := (hI.hs q bs hH a).1 ha
   omega
  ·exact hI.nd q cs h1
 ·rw [hnb, hmem]
  rcases hHs q cs hq with ⟨rfl, rfl⟩ | ⟨hne, h1⟩
  ·rw [List.mem_append, List.mem_singleton, hI.hs q bs hH z]
   simp
  ·rw [hI.hs q cs h1 z]
   exact ⟨.inl, fun h2 => h2.elim id fun h3 => absurd h3.1 hne⟩
 ·rw [hA.wt]
  rcases hHs q cs hq with ⟨rfl, rfl⟩ | ⟨_, h1⟩
  ·by_cases h2 : bs.length = 1
   ·rw [if_pos h2]; exact List.mem_append_right _ (List.mem_singleton.2 rfl)
   ·rw [if_neg h2]
    refine hI.wt q bs hH ?_
    simp at hc
    omega
  ·have h3 := hI.wt q cs h1 hc
   split
   ·exact List.mem_append_left _ h3
   ·exact h3
 ·rw [hA.wt, hnb]
  have := hI.wtl
  split
  ·simp; omega
  ·omega
 ·rw [hA.ks]
  rw [hA.wt] at hz
  split at hz
  ·rcases List.mem_append.1 hz with h1 | h1
   ·exact hI.wtn z h1
   ·exact ⟨o, List.mem_singleton.1 h1, hol⟩
  ·exact hI.wtn z hz
 ·rcases split_keep hO hb he with h1 | ⟨_, h1, h2⟩
  ·rw [h1]
   unfold Rv.of
   rw [how' _ (hO.o e he).1]
  ·rw [h1, h2]
   unfold Rv.of
   rw [hown, how]
end
section
def Sy.steps (es : List Sy.Ed) (i : Int) : List (Int × Int) := (es.filter fun e => e.1 == i).map fun e => (e.2.1, e.2.2)
theorem Sy.steps_len (es : List Sy.Ed) (i : Int) : (Sy.steps es i).length <= es.length := by
 unfold Sy.steps
 rw [List.length_map]
 exact List.length_filter_le _ _
end
namespace BSteps
open Go.RowKit Go.Maps
attribute [local go_sem ↓] Go.wp_at_zero Go.wp_at_succ
abbrev El : Type := Int × Int
def enc (z : El) : List Value := [.int .i64 z.1, .int .i64 z.2]
def C (zs : List El) : List Value := zs.flatMap enc
theorem enc_len (z : El) : (enc z).length = 2 := rfl
theorem C_len (zs : List El) : (C zs).length = zs.length * 2 := by
 unfold C
 induction zs with
 | nil => rfl
 | cons z r ih => rw [List.flatMap_cons, List.length_append, ih, enc_len, List.length_cons]; omega
theorem C_one (zs : List El) : ∀ u ∈ C zs, u.oneCell' = true := fun u hu => by
 obtain ⟨z, _, hz⟩ := List.mem_flatMap.1 hu
 simp only [enc, List.mem_cons, List.not_mem_nil, or_false] at hz
 rcases hz with rfl | rfl <;> rfl
theorem C_at : ∀ (zs : List El) (k : Nat) (z : El), zs[k]? = some z -> ∀ q, q < 2 -> (C zs)[k * 2 + q]? = (enc z)[q]?
 | [], _, _, h, _, _ => by simp at h
 | y :: r, 0, z, h, q, hq => by
   simp at h
   subst h
   show (enc y ++ C r)[0 * 2 + q]? = _
   rw [List.getElem?_append_left (by rw [enc_len]; omega)]
   congr 1
   omega
 | y :: r, k + 1, z, h, q, hq => by
   have ih := C_at r k z (by simpa using h) q hq
   show (enc y ++ C r)[(k + 1) * 2 + q]? = _
   rw [List.getElem?_append_right (by rw [enc_len]; omega), enc_len, <- ih]
   congr 1
   omega
theorem C_set (zs : List El) {k : Nat} (hk : k < zs.length) (x : El) : C (zs.set k x) = (((C zs).set (k * 2) (.int .i64 x.1)).set (k * 2 + 1) (.int .i64 x.2)) := by
 apply List.ext_getElem?
 intro j
 by_cases hj : j / 2 = k
 ·obtain ⟨q, hq, rfl⟩ : ∃ q, q < 2 /\ j = k * 2 + q := ⟨j % 2, Nat.mod_lt _ (by decide), by omega⟩
  rw [C_at (zs.set k x) k x (List.getElem?_set_self hk) q hq]
  have hl : (C zs).length = zs.length * 2 := C_len zs
  have hq' : q = 0 \/ q = 1 := by omega
  rcases hq' with rfl | rfl <;> simp [List.getElem?_set, hl, enc] <;> omega
 ·have e : (C (zs.set k x))[j]? = (C zs)[j]? := by
   rcases Nat.lt_or_ge (j / 2) zs.length with h | h
   ·obtain ⟨z, hz⟩ : ∃ z, zs[j / 2]? = some z := ⟨_, List.getElem?_eq_getElem h⟩
    have hz' : (zs.set k x)[j / 2]? = some z := by rw [List.getElem?_set_ne (fun e => hj e.symm)]; exact hz
    have e0 : j = j / 2 * 2 + j % 2 := by omega
    rw [e0, C_at _ _ z hz' _ (Nat.mod_lt _ (by decide)), C_at _ _ z hz _ (Nat.mod_lt _ (by decide))]
   ·rw [List.getElem?_eq_none (by rw [C_len, List.length_set]; omega), List.getElem?_eq_none (by rw [C_len]; omega)]
  rw [e]
  rw [List.getElem?_set_ne (by omega), List.getElem?_set_ne (by omega)]
def Own (w : World) (B : Nat) (v : Value) (zs : List El) : Prop := w.ownsRow B 77 2 v zs.length (C zs)
def Has (w : World) (v : Value) (zs : List El) : Prop := ∃ ao cap, v = .slice ao zs.length cap /\ ∀ (j : Nat) (u : Value), (C zs)[j]? = some u -> ∃ a, ao = some a /\ w.cell? (a.add j) = some u
theorem C_nil {zs : List El} (h : zs ≠ []) : ∃ u, (C zs)[0]? = some u := by
 cases zs with
 | nil => exact absurd rfl h
 | cons z r =>
   have h1 := C_at (z :: r) 0 z rfl 0 (by decide)
   have h2 : (enc z)[0]? = some ((enc z)[0]'(by rw [enc_len]; decide)) := List.getElem?_eq_getElem _
   exact ⟨_, h1.trans h2⟩
theorem Own.at {w : World} {B g cap n : Nat} {zs : List El} (h : Own w B (.slice (some ⟨g, 0, none⟩) n cap) zs) {j : Nat} {u : Value} (hj : (C zs)[j]? = some u) : w.cell? ⟨g, j, none⟩ = some u := by
 obtain ⟨ao', cap', hv⟩ := row_shape h
 injection hv with _ e _
 subst e
 have h' : w.ownsRow B 77 2 (.slice (some ⟨g, 0, none⟩) zs.length cap) zs.length (C zs) := h
 rw [h'.cellAt j (by rw [<- h'.1]; exact (List.getElem?_eq_some_iff.1 hj).1), hj]
theorem Own.has {w : World} {B : Nat} {v : Value} {zs : List El} (h : Own w B v zs) : Has w v zs := by
 obtain ⟨ao, cap, hv⟩ := row_shape h
 refine ⟨ao, cap, hv, fun j u hj => ?_⟩
 have hlt := (List.getElem?_eq_some_iff.1 hj).1
 rw [C_len] at hlt
 obtain ⟨g, c, hf, _, _⟩ := World.ownsRow.form h (by omega)
 rw [hv] at hf
 injection hf with e1 e2 e3
 subst e1; subst e3
 refine ⟨_, rfl, ?_⟩
 rw [addz]
 rw [hv] at h
 exact Own.at h hj
theorem add_q (a : Addr) (m q : Nat) : (a.add m).add q = a.add (m + q) := by
 unfold Addr.add
 by_cases h1 : m = 0 <;> by_cases h2 : q = 0 <;> simp [h1, h2] <;> omega
theorem copy_of {w : World} {ao : Option Addr} {n cap : Nat} {zs : List El} (h : Has w (.slice ao n cap) zs) : (ao = none -> n = 0) /\ ∀ ad, ao = some ad -> ∀ j u, (C zs)[j]? = some u -> w.cell? (ad.add j) = some u := by
 obtain ⟨ao', cap', hv, h2⟩ := h
 injection hv with e1 e2 e3
 subst e1
 refine ⟨fun e => ?_, fun ad e j u hj => ?_⟩
 ·rw [e2]
  by_cases hz : zs = []
  ·rw [hz]; rfl
  ·obtain ⟨u, hu⟩ := C_nil hz
   obtain ⟨a, ha, _⟩ := h2 0 u hu
   rw [e] at ha; cases ha
 ·obtain ⟨a, ha, hc⟩ := h2 j u hj
  rw [e] at ha
  cases ha
  exact hc
def mk1 (i k : Nat) : El := (-1 - (i : Int), (k : Int))
def marks (i f n : Nat) : List El := (List.range n).map fun k => mk1 i (f + k)
end BSteps
end Go.Proofs.YthcpliinddjkhaaGreatDoor
