/- Texts of this claim, joined: RoPure, RoText, SyPure, Copy. -/
import GoSem.Claim
import Derived.Lib.ItoaNum
import Derived.Lib.SlicesCompact
import Derived.Test.YtpmanmoljlhogaaGreatDoorProg
import Derived.WalkKit
import Derived.Maps.AppendAt
/- Plain facts on keys that are numbered in the order in which they come, and on rounds. Nothing of the program is in it. -/
namespace Go.Proofs.YtpmanmoljlhogaaGreatDoor.Ro
section
variable {K : Type} [DecidableEq K]
/-- The place of a key in a list; the list's length, if it is not there. -/
def place (c : K) : List K → Nat
  | [] => 0
  | a :: r => if a = c then 0 else place c r + 1
/-- A key goes behind those that were seen, unless it is one of them. -/
def more (c : K) (l : List K) : List K := if c ∈ l then l else l ++ [c]
/-- The keys, each once, in the order in which they come. -/
def dd (l : List K) : List K := l.foldl (fun s c => more c s) []
/-- Of each key its number. -/
def num (l : List K) : List Nat := l.map fun z => place z (dd l)
theorem place_le (c : K) (l : List K) : place c l ≤ l.length := by
  induction l with
  | nil => simp [place]
  | cons a r ih => unfold place; split <;> simp <;> omega
theorem place_lt {c : K} {l : List K} : place c l < l.length ↔ c ∈ l := by
  induction l with
  | nil => simp [place]
  | cons a r ih =>
    unfold place
    by_cases h : a = c
    · simp [h]
    · rw [if_neg h, List.length_cons, Nat.add_lt_add_iff_right, ih, List.mem_cons]
      exact ⟨fun h1 => .inr h1, fun h1 => h1.elim (fun e => absurd e.symm h) id⟩
theorem place_no {c : K} {l : List K} (h : c ∉ l) : place c l = l.length := by
  have h1 := place_le c l
  have h2 : ¬ place c l < l.length := fun h2 => h (place_lt.1 h2)
  omega
theorem place_at {c : K} {l : List K} (h : c ∈ l) : l[place c l]? = some c := by
  induction l with
  | nil => simp at h
  | cons a r ih =>
    unfold place
    by_cases h1 : a = c
    · simp [h1]
    · rw [if_neg h1, List.getElem?_cons_succ]
      exact ih ((List.mem_cons.1 h).elim (fun e => absurd e.symm h1) id)
theorem place_inj {a b : K} {l : List K} (ha : a ∈ l) (hb : b ∈ l) (h : place a l = place b l) : a = b := by
  have h1 := place_at ha
  rw [h, place_at hb] at h1
  exact (Option.some.inj h1).symm
theorem place_left {c : K} {a : List K} (b : List K) (h : c ∈ a) : place c (a ++ b) = place c a := by
  induction a with
  | nil => simp at h
  | cons x r ih =>
    simp only [List.cons_append, place]
    by_cases h1 : x = c
    · simp [h1]
    · rw [if_neg h1, if_neg h1, ih ((List.mem_cons.1 h).elim (fun e => absurd e.symm h1) id)]
theorem place_more (c : K) (l : List K) : place c (more c l) = place c l := by
  unfold more
  split
  · rfl
  · rename_i h
    rw [place_no h]
    induction l with
    | nil => simp [place]
    | cons x r ih =>
      have hx : x ≠ c := fun e => h (by rw [e]; exact List.mem_cons_self)
      have hr : c ∉ r := fun e => h (List.mem_cons_of_mem _ e)
      simp only [List.cons_append, place]
      rw [if_neg hx, ih hr]
      simp
theorem dd_snoc (l : List K) (c : K) : dd (l ++ [c]) = more c (dd l) := by simp [dd]
theorem mem_more {c x : K} {l : List K} : x ∈ more c l ↔ x ∈ l ∨ x = c := by
  unfold more
  split
  · rename_i h
    exact ⟨.inl, fun h1 => h1.elim id fun e => by rw [e]; exact h⟩
  · simp
/-- Induction over lists from behind. -/
theorem snoc_ind {α : Type} {P : List α → Prop} (h0 : P []) (hs : ∀ l x, P l → P (l ++ [x])) (l : List α) : P l := by
  have h : ∀ n (l : List α), l.length = n → P l := fun n => by
    induction n with
    | zero => intro l hl; rw [List.length_eq_zero_iff.1 hl]; exact h0
    | succ n ih =>
      intro l hl
      rcases List.eq_nil_or_concat l with rfl | ⟨m, x, rfl⟩
      · simp at hl
      · rw [List.concat_eq_append]
        exact hs m x (ih m (by simp at hl; omega))
  exact h _ l rfl
theorem mem_dd {x : K} (l : List K) : x ∈ dd l ↔ x ∈ l := by
  refine snoc_ind (P := fun l => x ∈ dd l ↔ x ∈ l) (by simp [dd]) (fun l c ih => ?_) l
  rw [dd_snoc, mem_more, ih]
  simp
theorem num_len (l : List K) : (num l).length = l.length := by simp [num]
theorem num_snoc (l : List K) (c : K) : num (l ++ [c]) = num l ++ [place c (dd l)] := by
  unfold num
  rw [List.map_append, dd_snoc]
  congr 1
  · refine List.map_congr_left fun z hz => ?_
    have h1 : z ∈ dd l := (mem_dd l).2 hz
    unfold more
    split
    · rfl
    · exact place_left _ h1
  · simp [place_more]
theorem num_at {l : List K} {i : Nat} {x : K} (h : l[i]? = some x) : (num l)[i]? = some (place x (dd l)) := by
  unfold num
  rw [List.getElem?_map, h]
  rfl
/-- Numbers are the same just where the keys are. -/
theorem num_eq {l : List K} {i j : Nat} {x y : K} (hi : l[i]? = some x) (hj : l[j]? = some y) {u v : Nat} (hu : (num l)[i]? = some u) (hv : (num l)[j]? = some v) : u = v ↔ x = y := by
  rw [num_at hi] at hu
  rw [num_at hj] at hv
  simp only [Option.some.injEq] at hu hv
  subst hu; subst hv
  exact ⟨fun e => place_inj ((mem_dd l).2 (List.mem_of_getElem? hi)) ((mem_dd l).2 (List.mem_of_getElem? hj)) e, fun e => by rw [e]⟩
theorem dd_len_snoc (l : List K) (c : K) : (dd (l ++ [c])).length = (dd l).length + if c ∈ l then 0 else 1 := by
  rw [dd_snoc]
  unfold more
  by_cases h : c ∈ l
  · rw [if_pos ((mem_dd l).2 h), if_pos h]
    rfl
  · rw [if_neg (fun h1 => h ((mem_dd l).1 h1)), if_neg h]
    simp
theorem dd_le (l : List K) : (dd l).length ≤ l.length := by
  refine snoc_ind (P := fun l => (dd l).length ≤ l.length) (by simp [dd]) (fun l c ih => ?_) l
  rw [dd_len_snoc]
  simp only [List.length_append, List.length_cons, List.length_nil]
  split <;> omega
theorem num_lt {l : List K} {u : Nat} (h : u ∈ num l) : u < (dd l).length := by
  obtain ⟨z, hz, rfl⟩ := List.mem_map.1 h
  exact place_lt.2 ((mem_dd l).2 hz)
end
/-- Keys of two kinds, the first ones finer: there are as many of the second ones at most; and if there are as many the numbers are the same. -/
theorem finer {A B : Type} [DecidableEq A] [DecidableEq B] (l : List (A × B)) (hf : ∀ p ∈ l, ∀ q ∈ l, p.1 = q.1 → p.2 = q.2) :
    (dd (l.map (·.2))).length ≤ (dd (l.map (·.1))).length ∧ ((dd (l.map (·.2))).length = (dd (l.map (·.1))).length → num (l.map (·.1)) = num (l.map (·.2))) := by
  revert hf
  refine snoc_ind (P := fun l : List (A × B) => (∀ p ∈ l, ∀ q ∈ l, p.1 = q.1 → p.2 = q.2) → (dd (l.map (·.2))).length ≤ (dd (l.map (·.1))).length ∧ ((dd (l.map (·.2))).length = (dd (l.map (·.1))).length → num (l.map (·.1)) = num (l.map (·.2)))) (fun _ => ⟨by simp [dd], fun _ => rfl⟩) (fun l x ih hf => ?_) l
  obtain ⟨ih1, ih2⟩ := ih fun p hp q hq => hf p (List.mem_append_left _ hp) q (List.mem_append_left _ hq)
  simp only [List.map_append, List.map_cons, List.map_nil]
  rw [dd_len_snoc, dd_len_snoc, num_snoc, num_snoc]
  by_cases hx : x.1 ∈ l.map (·.1)
  · obtain ⟨q, hq, hqe⟩ := List.mem_map.1 hx
    have h2 := hf q (List.mem_append_left _ hq) x (List.mem_append_right _ List.mem_cons_self) hqe
    have hy : x.2 ∈ l.map (·.2) := List.mem_map.2 ⟨q, hq, h2⟩
    rw [if_pos hx, if_pos hy]
    refine ⟨by omega, fun e => ?_⟩
    have h3 := ih2 (by omega)
    obtain ⟨i, hi⟩ := List.mem_iff_getElem?.1 hq
    have a1 := num_at (l := l.map (·.1)) (i := i) (x := q.1) (by rw [List.getElem?_map, hi]; rfl)
    have a2 := num_at (l := l.map (·.2)) (i := i) (x := q.2) (by rw [List.getElem?_map, hi]; rfl)
    rw [h3, a2] at a1
    rw [h3, ← hqe, ← h2, Option.some.inj a1]
  · rw [if_neg hx]
    by_cases hy : x.2 ∈ l.map (·.2)
    · rw [if_pos hy]
      exact ⟨by omega, fun e => by omega⟩
    · rw [if_neg hy]
      refine ⟨by omega, fun e => ?_⟩
      have e2 : (dd (l.map (·.2))).length = (dd (l.map (·.1))).length := by omega
      rw [ih2 e2, place_no (fun h => hx ((mem_dd _).1 h)), place_no (fun h => hy ((mem_dd _).1 h)), e2]
/-- Keys that say the same are numbered alike. -/
theorem num_congr {A B : Type} [DecidableEq A] [DecidableEq B] {a : List A} {b : List B} (hl : a.length = b.length) (h : ∀ (i j : Nat) (x y : A) (u v : B), a[i]? = some x → a[j]? = some y → b[i]? = some u → b[j]? = some v → (x = y ↔ u = v)) : num a = num b := by
  have hz1 : (a.zip b).map (·.1) = a := by rw [List.map_fst_zip (by omega)]
  have hz2 : (a.zip b).map (·.2) = b := by rw [List.map_snd_zip (by omega)]
  have hm : ∀ p ∈ a.zip b, ∃ i : Nat, a[i]? = some p.1 ∧ b[i]? = some p.2 := fun p hp => by
    obtain ⟨i, hi⟩ := List.mem_iff_getElem?.1 hp
    rw [List.getElem?_zip_eq_some] at hi
    exact ⟨i, hi⟩
  have f1 := finer (a.zip b) fun p hp q hq e => by
    obtain ⟨i, hi1, hi2⟩ := hm p hp
    obtain ⟨j, hj1, hj2⟩ := hm q hq
    exact (h i j _ _ _ _ hi1 hj1 hi2 hj2).1 e
  have hb : ∀ (l : List (A × B)), (l.map Prod.swap).map (·.1) = l.map (·.2) ∧ (l.map Prod.swap).map (·.2) = l.map (·.1) := fun l => by simp
  have f2 := finer ((a.zip b).map Prod.swap) fun p hp q hq e => by
    obtain ⟨p', hp', rfl⟩ := List.mem_map.1 hp
    obtain ⟨q', hq', rfl⟩ := List.mem_map.1 hq
    obtain ⟨i, hi1, hi2⟩ := hm p' hp'
    obtain ⟨j, hj1, hj2⟩ := hm q' hq'
    exact (h i j _ _ _ _ hi1 hj1 hi2 hj2).2 e
  rw [(hb _).1, (hb _).2] at f2
  rw [hz1, hz2] at f1 f2
  exact f1.2 (by omega)
theorem num_num {A : Type} [DecidableEq A] (l : List A) : num (num l) = num l := by
  refine num_congr (num_len l) fun i j x y u v hx hy hu hv => ?_
  exact num_eq hu hv hx hy
/-- Rising numbers, each once. -/
def Rise (l : List Int) : Prop := l.Pairwise (· < ·)
theorem rise_unique {a b : List Int} (ha : Rise a) (hb : Rise b) (h : ∀ x, x ∈ a ↔ x ∈ b) : a = b := by
  induction a generalizing b with
  | nil =>
    cases b with
    | nil => rfl
    | cons y s => exact absurd ((h y).2 List.mem_cons_self) (by simp)
  | cons x r ih =>
    cases b with
    | nil => exact absurd ((h x).1 List.mem_cons_self) (by simp)
    | cons y s =>
      obtain ⟨hx, hr⟩ := List.pairwise_cons.1 ha
      obtain ⟨hy, hs⟩ := List.pairwise_cons.1 hb
      have e : x = y := by
        rcases List.mem_cons.1 ((h x).1 List.mem_cons_self) with e | h1
        · exact e
        · rcases List.mem_cons.1 ((h y).2 List.mem_cons_self) with e | h2
          · exact e.symm
          · have := hx y h2; have := hy x h1; omega
      subst e
      congr 1
      refine ih hr hs fun z => ⟨fun hz => ?_, fun hz => ?_⟩
      · rcases List.mem_cons.1 ((h z).1 (List.mem_cons_of_mem _ hz)) with e | h1
        · have := hx z hz; omega
        · exact h1
      · rcases List.mem_cons.1 ((h z).2 (List.mem_cons_of_mem _ hz)) with e | h1
        · have := hy z hz; omega
        · exact h1
/-- A number goes to its place. -/
def ins (x : Int) : List Int → List Int
  | [] => [x]
  | a :: r => if x < a then x :: a :: r else if a = x then a :: r else a :: ins x r
theorem mem_ins {x y : Int} {l : List Int} : y ∈ ins x l ↔ y = x ∨ y ∈ l := by
  induction l with
  | nil => simp [ins]
  | cons a r ih =>
    unfold ins
    split
    · simp
    · split
      · rename_i h; subst h; simp
      · simp only [List.mem_cons, ih]
        constructor
        · rintro (h | h | h) <;> simp [h]
        · rintro (h | h | h) <;> simp [h]
theorem ins_rise {x : Int} {l : List Int} (h : Rise l) : Rise (ins x l) := by
  induction l with
  | nil => exact List.pairwise_singleton _ _
  | cons a r ih =>
    obtain ⟨ha, hr⟩ := List.pairwise_cons.1 h
    unfold ins
    split
    · rename_i h1
      exact List.pairwise_cons.2 ⟨fun y hy => by rcases List.mem_cons.1 hy with rfl | hy; exact h1; have := ha y hy; omega, h⟩
    · split
      · exact h
      · rename_i h1 h2
        exact List.pairwise_cons.2 ⟨fun y hy => by rcases mem_ins.1 hy with rfl | hy; omega; exact ha y hy, ih hr⟩
/-- The numbers of a list as rising ones, each once. -/
def sd : List Int → List Int
  | [] => []
  | a :: r => ins a (sd r)
theorem mem_sd {x : Int} {l : List Int} : x ∈ sd l ↔ x ∈ l := by
  induction l with
  | nil => simp [sd]
  | cons a r ih => simp [sd, mem_ins, ih]
theorem sd_rise (l : List Int) : Rise (sd l) := by
  induction l with
  | nil => exact List.Pairwise.nil
  | cons a r ih => exact ins_rise ih
theorem sd_of {l m : List Int} (h : Rise m) (hm : ∀ x, x ∈ m ↔ x ∈ l) : m = sd l := rise_unique h (sd_rise l) fun x => (hm x).trans mem_sd.symm
theorem sd_eq {l m : List Int} : sd l = sd m ↔ ∀ x, x ∈ l ↔ x ∈ m := ⟨fun h x => by rw [← mem_sd, h, mem_sd], fun h => sd_of (sd_rise l) fun x => mem_sd.trans (h x)⟩
/-- Steps: their labels, and where they lead. -/
abbrev St : Type := Int × Int
/-- The class of where a step leads. -/
def cl (c : List Nat) (t : Int) : Nat := (c[t.toNat]?).getD 0
/-- The ends of steps by a number that is greater than all classes. -/
def ends (M : Int) (c : List Nat) (l : List St) : List Int := l.map fun z => z.1 * M + cl c z.2
/-- With which labels steps lead into which classes. -/
def leads (c : List Nat) (l : List St) (b : Int) (k : Nat) : Prop := ∃ z ∈ l, z.1 = b ∧ cl c z.2 = k
theorem mul_inj {a b M : Int} {k m : Nat} (hk : (k : Int) < M) (hm : (m : Int) < M) (h : a * M + k = b * M + m) : a = b ∧ k = m := by
  have e : a = b := by
    rcases Int.lt_trichotomy a b with h1 | h1 | h1
    · have h2 : (a + 1) * M ≤ b * M := Int.mul_le_mul_of_nonneg_right (by omega) (by omega)
      rw [Int.add_mul] at h2; omega
    · exact h1
    · have h2 : (b + 1) * M ≤ a * M := Int.mul_le_mul_of_nonneg_right (by omega) (by omega)
      rw [Int.add_mul] at h2; omega
  subst e
  exact ⟨rfl, by omega⟩
/-- Ends are the same just if steps lead alike. -/
theorem ends_eq {M : Int} {c : List Nat} {l m : List St} (h1 : ∀ z ∈ l, (cl c z.2 : Int) < M) (h2 : ∀ z ∈ m, (cl c z.2 : Int) < M) : sd (ends M c l) = sd (ends M c m) ↔ ∀ b k, leads c l b k ↔ leads c m b k := by
  have half : ∀ {l m : List St}, (∀ z ∈ l, (cl c z.2 : Int) < M) → (∀ z ∈ m, (cl c z.2 : Int) < M) → (∀ x, x ∈ ends M c l → x ∈ ends M c m) → ∀ b k, leads c l b k → leads c m b k := fun {l m} h1 h2 h b k hL => by
    obtain ⟨z, hz, rfl, rfl⟩ := hL
    obtain ⟨y, hy, he⟩ := List.mem_map.1 (h _ (List.mem_map.2 ⟨z, hz, rfl⟩))
    obtain ⟨e1, e2⟩ := mul_inj (h2 y hy) (h1 z hz) he
    exact ⟨y, hy, e1, e2⟩
  have back : ∀ {l m : List St}, (∀ b k, leads c l b k → leads c m b k) → ∀ x, x ∈ ends M c l → x ∈ ends M c m := fun {l m} h x hx => by
    obtain ⟨z, hz, rfl⟩ := List.mem_map.1 hx
    obtain ⟨y, hy, e1, e2⟩ := h _ _ ⟨z, hz, rfl, rfl⟩
    exact List.mem_map.2 ⟨y, hy, by rw [e1, e2]⟩
  rw [sd_eq]
  constructor
  · exact fun h b k => ⟨half h1 h2 (fun x => (h x).1) b k, half h2 h1 (fun x => (h x).2) b k⟩
  · exact fun h x => ⟨back (fun b k => (h b k).1) x, back (fun b k => (h b k).2) x⟩
/-- The key of a state: its class, and its steps' ends. -/
def key (out : Nat → List St) (c : List Nat) (i : Nat) : Int × List Int := ((c[i]?).getD 0, sd (ends 1001 c (out i)))
/-- The classes of the round behind one. -/
def nx (n : Nat) (out : Nat → List St) (c : List Nat) : List Nat := num ((List.range n).map (key out c))
/-- The classes of a round. -/
def rnd (n : Nat) (out : Nat → List St) : Nat → List Nat
  | 0 => List.replicate n 0
  | k + 1 => nx n out (rnd n out k)
theorem nx_len (n : Nat) (out : Nat → List St) (c : List Nat) : (nx n out c).length = n := by simp [nx, num_len]
theorem rnd_len (n : Nat) (out : Nat → List St) (k : Nat) : (rnd n out k).length = n := by
  cases k with
  | zero => simp [rnd]
  | succ k => exact nx_len n out _
theorem nx_lt {n : Nat} {out : Nat → List St} {c : List Nat} {u : Nat} (h : u ∈ nx n out c) : u < n := by
  have h1 := num_lt h
  have h2 := dd_le ((List.range n).map (key out c))
  simp at h2
  omega
theorem rnd_lt {n : Nat} {out : Nat → List St} {k u : Nat} (h : u ∈ rnd n out k) : u < n := by
  cases k with
  | zero => obtain ⟨h1, rfl⟩ := List.mem_replicate.1 h; omega
  | succ k => exact nx_lt h
theorem key_at {n i : Nat} (out : Nat → List St) (c : List Nat) (h : i < n) : ((List.range n).map (key out c))[i]? = some (key out c i) := by
  rw [List.getElem?_map, List.getElem?_range h]; rfl
/-- Behind a round two states are together, if they were, and if their steps lead alike. -/
theorem nx_eq {n : Nat} {out : Nat → List St} {c : List Nat} (hc : c.length = n) (hn : n ≤ 1000) (hlt : ∀ u ∈ c, u < n) {i j u v x y : Nat} (hu : (nx n out c)[i]? = some u) (hv : (nx n out c)[j]? = some v) (hx : c[i]? = some x) (hy : c[j]? = some y) : u = v ↔ x = y ∧ ∀ b k, leads c (out i) b k ↔ leads c (out j) b k := by
  have hi : i < n := by have := (List.getElem?_eq_some_iff.1 hx).1; omega
  have hj : j < n := by have := (List.getElem?_eq_some_iff.1 hy).1; omega
  have hM : ∀ t : Int, (cl c t : Int) < 1001 := fun t => by
    unfold cl
    cases h : c[t.toNat]? with
    | none => simp
    | some w => have := hlt w (List.mem_of_getElem? h); simp; omega
  have h1 := num_eq (key_at out c hi) (key_at out c hj) hu hv
  rw [h1]
  unfold key
  rw [hx, hy, Prod.mk.injEq, ends_eq (fun z _ => hM z.2) (fun z _ => hM z.2)]
  exact and_congr_left fun _ => (by simp only [Option.getD_some]; omega)
theorem rnd_num (n : Nat) (out : Nat → List St) (k : Nat) : num (rnd n out k) = rnd n out k := by
  cases k with
  | zero =>
    show num (List.replicate n 0) = List.replicate n 0
    refine snoc_ind (P := fun l : List Nat => (∀ x ∈ l, x = 0) → num l = l) (fun _ => rfl) (fun l x ih h => ?_) (List.replicate n 0) (fun x hx => (List.mem_replicate.1 hx).2)
    have hx : x = 0 := h x (List.mem_append_right _ List.mem_cons_self)
    subst hx
    have hl : ∀ y ∈ l, y = 0 := fun y hy => h y (List.mem_append_left _ hy)
    rw [num_snoc, ih hl]
    congr 2
    by_cases h0 : (0 : Nat) ∈ dd l
    · have hlen : (dd l).length ≤ 1 := by
        clear ih h
        refine snoc_ind (P := fun l : List Nat => (∀ x ∈ l, x = 0) → (dd l).length ≤ 1) (fun _ => by simp [dd]) (fun l x ih h => ?_) l hl
        have h1 := ih fun y hy => h y (List.mem_append_left _ hy)
        rw [dd_len_snoc]
        split
        · omega
        · rename_i hx
          have : l = [] := by
            cases l with
            | nil => rfl
            | cons y s => exact absurd (by rw [h x (List.mem_append_right _ List.mem_cons_self), ← h y List.mem_cons_self]; exact List.mem_cons_self) hx
          subst this
          simp [dd]
      have := place_lt.2 h0
      omega
    · rw [place_no h0]
      cases l with
      | nil => simp [dd]
      | cons y s => exact absurd ((mem_dd _).2 (by rw [← hl y List.mem_cons_self]; exact List.mem_cons_self)) h0
  | succ k => exact num_num _
/-- As many classes behind a round as ahead: nothing has changed. -/
theorem nx_stop {n : Nat} {out : Nat → List St} {c : List Nat} (hc : c.length = n) (hnum : num c = c) : (dd c).length ≤ (dd (nx n out c)).length ∧ ((dd c).length = (dd (nx n out c)).length → nx n out c = c) := by
  have hf := finer ((nx n out c).zip c) fun p hp q hq e => by
    obtain ⟨i, hi⟩ := List.mem_iff_getElem?.1 hp
    obtain ⟨j, hj⟩ := List.mem_iff_getElem?.1 hq
    rw [List.getElem?_zip_eq_some] at hi hj
    have hil : i < n := by have := (List.getElem?_eq_some_iff.1 hi.2).1; omega
    have hjl : j < n := by have := (List.getElem?_eq_some_iff.1 hj.2).1; omega
    have h1 := (num_eq (key_at out c hil) (key_at out c hjl) hi.1 hj.1).1 e
    have h2 := (Prod.mk.injEq .. ▸ h1 : _ ∧ _).1
    rw [hi.2, hj.2] at h2
    simp only [Option.getD_some] at h2
    omega
  rw [List.map_fst_zip (by rw [nx_len, hc]; exact Nat.le_refl _), List.map_snd_zip (by rw [nx_len, hc]; exact Nat.le_refl _)] at hf
  refine ⟨hf.1, fun e => ?_⟩
  have h1 := hf.2 e
  rw [hnum] at h1
  have h2 : num (nx n out c) = nx n out c := num_num _
  rw [← h2, h1]
theorem rnd_stop {n : Nat} {out : Nat → List St} {k : Nat} (h : (dd (rnd n out k)).length = (dd (rnd n out (k + 1))).length) : rnd n out (k + 1) = rnd n out k := (nx_stop (rnd_len n out k) (rnd_num n out k)).2 h
/-- As long as something changes there are ever more classes. -/
theorem rnd_grow {n : Nat} {out : Nat → List St} {k : Nat} (hn : 0 < n) (h : ∀ j, j < k → rnd n out (j + 1) ≠ rnd n out j) : k + 1 ≤ (dd (rnd n out k)).length := by
  induction k with
  | zero =>
    have : (0 : Nat) ∈ dd (rnd n out 0) := (mem_dd _).2 (List.mem_replicate.2 ⟨by omega, rfl⟩)
    exact List.length_pos_of_mem this
  | succ k ih =>
    have h1 := ih fun j hj => h j (by omega)
    have h2 := (nx_stop (out := out) (rnd_len n out k) (rnd_num n out k)).1
    have h3 : (dd (rnd n out k)).length ≠ (dd (rnd n out (k + 1))).length := fun e => h k (by omega) (rnd_stop e)
    show k + 1 + 1 ≤ (dd (rnd n out (k + 1))).length
    have h4 : (dd (rnd n out k)).length ≤ (dd (rnd n out (k + 1))).length := h2
    omega
/-- R is the last round: behind it nothing changes, and ahead of it something did each time. -/
def Last (n : Nat) (out : Nat → List St) (R : Nat) : Prop := rnd n out (R + 1) = rnd n out R ∧ ∀ j, j < R → rnd n out (j + 1) ≠ rnd n out j
theorem changes_lt {n : Nat} {out : Nat → List St} {k : Nat} (h : ∀ j, j < k → rnd n out (j + 1) ≠ rnd n out j) : k < max n 1 := by
  by_cases hn : 0 < n
  · have h1 := rnd_grow hn h
    have h2 := dd_le (rnd n out k)
    rw [rnd_len] at h2
    omega
  · obtain rfl : n = 0 := by omega
    rcases Nat.eq_zero_or_pos k with rfl | hk
    · simp
    · exact absurd (by rw [List.length_eq_zero_iff.1 (rnd_len 0 out (0 + 1)), List.length_eq_zero_iff.1 (rnd_len 0 out 0)]) (h 0 hk)
theorem Last.lt {n : Nat} {out : Nat → List St} {R : Nat} (h : Last n out R) : R < max n 1 := changes_lt h.2
theorem exists_last (n : Nat) (out : Nat → List St) : ∃ R, Last n out R := by
  have h : ∀ f k, k + f = max n 1 → (∀ j, j < k → rnd n out (j + 1) ≠ rnd n out j) → ∃ R, Last n out R := fun f => by
    induction f with
    | zero => intro k hk hc; have := changes_lt hc; omega
    | succ f ih =>
      intro k hk hc
      by_cases e : rnd n out (k + 1) = rnd n out k
      · exact ⟨k, e, hc⟩
      · exact ih (k + 1) (by omega) fun j hj => by
          rcases Nat.lt_or_ge j k with h1 | h1
          · exact hc j h1
          · obtain rfl : j = k := by omega
            exact e
  exact h (max n 1) 0 (by omega) fun j hj => by omega
theorem Last.ge {n : Nat} {out : Nat → List St} {R k : Nat} (h : Last n out R) (hc : ∀ j, j < k → rnd n out (j + 1) ≠ rnd n out j) : k ≤ R := by
  rcases Nat.lt_or_ge R k with h1 | h1
  · exact absurd h.1 (hc R h1)
  · exact h1
theorem Last.unique {n : Nat} {out : Nat → List St} {R S : Nat} (h : Last n out R) (k : Last n out S) : R = S := by
  rcases Nat.lt_trichotomy R S with h1 | h1 | h1
  · exact absurd h.1 (k.2 R h1)
  · exact h1
  · exact absurd k.1 (h.2 S h1)
/-- The rounds, from the first one on. -/
def rounds (n : Nat) (out : Nat → List St) (k : Nat) : List (List Nat) := (List.range k).map (rnd n out)
theorem rounds_succ (n : Nat) (out : Nat → List St) (k : Nat) : rounds n out (k + 1) = rounds n out k ++ [rnd n out k] := by simp [rounds, List.range_succ]
theorem rounds_at {n k i : Nat} (out : Nat → List St) (h : i < k) : (rounds n out k)[i]? = some (rnd n out i) := by
  unfold rounds
  rw [List.getElem?_map, List.getElem?_range h]; rfl
/-- The rank of two states in the rounds from k on, of which there are f. -/
def rankG (n : Nat) (out : Nat → List St) (p q : Nat) (k : Nat) : Nat → Int
  | 0 => -1
  | f + 1 => if (rnd n out k)[p]? = (rnd n out k)[q]? then rankG n out p q (k + 1) f else k
def rank (n : Nat) (out : Nat → List St) (R p q : Nat) : Int := rankG n out p q 0 (R + 1)
/-- Out of rows that are the same rounds are the same. -/
theorem nx_out {n : Nat} {out out' : Nat → List St} (c : List Nat) (h : ∀ i, i < n → ∀ z, z ∈ out i ↔ z ∈ out' i) : nx n out c = nx n out' c := by
  unfold nx
  congr 1
  refine List.map_congr_left fun i hi => ?_
  unfold key
  congr 1
  rw [sd_eq]
  intro x
  unfold ends
  rw [List.mem_map, List.mem_map]
  exact ⟨fun ⟨z, hz, e⟩ => ⟨z, (h i (List.mem_range.1 hi) z).1 hz, e⟩, fun ⟨z, hz, e⟩ => ⟨z, (h i (List.mem_range.1 hi) z).2 hz, e⟩⟩
theorem rnd_out {n : Nat} {out out' : Nat → List St} (h : ∀ i, i < n → ∀ z, z ∈ out i ↔ z ∈ out' i) (k : Nat) : rnd n out k = rnd n out' k := by
  induction k with
  | zero => rfl
  | succ k ih =>
    show nx n out (rnd n out k) = nx n out' (rnd n out' k)
    rw [ih]
    exact nx_out _ h
end Go.Proofs.YtpmanmoljlhogaaGreatDoor.Ro
/- The text of a state's signature: no two signatures have one. What slices.Compact leaves of numbers in order. Nothing of the program is in it. -/
namespace Go.Proofs.YtpmanmoljlhogaaGreatDoor.Ro
open Go.Lib
/-- The number that digits tell. -/
def val (l : List UInt8) : Nat := l.foldl (fun a b => a * 10 + (b.toNat - 48)) 0
theorem dig_toNat {d : Nat} (h : d < 10) : (UInt8.ofNat (48 + d)).toNat = 48 + d := by
  rw [UInt8.toNat_ofNat']
  omega
theorem val_dec (u : Nat) : val (decDigits u) = u := by
  induction u using Nat.strongRecOn with
  | _ u ih =>
    by_cases h : u < 10
    · rw [decDigits, dif_pos h]
      unfold val
      simp only [List.foldl_cons, List.foldl_nil, dig_toNat h]
      omega
    · rw [decDigits, dif_neg h]
      have h1 := ih (u / 10) (by omega)
      unfold val at h1 ⊢
      rw [List.foldl_append, h1]
      simp only [List.foldl_cons, List.foldl_nil, dig_toNat (Nat.mod_lt u (by decide))]
      omega
theorem dec_digit (u : Nat) : ∀ b ∈ decDigits u, b ≠ 32 := by
  induction u using Nat.strongRecOn with
  | _ u ih =>
    have h48 : ∀ d, d < 10 → UInt8.ofNat (48 + d) ≠ 32 := fun d hd e => by
      have h1 := congrArg UInt8.toNat e
      rw [dig_toNat hd] at h1
      have h2 : (32 : UInt8).toNat = 32 := rfl
      omega
    by_cases h : u < 10
    · rw [decDigits, dif_pos h]
      intro b hb
      rw [List.mem_singleton.1 hb]
      exact h48 u h
    · rw [decDigits, dif_neg h]
      intro b hb
      rcases List.mem_append.1 hb with hb | hb
      · exact ih (u / 10) (by omega) b hb
      · rw [List.mem_singleton.1 hb]
        exact h48 _ (Nat.mod_lt u (by decide))
theorem itoa_dec {n : Int} (h : 0 ≤ n) : itoa n = decDigits n.toNat := by unfold itoa; rw [if_neg (by omega)]
theorem itoa_inj {a b : Int} (ha : 0 ≤ a) (hb : 0 ≤ b) (h : itoa a = itoa b) : a = b := by
  rw [itoa_dec ha, itoa_dec hb] at h
  have h1 := congrArg val h
  rw [val_dec, val_dec] at h1
  omega
theorem itoa_len (n : Int) (h0 : 0 ≤ n) (h : n < 1000000) : (itoa n).length ≤ 6 := by
  rw [itoa_dec h0, decDigits_length]
  have h6 : ∀ (k u : Nat), u < 10 ^ (k + 1) → nDigits u ≤ k + 1 := fun k => by
    induction k with
    | zero => intro u hu; rw [nDigits_small (by simpa using hu)]; omega
    | succ k ih =>
      intro u hu
      by_cases h : u < 10
      · rw [nDigits_small h]; omega
      · rw [nDigits_big h]
        have := ih (u / 10) (by rw [Nat.pow_succ] at hu; omega)
        omega
  exact h6 5 _ (by omega)
/-- The words of a text. -/
def words (es : List Int) : List UInt8 := es.flatMap fun e => 32 :: itoa e
/-- The text of a class and of ends. -/
def sigL (c : Int) (es : List Int) : List UInt8 := itoa c ++ words es
theorem words_snoc (es : List Int) (e : Int) : words (es ++ [e]) = words es ++ (32 :: itoa e) := by simp [words]
theorem cut_eq {A B R S : List UInt8} (hA : ∀ b ∈ A, b ≠ 32) (hB : ∀ b ∈ B, b ≠ 32) (hR : R = [] ∨ ∃ t, R = 32 :: t) (hS : S = [] ∨ ∃ t, S = 32 :: t) (h : A ++ R = B ++ S) : A = B ∧ R = S := by
  induction A generalizing B with
  | nil =>
    cases B with
    | nil => exact ⟨rfl, h⟩
    | cons y t =>
      simp only [List.nil_append, List.cons_append] at h
      rcases hR with rfl | ⟨u, rfl⟩
      · cases h
      · injection h with h1 h2
        exact absurd h1.symm (hB y List.mem_cons_self)
  | cons x r ih =>
    cases B with
    | nil =>
      simp only [List.nil_append, List.cons_append] at h
      rcases hS with rfl | ⟨u, rfl⟩
      · cases h
      · injection h with h1 h2
        exact absurd h1 (hA x List.mem_cons_self)
    | cons y t =>
      injection h with h1 h2
      obtain ⟨h3, h4⟩ := ih (fun b hb => hA b (List.mem_cons_of_mem _ hb)) (fun b hb => hB b (List.mem_cons_of_mem _ hb)) h2
      exact ⟨by rw [h1, h3], h4⟩
theorem words_head (es : List Int) : words es = [] ∨ ∃ t, words es = 32 :: t := by
  cases es with
  | nil => exact .inl rfl
  | cons e r => exact .inr ⟨_, by simp [words]; rfl⟩
theorem itoa_digit {n : Int} (h : 0 ≤ n) : ∀ b ∈ itoa n, b ≠ 32 := by rw [itoa_dec h]; exact dec_digit _
theorem words_inj {es fs : List Int} (he : ∀ e ∈ es, 0 ≤ e) (hf : ∀ e ∈ fs, 0 ≤ e) (h : words es = words fs) : es = fs := by
  induction es generalizing fs with
  | nil =>
    cases fs with
    | nil => rfl
    | cons f r => simp [words] at h
  | cons e r ih =>
    cases fs with
    | nil => simp [words] at h
    | cons f s =>
      have h1 : itoa e ++ words r = itoa f ++ words s := by
        have h2 : (32 :: itoa e) ++ words r = (32 :: itoa f) ++ words s := by simpa [words] using h
        simpa using h2
      obtain ⟨a, b⟩ := cut_eq (itoa_digit (he e List.mem_cons_self)) (itoa_digit (hf f List.mem_cons_self)) (words_head r) (words_head s) h1
      rw [itoa_inj (he e List.mem_cons_self) (hf f List.mem_cons_self) a, ih (fun x hx => he x (List.mem_cons_of_mem _ hx)) (fun x hx => hf x (List.mem_cons_of_mem _ hx)) b]
theorem sig_inj {c d : Int} {es fs : List Int} (hc : 0 ≤ c) (hd : 0 ≤ d) (he : ∀ e ∈ es, 0 ≤ e) (hf : ∀ e ∈ fs, 0 ≤ e) : sigL c es = sigL d fs ↔ c = d ∧ es = fs := by
  constructor
  · intro h
    obtain ⟨a, b⟩ := cut_eq (itoa_digit hc) (itoa_digit hd) (words_head es) (words_head fs) h
    exact ⟨itoa_inj hc hd a, words_inj he hf b⟩
  · rintro ⟨rfl, rfl⟩; rfl
theorem get_bang {zs : List Int} {i : Nat} (h : i < zs.length) : zs.toArray[i]! = zs[i] := by simp [h]
/-- Of numbers in order slices.Compact leaves each once. -/
theorem compact_sd {zs : List Int} (hs : zs.Pairwise (· ≤ ·)) : compact zs = sd zs := by
  have hle : ∀ (i j : Nat) (hi : i < zs.length) (hj : j < zs.length), i ≤ j → zs[i] ≤ zs[j] := fun i j hi hj hij => by
    rcases Nat.lt_or_ge i j with h | h
    · exact List.pairwise_iff_getElem.1 hs i j hi hj h
    · obtain rfl : i = j := by omega
      exact Int.le_refl _
  refine sd_of ?_ fun x => ?_
  · unfold Rise compact compactUpTo
    rw [List.pairwise_map]
    refine ((List.pairwise_lt_range).filter _).imp_of_mem ?_
    intro a b ha hb hab
    obtain ⟨ha1, _⟩ := List.mem_filter.1 ha
    obtain ⟨hb1, hb2⟩ := List.mem_filter.1 hb
    have hal := List.mem_range.1 ha1
    have hbl := List.mem_range.1 hb1
    rw [get_bang hal, get_bang hbl]
    have h1 := hle a (b - 1) hal (by omega) (by omega)
    have h2 := hle (b - 1) b (by omega) hbl (by omega)
    have h3 : zs[b] ≠ zs[b - 1] := fun e => by
      have := keeps_neg (d := zs.toArray) (m := b) (by omega) (by rw [get_bang hbl, get_bang (by omega)]; exact e)
      rw [this] at hb2
      cases hb2
    omega
  · unfold compact compactUpTo
    rw [List.mem_map]
    constructor
    · rintro ⟨i, hi, rfl⟩
      have hl := List.mem_range.1 (List.mem_filter.1 hi).1
      rw [get_bang hl]
      exact List.getElem_mem hl
    · intro hx
      have hp : ∃ i, ∃ h : i < zs.length, zs[i] = x := by
        obtain ⟨i, h, e⟩ := List.mem_iff_getElem.1 hx
        exact ⟨i, h, e⟩
      have least : ∀ n, (∃ i, i < n ∧ ∃ h : i < zs.length, zs[i] = x) → ∃ i, ∃ h : i < zs.length, zs[i] = x ∧ ∀ j (hj : j < i), zs[j] ≠ x := fun n => by
        induction n with
        | zero => rintro ⟨i, hi, _⟩; omega
        | succ n ih =>
          rintro ⟨i, hi, h, e⟩
          by_cases hq : ∃ i, i < n ∧ ∃ h : i < zs.length, zs[i] = x
          · exact ih hq
          · exact ⟨i, h, e, fun j hj ej => hq ⟨j, by omega, by omega, ej⟩⟩
      obtain ⟨i0, h0, e0⟩ := hp
      obtain ⟨i, h, e, hmin⟩ := least zs.length ⟨i0, h0, h0, e0⟩
      refine ⟨i, List.mem_filter.2 ⟨List.mem_range.2 h, ?_⟩, by rw [get_bang h]; exact e⟩
      rcases Nat.eq_zero_or_pos i with rfl | hi
      · exact keeps_lt_one _ 0 (by omega)
      · refine keeps_pos ?_
        rw [get_bang h, get_bang (by omega), e]
        exact fun e2 => hmin (i - 1) (by omega) e2.symm
theorem sd_len (l : List Int) : (sd l).length ≤ l.length := by
  have hi : ∀ x l, (ins x l).length ≤ l.length + 1 := fun x l => by
    induction l with
    | nil => simp [ins]
    | cons a r ih => unfold ins; split <;> (try split) <;> simp <;> omega
  induction l with
  | nil => simp [sd]
  | cons a r ih => have := hi a (sd r); simp only [sd, List.length_cons]; omega
theorem sigL_snoc (c : Int) (es : List Int) (e : Int) : sigL c es ++ (32 :: itoa e) = sigL c (es ++ [e]) := by unfold sigL; rw [words_snoc, List.append_assoc]
theorem words_len {es : List Int} (h : ∀ e ∈ es, 0 ≤ e ∧ e < 1000000) : (words es).length ≤ 7 * es.length := by
  induction es with
  | nil => simp [words]
  | cons e r ih =>
    have h1 := ih fun x hx => h x (List.mem_cons_of_mem _ hx)
    have h2 := h e List.mem_cons_self
    have h3 := itoa_len e h2.1 h2.2
    have h4 : words (e :: r) = (32 :: itoa e) ++ words r := by simp [words]
    rw [h4, List.length_append]
    simp only [List.length_cons]
    omega
theorem sigL_len (c : Int) (es : List Int) (h0 : 0 ≤ c) (h1 : c < 1000000) (h : ∀ e ∈ es, 0 ≤ e ∧ e < 1000000) : (sigL c es).length ≤ 6 + 7 * es.length := by
  unfold sigL
  rw [List.length_append]
  have := itoa_len c h0 h1
  have := words_len h
  omega
theorem sigL_pos (c : Int) (es : List Int) : 0 < (sigL c es).length := by
  unfold sigL itoa
  have hd : ∀ u, 0 < (decDigits u).length := fun u => by rw [decDigits_length]; have := nDigits_pos u; omega
  rw [List.length_append]
  split
  · simp only [List.length_cons]; omega
  · have := hd c.toNat; omega
end Go.Proofs.YtpmanmoljlhogaaGreatDoor.Ro
/- Plain facts on edges, their order and one form of their lists; on classes and their one form. Nothing of the program is in it. -/
namespace Go.Proofs.YtpmanmoljlhogaaGreatDoor.Sy
/-- An edge: where it comes from, its label, where it leads. -/
abbrev Ed : Type := Int × Int × Int
def lt (a b : Ed) : Bool := if a.1 != b.1 then decide (a.1 < b.1) else if a.2.1 != b.2.1 then decide (a.2.1 < b.2.1) else decide (a.2.2 < b.2.2)
theorem lt_iff (a b : Ed) : lt a b = true ↔ a.1 < b.1 ∨ a.1 = b.1 ∧ (a.2.1 < b.2.1 ∨ a.2.1 = b.2.1 ∧ a.2.2 < b.2.2) := by
  unfold lt
  by_cases h1 : a.1 = b.1
  · by_cases h2 : a.2.1 = b.2.1 <;> simp [h1, h2]
  · simp [h1]
theorem lt_irrefl (a : Ed) : lt a a = false := by
  cases h : lt a a with
  | false => rfl
  | true => rw [lt_iff] at h; omega
theorem lt_trans {a b c : Ed} (h1 : lt a b = true) (h2 : lt b c = true) : lt a c = true := by
  rw [lt_iff] at *; omega
theorem lt_asymm {a b : Ed} (h : lt a b = true) : lt b a = false := by
  cases h2 : lt b a with
  | false => rfl
  | true => rw [lt_iff] at h h2; omega
theorem eq_of_not {a b : Ed} (h1 : lt a b = false) (h2 : lt b a = false) : a = b := by
  have h3 : ¬ lt a b = true := by rw [h1]; simp
  have h4 : ¬ lt b a = true := by rw [h2]; simp
  rw [lt_iff] at h3 h4
  obtain ⟨x, y, z⟩ := a
  obtain ⟨u, v, w⟩ := b
  simp only at h3 h4
  have e1 : x = u := by omega
  have e2 : y = v := by omega
  have e3 : z = w := by omega
  rw [e1, e2, e3]
/-- Edges in order, each once. -/
def Str : List Ed → Prop
  | [] => True
  | [_] => True
  | a :: b :: r => lt a b = true ∧ Str (b :: r)
theorem Str.tail {a : Ed} {r : List Ed} (h : Str (a :: r)) : Str r := by
  cases r with
  | nil => trivial
  | cons b s => exact h.2
theorem Str.head {a : Ed} {r : List Ed} (h : Str (a :: r)) : ∀ x ∈ r, lt a x = true := by
  induction r generalizing a with
  | nil => intro x hx; simp at hx
  | cons b s ih =>
    intro x hx
    rcases List.mem_cons.1 hx with rfl | hx
    · exact h.1
    · exact lt_trans h.1 (ih h.2 x hx)
theorem Str.cons {a : Ed} {r : List Ed} (h : Str r) (h2 : ∀ x ∈ r, lt a x = true) : Str (a :: r) := by
  cases r with
  | nil => trivial
  | cons b s => exact ⟨h2 b List.mem_cons_self, h⟩
theorem Str.snoc {l : List Ed} {x : Ed} (h : Str l) (h2 : ∀ y ∈ l, lt y x = true) : Str (l ++ [x]) := by
  induction l with
  | nil => trivial
  | cons a r ih =>
    refine Str.cons (ih h.tail fun y hy => h2 y (List.mem_cons_of_mem _ hy)) fun y hy => ?_
    rcases List.mem_append.1 hy with hy | hy
    · exact h.head y hy
    · rw [List.mem_singleton.1 hy]; exact h2 a List.mem_cons_self
/-- Two such lists of the same edges are one. -/
theorem Str.unique {l m : List Ed} (hl : Str l) (hm : Str m) (h : ∀ x, x ∈ l ↔ x ∈ m) : l = m := by
  induction l generalizing m with
  | nil =>
    cases m with
    | nil => rfl
    | cons b s => exact absurd ((h b).2 List.mem_cons_self) (by simp)
  | cons a r ih =>
    cases m with
    | nil => exact absurd ((h a).1 List.mem_cons_self) (by simp)
    | cons b s =>
      have e : a = b := by
        rcases List.mem_cons.1 ((h a).1 List.mem_cons_self) with e | ha
        · exact e
        · rcases List.mem_cons.1 ((h b).2 List.mem_cons_self) with e | hb
          · exact e.symm
          · have h1 := hm.head a ha
            have h2 := hl.head b hb
            rw [lt_asymm h1] at h2
            cases h2
      subst e
      congr 1
      refine ih hl.tail hm.tail fun x => ⟨fun hx => ?_, fun hx => ?_⟩
      · rcases List.mem_cons.1 ((h x).1 (List.mem_cons_of_mem _ hx)) with e | hx2
        · subst e; have h1 := hl.head x hx; rw [lt_irrefl] at h1; cases h1
        · exact hx2
      · rcases List.mem_cons.1 ((h x).2 (List.mem_cons_of_mem _ hx)) with e | hx2
        · subst e; have h1 := hm.head x hx; rw [lt_irrefl] at h1; cases h1
        · exact hx2
/-- An edge goes to its place. -/
def ins (x : Ed) : List Ed → List Ed
  | [] => [x]
  | a :: r => if lt x a then x :: a :: r else if lt a x then a :: ins x r else a :: r
theorem ins_mem (x y : Ed) (l : List Ed) : y ∈ ins x l ↔ y = x ∨ y ∈ l := by
  induction l with
  | nil => simp [ins]
  | cons a r ih =>
    unfold ins
    cases h1 : lt x a with
    | true => simp
    | false =>
      cases h2 : lt a x with
      | true =>
        simp only [Bool.false_eq_true, if_false, if_true, List.mem_cons, ih]
        constructor
        · rintro (h | h | h) <;> simp [h]
        · rintro (h | h | h) <;> simp [h]
      | false =>
        have e := eq_of_not h1 h2
        subst e
        simp
theorem ins_str (x : Ed) (l : List Ed) (h : Str l) : Str (ins x l) := by
  induction l with
  | nil => trivial
  | cons a r ih =>
    unfold ins
    cases h1 : lt x a with
    | true => exact ⟨h1, h⟩
    | false =>
      cases h2 : lt a x with
      | true =>
        simp only [Bool.false_eq_true, if_false, if_true]
        refine Str.cons (ih h.tail) fun y hy => ?_
        rcases (ins_mem x y r).1 hy with rfl | hy
        · exact h2
        · exact h.head y hy
      | false => exact h
/-- The one form of a list of edges. -/
def nf : List Ed → List Ed
  | [] => []
  | a :: r => ins a (nf r)
theorem nf_mem (l : List Ed) (x : Ed) : x ∈ nf l ↔ x ∈ l := by
  induction l with
  | nil => simp [nf]
  | cons a r ih => simp [nf, ins_mem, ih]
theorem nf_str (l : List Ed) : Str (nf l) := by
  induction l with
  | nil => trivial
  | cons a r ih => exact ins_str a _ ih
theorem nf_of {l m : List Ed} (h : Str m) (hm : ∀ x, x ∈ m ↔ x ∈ l) : m = nf l := h.unique (nf_str l) fun x => (hm x).trans (nf_mem l x).symm
theorem nf_congr {l m : List Ed} (h : ∀ x, x ∈ l ↔ x ∈ m) : nf l = nf m := nf_of (nf_str l) fun x => (nf_mem l x).trans (h x)
theorem nf_idem (l : List Ed) : nf (nf l) = nf l := (nf_of (nf_str l) fun _ => Iff.rfl).symm
theorem ins_len (x : Ed) (l : List Ed) : (ins x l).length ≤ l.length + 1 := by
  induction l with
  | nil => simp [ins]
  | cons a r ih =>
    unfold ins
    cases h1 : lt x a <;> cases h2 : lt a x <;> simp <;> omega
theorem nf_len (l : List Ed) : (nf l).length ≤ l.length := by
  induction l with
  | nil => simp [nf]
  | cons a r ih => have := ins_len a (nf r); simp only [nf, List.length_cons]; omega
theorem str_len {m l : List Ed} (h : Str m) (hs : ∀ x ∈ m, x ∈ l) : m.length ≤ l.length := by
  have e : m = nf m := nf_of h fun _ => Iff.rfl
  induction m generalizing l with
  | nil => simp
  | cons a r ih =>
    have ha := hs a List.mem_cons_self
    have h1 : r.length ≤ (l.erase a).length := by
      refine ih h.tail (fun x hx => ?_) (nf_of h.tail fun _ => Iff.rfl)
      have h2 := h.head x hx
      have hne : x ≠ a := fun e => by rw [e, lt_irrefl] at h2; cases h2
      exact (List.mem_erase_of_ne hne).2 (hs x (List.mem_cons_of_mem _ hx))
    rw [List.length_erase_of_mem ha] at h1
    have := List.length_pos_of_mem ha
    simp only [List.length_cons]
    omega
/-- An edge goes behind others, unless the last one is the same. -/
def put (out : List Ed) (e : Ed) : List Ed := if out.getLast? = some e then out else out ++ [e]
theorem put_str {out : List Ed} {e : Ed} (h : Str out) (hle : ∀ x ∈ out, lt e x = false) : Str (put out e) := by
  unfold put
  split
  · exact h
  · rename_i hne
    refine h.snoc fun y hy => ?_
    have hys : ∀ (l : List Ed) (z : Ed), Str l → l.getLast? = some z → ∀ y ∈ l, y = z ∨ lt y z = true := fun l => by
      induction l with
      | nil => intro z _ hz; simp at hz
      | cons a r ih =>
        intro z hs hz y hy
        cases r with
        | nil => simp at hz hy; subst hz; exact .inl hy
        | cons b s =>
          rw [List.getLast?_cons_cons] at hz
          rcases List.mem_cons.1 hy with rfl | hy
          · have hzm := List.mem_of_getLast? hz
            exact .inr (hs.head z hzm)
          · exact ih z hs.tail hz y hy
    cases hl : out.getLast? with
    | none => rw [List.getLast?_eq_none_iff] at hl; subst hl; simp at hy
    | some z =>
      have hzm := List.mem_of_getLast? hl
      have hz1 : lt z e = true := by
        cases h1 : lt z e with
        | true => rfl
        | false => exact absurd (by rw [hl, eq_of_not h1 (hle z hzm)]) hne
      rcases hys out z h hl y hy with rfl | h2
      · exact hz1
      · exact lt_trans h2 hz1
theorem put_mem (out : List Ed) (e x : Ed) : x ∈ put out e ↔ x ∈ out ∨ x = e := by
  unfold put
  split
  · rename_i h
    have := List.mem_of_getLast? h
    constructor
    · exact .inl
    · rintro (h | rfl)
      · exact h
      · exact this
  · simp
/-- Two lists in order are being merged: out has what is behind. -/
structure Mg (a b : List Ed) (i k : Nat) (out : List Ed) : Prop where
  s : Str out
  m : ∀ x, x ∈ out ↔ x ∈ a.take i ∨ x ∈ b.take k
  ha : ∀ x ∈ out, ∀ y ∈ a.drop i, lt y x = false
  hb : ∀ x ∈ out, ∀ y ∈ b.drop k, lt y x = false
theorem Mg.start (a b : List Ed) : Mg a b 0 0 [] := ⟨trivial, fun x => by simp, fun x hx => by simp at hx, fun x hx => by simp at hx⟩
theorem Mg.swap {a b : List Ed} {i k : Nat} {out : List Ed} (h : Mg a b i k out) : Mg b a k i out := ⟨h.s, fun x => (h.m x).trans or_comm, h.hb, h.ha⟩
theorem Mg.left {a b : List Ed} {i k : Nat} {out : List Ed} (h : Mg a b i k out) (hsa : Str a) (hsb : Str b) {e : Ed} (he : a[i]? = some e) (hk : ∀ f, b[k]? = some f → lt f e = false) : Mg a b (i + 1) k (put out e) := by
  obtain ⟨hl, rfl⟩ := List.getElem?_eq_some_iff.1 he
  have hd : a.drop i = a[i] :: a.drop (i + 1) := List.drop_eq_getElem_cons hl
  have hstr : ∀ (l : List Ed) (n : Nat), Str l → Str (l.drop n) := fun l n hs => by
    induction n generalizing l with
    | zero => exact hs
    | succ n ih =>
      cases l with
      | nil => exact hs
      | cons c r => exact ih r hs.tail
  have h1 : Str (a[i] :: a.drop (i + 1)) := by rw [← hd]; exact hstr a i hsa
  have hbk : ∀ y ∈ b.drop k, lt y a[i] = false := fun y hy => by
    cases hb : b.drop k with
    | nil => rw [hb] at hy; simp at hy
    | cons f r =>
      have hkl : k < b.length := by
        rcases Nat.lt_or_ge k b.length with h2 | h2
        · exact h2
        · rw [List.drop_eq_nil_of_le h2] at hb; cases hb
      have hf : f = b[k] := by rw [List.drop_eq_getElem_cons hkl] at hb; exact (List.cons.inj hb).1.symm
      have h2 := hk f (by rw [hf]; exact List.getElem?_eq_getElem hkl)
      have h3 : Str (f :: r) := by rw [← hb]; exact hstr b k hsb
      rw [hb] at hy
      rcases List.mem_cons.1 hy with rfl | hy
      · exact h2
      · cases h4 : lt y a[i] with
        | false => rfl
        | true => have h5 := lt_trans (h3.head y hy) h4; rw [h2] at h5; cases h5
  have hout : ∀ x ∈ out, lt a[i] x = false := fun x hx => h.ha x hx _ (by rw [hd]; exact List.mem_cons_self)
  refine ⟨put_str h.s hout, fun x => ?_, fun x hx y hy => ?_, fun x hx y hy => ?_⟩
  · rw [put_mem, h.m, List.take_succ_eq_append_getElem hl]
    simp only [List.mem_append, List.mem_singleton]
    constructor
    · rintro ((h | h) | h) <;> simp [h]
    · rintro ((h | h) | h) <;> simp [h]
  · rcases (put_mem _ _ _).1 hx with hx | rfl
    · exact h.ha x hx y (by rw [hd]; exact List.mem_cons_of_mem _ hy)
    · exact lt_asymm (h1.head y hy)
  · rcases (put_mem _ _ _).1 hx with hx | rfl
    · exact h.hb x hx y hy
    · exact hbk y hy
/-- Is it a system? -/
def right (n k s : Int) (es : List Ed) : Bool :=
  decide (0 ≤ n ∧ n ≤ 1000 ∧ 1 ≤ k ∧ k ≤ 201 ∧ es.length ≤ 10000) && decide ((n = 0 → s = 0) ∧ (0 < n → 0 ≤ s ∧ s < n)) && es.all fun e => decide (0 ≤ e.1 ∧ e.1 < n ∧ 0 ≤ e.2.2 ∧ e.2.2 < n ∧ 0 ≤ e.2.1 ∧ e.2.1 < k)
/-- An edge turned round. -/
def turn (e : Ed) : Ed := (e.2.2, e.2.1, e.1)
/-- The place of a number in a list; the list's length, if it is not there. -/
def place (c : Int) : List Int → Nat
  | [] => 0
  | a :: r => if a = c then 0 else place c r + 1
theorem place_le (c : Int) (l : List Int) : place c l ≤ l.length := by
  induction l with
  | nil => simp [place]
  | cons a r ih => unfold place; split <;> simp <;> omega
/-- The one form of classes, behind those that were seen. -/
def canonG : List Int → List Int → List Nat
  | _, [] => []
  | seen, c :: r => place c seen :: canonG (if place c seen < seen.length then seen else seen ++ [c]) r
def canon (l : List Int) : List Nat := canonG [] l
def seenG : List Int → List Int → List Int
  | seen, [] => seen
  | seen, c :: r => seenG (if place c seen < seen.length then seen else seen ++ [c]) r
theorem canonG_len (l : List Int) : ∀ seen, (canonG seen l).length = l.length := by
  induction l with
  | nil => intro _; rfl
  | cons c r ih => intro seen; simp [canonG, ih]
theorem canonG_app (a b : List Int) : ∀ seen, canonG seen (a ++ b) = canonG seen a ++ canonG (seenG seen a) b := by
  induction a with
  | nil => intro _; rfl
  | cons c r ih => intro seen; simp only [List.cons_append, canonG, seenG]; rw [ih]
theorem seenG_app (a b : List Int) : ∀ seen, seenG seen (a ++ b) = seenG (seenG seen a) b := by
  induction a with
  | nil => intro _; rfl
  | cons c r ih => intro seen; simp only [List.cons_append, seenG]; rw [ih]
theorem seenG_len (l : List Int) : ∀ seen, (seenG seen l).length ≤ seen.length + l.length := by
  induction l with
  | nil => intro _; simp [seenG]
  | cons c r ih =>
    intro seen
    simp only [seenG]
    have h1 := ih (if place c seen < seen.length then seen else seen ++ [c])
    have h2 : (if place c seen < seen.length then seen else seen ++ [c]).length ≤ seen.length + 1 := by split <;> simp
    simp only [List.length_cons]
    omega
/-- How many classes there are. -/
def top : List Nat → Nat
  | [] => 0
  | k :: r => max (k + 1) (top r)
def together (l : List Int) : Nat := top (canon l)
/-- Are they in the one form? -/
def formG : Nat → List Int → Bool
  | _, [] => true
  | n, c :: r => decide (0 ≤ c ∧ c ≤ n) && formG (if c = (n : Int) then n + 1 else n) r
end Go.Proofs.YtpmanmoljlhogaaGreatDoor.Sy
/- 'append(nil, x...)' of any list, nil too: a row of one's own. (A law of my own, over the library's own laws on append.) -/
namespace Go.Proofs.YtpmanmoljlhogaaGreatDoor
open Go.RowKit
theorem run_copy_at {P : Program} (w : World) (base : Nat) (t ty e : TypeId) (i : TypeInfo) (z : Value) (size bytes : Nat) (ht : P.underlying t = some (.slice e)) (hi : P.info? e = some i) (hz : i.zero = some z)
    (hsize : i.size = size) (hby : i.bytes = bytes) (hzs : z.cells.size = size) (hsz : 0 < size) (ao : Option Addr) (m c : Nat) (news : List Value) (hao : ao = none → m = 0) (hl : news.length = m * size)
    (hnews : ∀ ad, ao = some ad → ∀ j u, news[j]? = some u → w.cell? (ad.add j) = some u) (h1 : ∀ u ∈ news, u.oneCell' = true) (h63 : m ≤ maxLen) (hbytes : m * bytes ≤ 140737488355328) (hbase : base ≤ w.heap.size) :
    ∃ v' w', (Builtin.append_ #[t, t] ty #[.slice none 0 0, .slice ao m c]).run P w = .ok v' w' ∧ w'.ownsRow base e size v' m news ∧ w.grownBy w' (Value.slice none 0 0).ownBlock ∧ (v'.ownBlock = none ∨ v'.ownBlock = some w.heap.size) := by
  cases ao with
  | none =>
    obtain rfl := hao rfl
    obtain rfl : news = [] := List.eq_nil_of_length_eq_zero (by simpa using hl)
    refine ⟨.slice none 0 0, w, ?_, World.ownsRow_nil w base e size, ⟨rfl, rfl, rfl, Nat.le_refl _, fun _ _ _ => rfl⟩, Or.inl rfl⟩
    simp [Builtin.append_, run_underlying ht, sizeOf, typeInfo, hi, Builtin.lenOf, Builtin.firstCells]
  | some ad =>
    obtain ⟨v', w', hr, h2, h3, h4, h5⟩ := run_append_own_at (P := P) w base t ty e i z size bytes ht hi hz hsize hby hzs hsz (.slice none 0 0) 0 [] (World.ownsRow_nil _ _ _ _) ad m c news hl (hnews ad rfl) h1 (by simpa using h63) (by simpa using hbytes) hbase
    refine ⟨v', w', hr, by simpa using h2, h3, h5⟩
theorem wpList_copy_at {P : Program} (w : World) {ops : Array Oper} {rest : List Oper} {o : Oper} {a : Act} {Q : Exit → Act → World → Prop} (hgd : o.guard = none) (s x : Operand) (t : TypeId)
    (ho : o.op = .call { callee := .builtin .append, args := #[s, x], argTypes := #[t, t] })
    (base : Nat) (e : TypeId) (i : TypeInfo) (z : Value) (size bytes : Nat) (ht : P.underlying t = some (.slice e)) (hi : P.info? e = some i) (hz : i.zero = some z)
    (hsize : i.size = size) (hby : i.bytes = bytes) (hzs : z.cells.size = size) (hsz : 0 < size) (hs : a.eval s = .slice none 0 0)
    (ao : Option Addr) (m c : Nat) (news : List Value) (hx : a.eval x = .slice ao m c) (hao : ao = none → m = 0) (hl : news.length = m * size) (hnews : ∀ ad, ao = some ad → ∀ j u, news[j]? = some u → w.cell? (ad.add j) = some u) (h1 : ∀ u ∈ news, u.oneCell' = true)
    (h63 : m ≤ maxLen) (hbytes : m * bytes ≤ 140737488355328) (hbase : base ≤ w.heap.size)
    (h : ∀ v' w', w'.ownsRow base e size v' m news → w.grownBy w' (Value.slice none 0 0).ownBlock → (v'.ownBlock = none ∨ v'.ownBlock = some w.heap.size) → wpList P ops Q rest (a.put o.dst v') w') :
    wpList P ops Q (o :: rest) a w := by
  refine wpList_plain hgd fun K hK => ?_
  obtain ⟨v', w', hr, h2, h3, h4⟩ := run_copy_at (P := P) w base t o.type e i z size bytes ht hi hz hsize hby hzs hsz ao m c news hao hl hnews h1 h63 hbytes hbase
  unfold Oper.wp execOp
  simp only [ho, resolve, invoke, builtin, Sem.run_bind, Sem.run_pure, Result.andThen_ok, List.map_toArray, List.map_cons, List.map_nil, hs, hx, hr]
  exact hK _ _ (h v' w' h2 h3 h4)
end Go.Proofs.YtpmanmoljlhogaaGreatDoor
