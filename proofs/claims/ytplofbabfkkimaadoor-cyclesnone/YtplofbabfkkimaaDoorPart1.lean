/- Texts of this claim, joined: RoPure, TsPure, TsMem, TsNum, TsClose0, TsPath, TsAhead0, TsInv. -/
import GoSem.Claim
import Derived.Test.YtplofbabfkkimaaDoorPart0
import Derived.BigRegion
/- Plain facts on keys that are numbered in the order in which they come, and on rounds. Nothing of the program is in it. -/
namespace Go.Proofs.YtplofbabfkkimaaDoor.Ro
section
variable {K : Type} [DecidableEq K]
/-- The place of a key in a list; the list's length, if it is not there. -/
def place (c : K) : List K → Nat
  | [] => 0
  | a :: r => if a = c then 0 else place c r + 1
/-- A key goes behind those that were seen, unless it is one of them. -/
def more (c : K) (l : List K) : List K := if c ∈ l then l else l ++ [c]
/-- The keys, each once, in the order in which they come. -/
def dd (l : List K) : List K := l.foldl (fun s c => more c s) []
/-- Of each key its number. -/
def num (l : List K) : List Nat := l.map fun z => place z (dd l)
theorem place_le (c : K) (l : List K) : place c l ≤ l.length := by
  induction l with
  | nil => simp [place]
  | cons a r ih => unfold place; split <;> simp <;> omega
theorem place_lt {c : K} {l : List K} : place c l < l.length ↔ c ∈ l := by
  induction l with
  | nil => simp [place]
  | cons a r ih =>
    unfold place
    by_cases h : a = c
    · simp [h]
    · rw [if_neg h, List.length_cons, Nat.add_lt_add_iff_right, ih, List.mem_cons]
      exact ⟨fun h1 => .inr h1, fun h1 => h1.elim (fun e => absurd e.symm h) id⟩
theorem place_no {c : K} {l : List K} (h : c ∉ l) : place c l = l.length := by
  have h1 := place_le c l
  have h2 : ¬ place c l < l.length := fun h2 => h (place_lt.1 h2)
  omega
theorem place_at {c : K} {l : List K} (h : c ∈ l) : l[place c l]? = some c := by
  induction l with
  | nil => simp at h
  | cons a r ih =>
    unfold place
    by_cases h1 : a = c
    · simp [h1]
    · rw [if_neg h1, List.getElem?_cons_succ]
      exact ih ((List.mem_cons.1 h).elim (fun e => absurd e.symm h1) id)
theorem place_inj {a b : K} {l : List K} (ha : a ∈ l) (hb : b ∈ l) (h : place a l = place b l) : a = b := by
  have h1 := place_at ha
  rw [h, place_at hb] at h1
  exact (Option.some.inj h1).symm
theorem place_left {c : K} {a : List K} (b : List K) (h : c ∈ a) : place c (a ++ b) = place c a := by
  induction a with
  | nil => simp at h
  | cons x r ih =>
    simp only [List.cons_append, place]
    by_cases h1 : x = c
    · simp [h1]
    · rw [if_neg h1, if_neg h1, ih ((List.mem_cons.1 h).elim (fun e => absurd e.symm h1) id)]
theorem place_more (c : K) (l : List K) : place c (more c l) = place c l := by
  unfold more
  split
  · rfl
  · rename_i h
    rw [place_no h]
    induction l with
    | nil => simp [place]
    | cons x r ih =>
      have hx : x ≠ c := fun e => h (by rw [e]; exact List.mem_cons_self)
      have hr : c ∉ r := fun e => h (List.mem_cons_of_mem _ e)
      simp only [List.cons_append, place]
      rw [if_neg hx, ih hr]
      simp
theorem dd_snoc (l : List K) (c : K) : dd (l ++ [c]) = more c (dd l) := by simp [dd]
theorem mem_more {c x : K} {l : List K} : x ∈ more c l ↔ x ∈ l ∨ x = c := by
  unfold more
  split
  · rename_i h
    exact ⟨.inl, fun h1 => h1.elim id fun e => by rw [e]; exact h⟩
  · simp
/-- Induction over lists from behind. -/
theorem snoc_ind {α : Type} {P : List α → Prop} (h0 : P []) (hs : ∀ l x, P l → P (l ++ [x])) (l : List α) : P l := by
  have h : ∀ n (l : List α), l.length = n → P l := fun n => by
    induction n with
    | zero => intro l hl; rw [List.length_eq_zero_iff.1 hl]; exact h0
    | succ n ih =>
      intro l hl
      rcases List.eq_nil_or_concat l with rfl | ⟨m, x, rfl⟩
      · simp at hl
      · rw [List.concat_eq_append]
        exact hs m x (ih m (by simp at hl; omega))
  exact h _ l rfl
theorem mem_dd {x : K} (l : List K) : x ∈ dd l ↔ x ∈ l := by
  refine snoc_ind (P := fun l => x ∈ dd l ↔ x ∈ l) (by simp [dd]) (fun l c ih => ?_) l
  rw [dd_snoc, mem_more, ih]
  simp
theorem num_len (l : List K) : (num l).length = l.length := by simp [num]
theorem num_snoc (l : List K) (c : K) : num (l ++ [c]) = num l ++ [place c (dd l)] := by
  unfold num
  rw [List.map_append, dd_snoc]
  congr 1
  · refine List.map_congr_left fun z hz => ?_
    have h1 : z ∈ dd l := (mem_dd l).2 hz
    unfold more
    split
    · rfl
    · exact place_left _ h1
  · simp [place_more]
theorem num_at {l : List K} {i : Nat} {x : K} (h : l[i]? = some x) : (num l)[i]? = some (place x (dd l)) := by
  unfold num
  rw [List.getElem?_map, h]
  rfl
/-- Numbers are the same just where the keys are. -/
theorem num_eq {l : List K} {i j : Nat} {x y : K} (hi : l[i]? = some x) (hj : l[j]? = some y) {u v : Nat} (hu : (num l)[i]? = some u) (hv : (num l)[j]? = some v) : u = v ↔ x = y := by
  rw [num_at hi] at hu
  rw [num_at hj] at hv
  simp only [Option.some.injEq] at hu hv
  subst hu; subst hv
  exact ⟨fun e => place_inj ((mem_dd l).2 (List.mem_of_getElem? hi)) ((mem_dd l).2 (List.mem_of_getElem? hj)) e, fun e => by rw [e]⟩
theorem dd_len_snoc (l : List K) (c : K) : (dd (l ++ [c])).length = (dd l).length + if c ∈ l then 0 else 1 := by
  rw [dd_snoc]
  unfold more
  by_cases h : c ∈ l
  · rw [if_pos ((mem_dd l).2 h), if_pos h]
    rfl
  · rw [if_neg (fun h1 => h ((mem_dd l).1 h1)), if_neg h]
    simp
theorem dd_le (l : List K) : (dd l).length ≤ l.length := by
  refine snoc_ind (P := fun l => (dd l).length ≤ l.length) (by simp [dd]) (fun l c ih => ?_) l
  rw [dd_len_snoc]
  simp only [List.length_append, List.length_cons, List.length_nil]
  split <;> omega
theorem num_lt {l : List K} {u : Nat} (h : u ∈ num l) : u < (dd l).length := by
  obtain ⟨z, hz, rfl⟩ := List.mem_map.1 h
  exact place_lt.2 ((mem_dd l).2 hz)
end
/-- Keys of two kinds, the first ones finer: there are as many of the second ones at most; and if there are as many the numbers are the same. -/
theorem finer {A B : Type} [DecidableEq A] [DecidableEq B] (l : List (A × B)) (hf : ∀ p ∈ l, ∀ q ∈ l, p.1 = q.1 → p.2 = q.2) :
    (dd (l.map (·.2))).length ≤ (dd (l.map (·.1))).length ∧ ((dd (l.map (·.2))).length = (dd (l.map (·.1))).length → num (l.map (·.1)) = num (l.map (·.2))) := by
  revert hf
  refine snoc_ind (P := fun l : List (A × B) => (∀ p ∈ l, ∀ q ∈ l, p.1 = q.1 → p.2 = q.2) → (dd (l.map (·.2))).length ≤ (dd (l.map (·.1))).length ∧ ((dd (l.map (·.2))).length = (dd (l.map (·.1))).length → num (l.map (·.1)) = num (l.map (·.2)))) (fun _ => ⟨by simp [dd], fun _ => rfl⟩) (fun l x ih hf => ?_) l
  obtain ⟨ih1, ih2⟩ := ih fun p hp q hq => hf p (List.mem_append_left _ hp) q (List.mem_append_left _ hq)
  simp only [List.map_append, List.map_cons, List.map_nil]
  rw [dd_len_snoc, dd_len_snoc, num_snoc, num_snoc]
  by_cases hx : x.1 ∈ l.map (·.1)
  · obtain ⟨q, hq, hqe⟩ := List.mem_map.1 hx
    have h2 := hf q (List.mem_append_left _ hq) x (List.mem_append_right _ List.mem_cons_self) hqe
    have hy : x.2 ∈ l.map (·.2) := List.mem_map.2 ⟨q, hq, h2⟩
    rw [if_pos hx, if_pos hy]
    refine ⟨by omega, fun e => ?_⟩
    have h3 := ih2 (by omega)
    obtain ⟨i, hi⟩ := List.mem_iff_getElem?.1 hq
    have a1 := num_at (l := l.map (·.1)) (i := i) (x := q.1) (by rw [List.getElem?_map, hi]; rfl)
    have a2 := num_at (l := l.map (·.2)) (i := i) (x := q.2) (by rw [List.getElem?_map, hi]; rfl)
    rw [h3, a2] at a1
    rw [h3, ← hqe, ← h2, Option.some.inj a1]
  · rw [if_neg hx]
    by_cases hy : x.2 ∈ l.map (·.2)
    · rw [if_pos hy]
      exact ⟨by omega, fun e => by omega⟩
    · rw [if_neg hy]
      refine ⟨by omega, fun e => ?_⟩
      have e2 : (dd (l.map (·.2))).length = (dd (l.map (·.1))).length := by omega
      rw [ih2 e2, place_no (fun h => hx ((mem_dd _).1 h)), place_no (fun h => hy ((mem_dd _).1 h)), e2]
/-- Keys that say the same are numbered alike. -/
theorem num_congr {A B : Type} [DecidableEq A] [DecidableEq B] {a : List A} {b : List B} (hl : a.length = b.length) (h : ∀ (i j : Nat) (x y : A) (u v : B), a[i]? = some x → a[j]? = some y → b[i]? = some u → b[j]? = some v → (x = y ↔ u = v)) : num a = num b := by
  have hz1 : (a.zip b).map (·.1) = a := by rw [List.map_fst_zip (by omega)]
  have hz2 : (a.zip b).map (·.2) = b := by rw [List.map_snd_zip (by omega)]
  have hm : ∀ p ∈ a.zip b, ∃ i : Nat, a[i]? = some p.1 ∧ b[i]? = some p.2 := fun p hp => by
    obtain ⟨i, hi⟩ := List.mem_iff_getElem?.1 hp
    rw [List.getElem?_zip_eq_some] at hi
    exact ⟨i, hi⟩
  have f1 := finer (a.zip b) fun p hp q hq e => by
    obtain ⟨i, hi1, hi2⟩ := hm p hp
    obtain ⟨j, hj1, hj2⟩ := hm q hq
    exact (h i j _ _ _ _ hi1 hj1 hi2 hj2).1 e
  have hb : ∀ (l : List (A × B)), (l.map Prod.swap).map (·.1) = l.map (·.2) ∧ (l.map Prod.swap).map (·.2) = l.map (·.1) := fun l => by simp
  have f2 := finer ((a.zip b).map Prod.swap) fun p hp q hq e => by
    obtain ⟨p', hp', rfl⟩ := List.mem_map.1 hp
    obtain ⟨q', hq', rfl⟩ := List.mem_map.1 hq
    obtain ⟨i, hi1, hi2⟩ := hm p' hp'
    obtain ⟨j, hj1, hj2⟩ := hm q' hq'
    exact (h i j _ _ _ _ hi1 hj1 hi2 hj2).2 e
  rw [(hb _).1, (hb _).2] at f2
  rw [hz1, hz2] at f1 f2
  exact f1.2 (by omega)
theorem num_num {A : Type} [DecidableEq A] (l : List A) : num (num l) = num l := by
  refine num_congr (num_len l) fun i j x y u v hx hy hu hv => ?_
  exact num_eq hu hv hx hy
/-- Rising numbers, each once. -/
def Rise (l : List Int) : Prop := l.Pairwise (· < ·)
theorem rise_unique {a b : List Int} (ha : Rise a) (hb : Rise b) (h : ∀ x, x ∈ a ↔ x ∈ b) : a = b := by
  induction a generalizing b with
  | nil =>
    cases b with
    | nil => rfl
    | cons y s => exact absurd ((h y).2 List.mem_cons_self) (by simp)
  | cons x r ih =>
    cases b with
    | nil => exact absurd ((h x).1 List.mem_cons_self) (by simp)
    | cons y s =>
      obtain ⟨hx, hr⟩ := List.pairwise_cons.1 ha
      obtain ⟨hy, hs⟩ := List.pairwise_cons.1 hb
      have e : x = y := by
        rcases List.mem_cons.1 ((h x).1 List.mem_cons_self) with e | h1
        · exact e
        · rcases List.mem_cons.1 ((h y).2 List.mem_cons_self) with e | h2
          · exact e.symm
          · have := hx y h2; have := hy x h1; omega
      subst e
      congr 1
      refine ih hr hs fun z => ⟨fun hz => ?_, fun hz => ?_⟩
      · rcases List.mem_cons.1 ((h z).1 (List.mem_cons_of_mem _ hz)) with e | h1
        · have := hx z hz; omega
        · exact h1
      · rcases List.mem_cons.1 ((h z).2 (List.mem_cons_of_mem _ hz)) with e | h1
        · have := hy z hz; omega
        · exact h1
/-- A number goes to its place. -/
def ins (x : Int) : List Int → List Int
  | [] => [x]
  | a :: r => if x < a then x :: a :: r else if a = x then a :: r else a :: ins x r
theorem mem_ins {x y : Int} {l : List Int} : y ∈ ins x l ↔ y = x ∨ y ∈ l := by
  induction l with
  | nil => simp [ins]
  | cons a r ih =>
    unfold ins
    split
    · simp
    · split
      · rename_i h; subst h; simp
      · simp only [List.mem_cons, ih]
        constructor
        · rintro (h | h | h) <;> simp [h]
        · rintro (h | h | h) <;> simp [h]
theorem ins_rise {x : Int} {l : List Int} (h : Rise l) : Rise (ins x l) := by
  induction l with
  | nil => exact List.pairwise_singleton _ _
  | cons a r ih =>
    obtain ⟨ha, hr⟩ := List.pairwise_cons.1 h
    unfold ins
    split
    · rename_i h1
      exact List.pairwise_cons.2 ⟨fun y hy => by rcases List.mem_cons.1 hy with rfl | hy; exact h1; have := ha y hy; omega, h⟩
    · split
      · exact h
      · rename_i h1 h2
        exact List.pairwise_cons.2 ⟨fun y hy => by rcases mem_ins.1 hy with rfl | hy; omega; exact ha y hy, ih hr⟩
/-- The numbers of a list as rising ones, each once. -/
def sd : List Int → List Int
  | [] => []
  | a :: r => ins a (sd r)
theorem mem_sd {x : Int} {l : List Int} : x ∈ sd l ↔ x ∈ l := by
  induction l with
  | nil => simp [sd]
  | cons a r ih => simp [sd, mem_ins, ih]
theorem sd_rise (l : List Int) : Rise (sd l) := by
  induction l with
  | nil => exact List.Pairwise.nil
  | cons a r ih => exact ins_rise ih
theorem sd_of {l m : List Int} (h : Rise m) (hm : ∀ x, x ∈ m ↔ x ∈ l) : m = sd l := rise_unique h (sd_rise l) fun x => (hm x).trans mem_sd.symm
theorem sd_eq {l m : List Int} : sd l = sd m ↔ ∀ x, x ∈ l ↔ x ∈ m := ⟨fun h x => by rw [← mem_sd, h, mem_sd], fun h => sd_of (sd_rise l) fun x => mem_sd.trans (h x)⟩
/-- Steps: their labels, and where they lead. -/
abbrev St : Type := Int × Int
/-- The class of where a step leads. -/
def cl (c : List Nat) (t : Int) : Nat := (c[t.toNat]?).getD 0
/-- The ends of steps by a number that is greater than all classes. -/
def ends (M : Int) (c : List Nat) (l : List St) : List Int := l.map fun z => z.1 * M + cl c z.2
/-- With which labels steps lead into which classes. -/
def leads (c : List Nat) (l : List St) (b : Int) (k : Nat) : Prop := ∃ z ∈ l, z.1 = b ∧ cl c z.2 = k
theorem mul_inj {a b M : Int} {k m : Nat} (hk : (k : Int) < M) (hm : (m : Int) < M) (h : a * M + k = b * M + m) : a = b ∧ k = m := by
  have e : a = b := by
    rcases Int.lt_trichotomy a b with h1 | h1 | h1
    · have h2 : (a + 1) * M ≤ b * M := Int.mul_le_mul_of_nonneg_right (by omega) (by omega)
      rw [Int.add_mul] at h2; omega
    · exact h1
    · have h2 : (b + 1) * M ≤ a * M := Int.mul_le_mul_of_nonneg_right (by omega) (by omega)
      rw [Int.add_mul] at h2; omega
  subst e
  exact ⟨rfl, by omega⟩
/-- Ends are the same just if steps lead alike. -/
theorem ends_eq {M : Int} {c : List Nat} {l m : List St} (h1 : ∀ z ∈ l, (cl c z.2 : Int) < M) (h2 : ∀ z ∈ m, (cl c z.2 : Int) < M) : sd (ends M c l) = sd (ends M c m) ↔ ∀ b k, leads c l b k ↔ leads c m b k := by
  have half : ∀ {l m : List St}, (∀ z ∈ l, (cl c z.2 : Int) < M) → (∀ z ∈ m, (cl c z.2 : Int) < M) → (∀ x, x ∈ ends M c l → x ∈ ends M c m) → ∀ b k, leads c l b k → leads c m b k := fun {l m} h1 h2 h b k hL => by
    obtain ⟨z, hz, rfl, rfl⟩ := hL
    obtain ⟨y, hy, he⟩ := List.mem_map.1 (h _ (List.mem_map.2 ⟨z, hz, rfl⟩))
    obtain ⟨e1, e2⟩ := mul_inj (h2 y hy) (h1 z hz) he
    exact ⟨y, hy, e1, e2⟩
  have back : ∀ {l m : List St}, (∀ b k, leads c l b k → leads c m b k) → ∀ x, x ∈ ends M c l → x ∈ ends M c m := fun {l m} h x hx => by
    obtain ⟨z, hz, rfl⟩ := List.mem_map.1 hx
    obtain ⟨y, hy, e1, e2⟩ := h _ _ ⟨z, hz, rfl, rfl⟩
    exact List.mem_map.2 ⟨y, hy, by rw [e1, e2]⟩
  rw [sd_eq]
  constructor
  · exact fun h b k => ⟨half h1 h2 (fun x => (h x).1) b k, half h2 h1 (fun x => (h x).2) b k⟩
  · exact fun h x => ⟨back (fun b k => (h b k).1) x, back (fun b k => (h b k).2) x⟩
/-- The key of a state: its class, and its steps' ends. -/
def key (out : Nat → List St) (c : List Nat) (i : Nat) : Int × List Int := ((c[i]?).getD 0, sd (ends 1001 c (out i)))
/-- The classes of the round behind one. -/
def nx (n : Nat) (out : Nat → List St) (c : List Nat) : List Nat := num ((List.range n).map (key out c))
/-- The classes of a round. -/
def rnd (n : Nat) (out : Nat → List St) : Nat → List Nat
  | 0 => List.replicate n 0
  | k + 1 => nx n out (rnd n out k)
theorem nx_len (n : Nat) (out : Nat → List St) (c : List Nat) : (nx n out c).length = n := by simp [nx, num_len]
theorem rnd_len (n : Nat) (out : Nat → List St) (k : Nat) : (rnd n out k).length = n := by
  cases k with
  | zero => simp [rnd]
  | succ k => exact nx_len n out _
theorem nx_lt {n : Nat} {out : Nat → List St} {c : List Nat} {u : Nat} (h : u ∈ nx n out c) : u < n := by
  have h1 := num_lt h
  have h2 := dd_le ((List.range n).map (key out c))
  simp at h2
  omega
theorem rnd_lt {n : Nat} {out : Nat → List St} {k u : Nat} (h : u ∈ rnd n out k) : u < n := by
  cases k with
  | zero => obtain ⟨h1, rfl⟩ := List.mem_replicate.1 h; omega
  | succ k => exact nx_lt h
theorem key_at {n i : Nat} (out : Nat → List St) (c : List Nat) (h : i < n) : ((List.range n).map (key out c))[i]? = some (key out c i) := by
  rw [List.getElem?_map, List.getElem?_range h]; rfl
/-- Behind a round two states are together, if they were, and if their steps lead alike. -/
theorem nx_eq {n : Nat} {out : Nat → List St} {c : List Nat} (hc : c.length = n) (hn : n ≤ 1000) (hlt : ∀ u ∈ c, u < n) {i j u v x y : Nat} (hu : (nx n out c)[i]? = some u) (hv : (nx n out c)[j]? = some v) (hx : c[i]? = some x) (hy : c[j]? = some y) : u = v ↔ x = y ∧ ∀ b k, leads c (out i) b k ↔ leads c (out j) b k := by
  have hi : i < n := by have := (List.getElem?_eq_some_iff.1 hx).1; omega
  have hj : j < n := by have := (List.getElem?_eq_some_iff.1 hy).1; omega
  have hM : ∀ t : Int, (cl c t : Int) < 1001 := fun t => by
    unfold cl
    cases h : c[t.toNat]? with
    | none => simp
    | some w => have := hlt w (List.mem_of_getElem? h); simp; omega
  have h1 := num_eq (key_at out c hi) (key_at out c hj) hu hv
  rw [h1]
  unfold key
  rw [hx, hy, Prod.mk.injEq, ends_eq (fun z _ => hM z.2) (fun z _ => hM z.2)]
  exact and_congr_left fun _ => (by simp only [Option.getD_some]; omega)
theorem rnd_num (n : Nat) (out : Nat → List St) (k : Nat) : num (rnd n out k) = rnd n out k := by
  cases k with
  | zero =>
    show num (List.replicate n 0) = List.replicate n 0
    refine snoc_ind (P := fun l : List Nat => (∀ x ∈ l, x = 0) → num l = l) (fun _ => rfl) (fun l x ih h => ?_) (List.replicate n 0) (fun x hx => (List.mem_replicate.1 hx).2)
    have hx : x = 0 := h x (List.mem_append_right _ List.mem_cons_self)
    subst hx
    have hl : ∀ y ∈ l, y = 0 := fun y hy => h y (List.mem_append_left _ hy)
    rw [num_snoc, ih hl]
    congr 2
    by_cases h0 : (0 : Nat) ∈ dd l
    · have hlen : (dd l).length ≤ 1 := by
        clear ih h
        refine snoc_ind (P := fun l : List Nat => (∀ x ∈ l, x = 0) → (dd l).length ≤ 1) (fun _ => by simp [dd]) (fun l x ih h => ?_) l hl
        have h1 := ih fun y hy => h y (List.mem_append_left _ hy)
        rw [dd_len_snoc]
        split
        · omega
        · rename_i hx
          have : l = [] := by
            cases l with
            | nil => rfl
            | cons y s => exact absurd (by rw [h x (List.mem_append_right _ List.mem_cons_self), ← h y List.mem_cons_self]; exact List.mem_cons_self) hx
          subst this
          simp [dd]
      have := place_lt.2 h0
      omega
    · rw [place_no h0]
      cases l with
      | nil => simp [dd]
      | cons y s => exact absurd ((mem_dd _).2 (by rw [← hl y List.mem_cons_self]; exact List.mem_cons_self)) h0
  | succ k => exact num_num _
/-- As many classes behind a round as ahead: nothing has changed. -/
theorem nx_stop {n : Nat} {out : Nat → List St} {c : List Nat} (hc : c.length = n) (hnum : num c = c) : (dd c).length ≤ (dd (nx n out c)).length ∧ ((dd c).length = (dd (nx n out c)).length → nx n out c = c) := by
  have hf := finer ((nx n out c).zip c) fun p hp q hq e => by
    obtain ⟨i, hi⟩ := List.mem_iff_getElem?.1 hp
    obtain ⟨j, hj⟩ := List.mem_iff_getElem?.1 hq
    rw [List.getElem?_zip_eq_some] at hi hj
    have hil : i < n := by have := (List.getElem?_eq_some_iff.1 hi.2).1; omega
    have hjl : j < n := by have := (List.getElem?_eq_some_iff.1 hj.2).1; omega
    have h1 := (num_eq (key_at out c hil) (key_at out c hjl) hi.1 hj.1).1 e
    have h2 := (Prod.mk.injEq .. ▸ h1 : _ ∧ _).1
    rw [hi.2, hj.2] at h2
    simp only [Option.getD_some] at h2
    omega
  rw [List.map_fst_zip (by rw [nx_len, hc]; exact Nat.le_refl _), List.map_snd_zip (by rw [nx_len, hc]; exact Nat.le_refl _)] at hf
  refine ⟨hf.1, fun e => ?_⟩
  have h1 := hf.2 e
  rw [hnum] at h1
  have h2 : num (nx n out c) = nx n out c := num_num _
  rw [← h2, h1]
theorem rnd_stop {n : Nat} {out : Nat → List St} {k : Nat} (h : (dd (rnd n out k)).length = (dd (rnd n out (k + 1))).length) : rnd n out (k + 1) = rnd n out k := (nx_stop (rnd_len n out k) (rnd_num n out k)).2 h
/-- As long as something changes there are ever more classes. -/
theorem rnd_grow {n : Nat} {out : Nat → List St} {k : Nat} (hn : 0 < n) (h : ∀ j, j < k → rnd n out (j + 1) ≠ rnd n out j) : k + 1 ≤ (dd (rnd n out k)).length := by
  induction k with
  | zero =>
    have : (0 : Nat) ∈ dd (rnd n out 0) := (mem_dd _).2 (List.mem_replicate.2 ⟨by omega, rfl⟩)
    exact List.length_pos_of_mem this
  | succ k ih =>
    have h1 := ih fun j hj => h j (by omega)
    have h2 := (nx_stop (out := out) (rnd_len n out k) (rnd_num n out k)).1
    have h3 : (dd (rnd n out k)).length ≠ (dd (rnd n out (k + 1))).length := fun e => h k (by omega) (rnd_stop e)
    show k + 1 + 1 ≤ (dd (rnd n out (k + 1))).length
    have h4 : (dd (rnd n out k)).length ≤ (dd (rnd n out (k + 1))).length := h2
    omega
/-- R is the last round: behind it nothing changes, and ahead of it something did each time. -/
def Last (n : Nat) (out : Nat → List St) (R : Nat) : Prop := rnd n out (R + 1) = rnd n out R ∧ ∀ j, j < R → rnd n out (j + 1) ≠ rnd n out j
theorem changes_lt {n : Nat} {out : Nat → List St} {k : Nat} (h : ∀ j, j < k → rnd n out (j + 1) ≠ rnd n out j) : k < max n 1 := by
  by_cases hn : 0 < n
  · have h1 := rnd_grow hn h
    have h2 := dd_le (rnd n out k)
    rw [rnd_len] at h2
    omega
  · obtain rfl : n = 0 := by omega
    rcases Nat.eq_zero_or_pos k with rfl | hk
    · simp
    · exact absurd (by rw [List.length_eq_zero_iff.1 (rnd_len 0 out (0 + 1)), List.length_eq_zero_iff.1 (rnd_len 0 out 0)]) (h 0 hk)
theorem Last.lt {n : Nat} {out : Nat → List St} {R : Nat} (h : Last n out R) : R < max n 1 := changes_lt h.2
theorem exists_last (n : Nat) (out : Nat → List St) : ∃ R, Last n out R := by
  have h : ∀ f k, k + f = max n 1 → (∀ j, j < k → rnd n out (j + 1) ≠ rnd n out j) → ∃ R, Last n out R := fun f => by
    induction f with
    | zero => intro k hk hc; have := changes_lt hc; omega
    | succ f ih =>
      intro k hk hc
      by_cases e : rnd n out (k + 1) = rnd n out k
      · exact ⟨k, e, hc⟩
      · exact ih (k + 1) (by omega) fun j hj => by
          rcases Nat.lt_or_ge j k with h1 | h1
          · exact hc j h1
          · obtain rfl : j = k := by omega
            exact e
  exact h (max n 1) 0 (by omega) fun j hj => by omega
theorem Last.ge {n : Nat} {out : Nat → List St} {R k : Nat} (h : Last n out R) (hc : ∀ j, j < k → rnd n out (j + 1) ≠ rnd n out j) : k ≤ R := by
  rcases Nat.lt_or_ge R k with h1 | h1
  · exact absurd h.1 (hc R h1)
  · exact h1
theorem Last.unique {n : Nat} {out : Nat → List St} {R S : Nat} (h : Last n out R) (k : Last n out S) : R = S := by
  rcases Nat.lt_trichotomy R S with h1 | h1 | h1
  · exact absurd h.1 (k.2 R h1)
  · exact h1
  · exact absurd k.1 (h.2 S h1)
/-- The rounds, from the first one on. -/
def rounds (n : Nat) (out : Nat → List St) (k : Nat) : List (List Nat) := (List.range k).map (rnd n out)
theorem rounds_succ (n : Nat) (out : Nat → List St) (k : Nat) : rounds n out (k + 1) = rounds n out k ++ [rnd n out k] := by simp [rounds, List.range_succ]
theorem rounds_at {n k i : Nat} (out : Nat → List St) (h : i < k) : (rounds n out k)[i]? = some (rnd n out i) := by
  unfold rounds
  rw [List.getElem?_map, List.getElem?_range h]; rfl
/-- The rank of two states in the rounds from k on, of which there are f. -/
def rankG (n : Nat) (out : Nat → List St) (p q : Nat) (k : Nat) : Nat → Int
  | 0 => -1
  | f + 1 => if (rnd n out k)[p]? = (rnd n out k)[q]? then rankG n out p q (k + 1) f else k
def rank (n : Nat) (out : Nat → List St) (R p q : Nat) : Int := rankG n out p q 0 (R + 1)
/-- Out of rows that are the same rounds are the same. -/
theorem nx_out {n : Nat} {out out' : Nat → List St} (c : List Nat) (h : ∀ i, i < n → ∀ z, z ∈ out i ↔ z ∈ out' i) : nx n out c = nx n out' c := by
  unfold nx
  congr 1
  refine List.map_congr_left fun i hi => ?_
  unfold key
  congr 1
  rw [sd_eq]
  intro x
  unfold ends
  rw [List.mem_map, List.mem_map]
  exact ⟨fun ⟨z, hz, e⟩ => ⟨z, (h i (List.mem_range.1 hi) z).1 hz, e⟩, fun ⟨z, hz, e⟩ => ⟨z, (h i (List.mem_range.1 hi) z).2 hz, e⟩⟩
theorem rnd_out {n : Nat} {out out' : Nat → List St} (h : ∀ i, i < n → ∀ z, z ∈ out i ↔ z ∈ out' i) (k : Nat) : rnd n out k = rnd n out' k := by
  induction k with
  | zero => rfl
  | succ k ih =>
    show nx n out (rnd n out k) = nx n out' (rnd n out' k)
    rw [ih]
    exact nx_out _ h
end Go.Proofs.YtplofbabfkkimaaDoor.Ro
/- Cycles of silent steps by one walk: the walk as a plain state, and what always stands. Nothing of the program is in it. -/
namespace Go.Proofs.YtplofbabfkkimaaDoor.Ts
/-- Steps, none or more. -/
inductive Rt (out : Nat → List Nat) : Nat → Nat → Prop
  | refl (v : Nat) : Rt out v v
  | step {u v w : Nat} : Rt out u v → w ∈ out v → Rt out u w
theorem Rt.trans {out : Nat → List Nat} {a b c : Nat} (h : Rt out a b) (k : Rt out b c) : Rt out a c := by
  induction k with
  | refl => exact h
  | step _ hw ih => exact ih.step hw
theorem Rt.one {out : Nat → List Nat} {a b : Nat} (h : b ∈ out a) : Rt out a b := (Rt.refl a).step h
/-- From a set that steps do not leave, no steps leave it. -/
theorem Rt.stay {out : Nat → List Nat} {P : Nat → Prop} (hP : ∀ v, P v → ∀ t ∈ out v, P t) {a b : Nat} (h : Rt out a b) (ha : P a) : P b := by
  induction h with
  | refl => exact ha
  | step _ hw ih => exact hP _ ih _ hw
/-- The walk: its path (the last state first, each with the number of its steps that are gone), how many states it has come to, of each state its number, its low, its class (-1: none). -/
structure St where
  path : List (Nat × Nat)
  cnt : Int
  num : Nat → Int
  low : Nat → Int
  cls : Nat → Int
/-- Open: it has a number, and no class. -/
def St.op (s : St) (v : Nat) : Prop := 0 ≤ s.num v ∧ s.cls v = -1
def St.on (s : St) (v : Nat) : Prop := ∃ i, (v, i) ∈ s.path
/-- How many of a state's steps are gone. -/
def St.gone (s : St) (out : Nat → List Nat) (v j : Nat) : Prop := j < (out v).length ∧ ∀ i, (v, i) ∈ s.path → j < i
/-- What always stands. (pd: the state from which the walk has just come back, if its step was not gone again yet.) -/
structure Inv (n : Nat) (out : Nat → List Nat) (s : St) (pd : Nat → Prop) : Prop where
  rng : ∀ v, 0 ≤ s.num v → v < n
  cnt : ∀ v, s.num v < s.cnt
  cnt0 : 0 ≤ s.cnt
  neg : ∀ v, s.num v = -1 ∨ 0 ≤ s.num v
  inj : ∀ u v, 0 ≤ s.num u → s.num u = s.num v → u = v
  clsn : ∀ v, s.cls v ≠ -1 → 0 ≤ s.num v
  pth : s.path.Pairwise fun x y => s.num y.1 < s.num x.1
  pop : ∀ x ∈ s.path, s.op x.1 ∧ x.2 ≤ (out x.1).length
  lown : ∀ v, s.op v → s.low v ≤ s.num v
  lowr : ∀ v, s.op v → ∃ u, s.op u ∧ s.num u = s.low v ∧ Rt out v u
  edge : ∀ v, s.op v → ∀ j t, s.gone out v j → (out v)[j]? = some t → 0 ≤ s.num t ∧ (s.cls t = -1 → s.low v ≤ s.num t)
  shut : ∀ v, s.cls v ≠ -1 → ∀ t ∈ out v, s.cls t ≠ -1
  cyc : ∀ u v, s.cls u ≠ -1 → s.cls v ≠ -1 → (s.cls u = s.cls v ↔ Rt out u v ∧ Rt out v u)
  root : ∀ v, s.cls v ≠ -1 → ∃ u : Nat, s.cls v = (u : Int) ∧ s.cls u ≠ -1 ∧ Rt out u v ∧ Rt out v u
  down : ∀ x ∈ s.path, ∀ v, s.op v → s.num x.1 ≤ s.num v → Rt out x.1 v
  off : ∀ v, s.op v → ¬ s.on v → s.low v < s.num v
  lows : ∀ v, s.op v → ¬ s.on v → ∃ x ∈ s.path, s.num x.1 < s.num v ∧ (∀ y ∈ s.path, s.num y.1 < s.num v → s.num y.1 ≤ s.num x.1) ∧ (s.low x.1 ≤ s.low v ∨ (s.path.head? = some x ∧ ∃ c, pd c ∧ s.op c ∧ (out x.1)[x.2]? = some c ∧ s.low c ≤ s.low v))
  link : ∀ (x y : Nat × Nat) (r : List (Nat × Nat)) (l : List (Nat × Nat)), s.path = l ++ x :: y :: r → (out y.1)[y.2]? = some x.1
/-- The walk comes to a state. -/
def St.enter (s : St) (v : Nat) : St := ⟨(v, 0) :: s.path, s.cnt + 1, fun u => if u = v then s.cnt else s.num u, fun u => if u = v then s.cnt else s.low u, s.cls⟩
/-- A step is gone that leads to a state that has a number. -/
def St.pass (s : St) (v i t : Nat) (r : List (Nat × Nat)) : St := ⟨(v, i + 1) :: r, s.cnt, s.num, fun u => if u = v ∧ s.cls t = -1 then min (s.low v) (s.low t) else s.low u, s.cls⟩
/-- The walk leaves a state; its cycle is whole, or not. -/
def St.leave (s : St) (v : Nat) (r : List (Nat × Nat)) : St := ⟨r, s.cnt, s.num, s.low, fun u => if s.num v ≤ s.low v ∧ s.num v ≤ s.num u ∧ s.cls u = -1 then (v : Int) else s.cls u⟩
theorem cls_or {s : St} {v : Nat} (hv : 0 ≤ s.num v) : s.op v ∨ s.cls v ≠ -1 := by
  by_cases hc : s.cls v = -1
  · exact .inl ⟨hv, hc⟩
  · exact .inr hc
/-- An open state's number is its own. -/
theorem Inv.head {n : Nat} {out : Nat → List Nat} {s : St} {pd : Nat → Prop} (h : Inv n out s pd) {v i : Nat} {r : List (Nat × Nat)} (hp : s.path = (v, i) :: r) : s.op v ∧ ∀ x ∈ r, s.num x.1 < s.num v := by
  refine ⟨(h.pop (v, i) (by rw [hp]; exact List.mem_cons_self)).1, fun x hx => ?_⟩
  have h1 := h.pth
  rw [hp] at h1
  exact (List.pairwise_cons.1 h1).1 x hx
theorem Inv.on_head {n : Nat} {out : Nat → List Nat} {s : St} {pd : Nat → Prop} (h : Inv n out s pd) {v i : Nat} {r : List (Nat × Nat)} (hp : s.path = (v, i) :: r) {j : Nat} (hj : (v, j) ∈ s.path) : j = i := by
  rw [hp] at hj
  rcases List.mem_cons.1 hj with e | e
  · exact (Prod.mk.inj e).2
  · have := (h.head hp).2 _ e
    simp at this
theorem Inv.start (n : Nat) (out : Nat → List Nat) {pd : Nat → Prop} : Inv n out ⟨[], 0, fun _ => -1, fun _ => 0, fun _ => -1⟩ pd where
  rng := fun v h => by simp at h
  cnt := fun v => by simp
  cnt0 := Int.le_refl _
  neg := fun v => .inl rfl
  inj := fun u v h => by simp at h
  clsn := fun v h => absurd rfl h
  pth := .nil
  pop := fun x h => by simp at h
  lown := fun v h => by simp [St.op] at h
  lowr := fun v h => by simp [St.op] at h
  edge := fun v h => by simp [St.op] at h
  shut := fun v h => absurd rfl h
  cyc := fun u v h => absurd rfl h
  root := fun v h => absurd rfl h
  down := fun x h => by simp at h
  off := fun v h => by simp [St.op] at h
  lows := fun v h => by simp [St.op] at h
  link := fun x y r l h => by simp at h
end Go.Proofs.YtplofbabfkkimaaDoor.Ts
/- The walk in memory: its box, its path, its lists of numbers. -/
namespace Go.Proofs.YtplofbabfkkimaaDoor.Ts
open Go.RowKit Go.Maps
/-- What the walk's fields hold. (ps: the path; of each entry the state, the stage, the step.) -/
structure Wk where
  vs : Value
  vp : Value
  vo : Value
  cnt : Int
  vn : Value
  vl : Value
  vc : Value
  ps : List (Nat × Nat × Nat)
  os : List Int
  ns : List Int
  ls : List Int
  cs : List Int
def Wk.L (x : Wk) : List (Value × List Int) := [(x.vo, x.os), (x.vn, x.ns), (x.vl, x.ls), (x.vc, x.cs)]
def pC (ps : List (Nat × Nat × Nat)) : List Value := ps.flatMap fun p => [.int .i64 (p.1 : Int), .int .i64 (p.2.1 : Int), .int .i64 (p.2.2 : Int)]
theorem pC_length (ps : List (Nat × Nat × Nat)) : (pC ps).length = ps.length * 3 := by
  unfold pC
  induction ps with
  | nil => rfl
  | cons p r ih => rw [List.flatMap_cons, List.length_append, ih, List.length_cons]; simp; omega
theorem pC_snoc (ps : List (Nat × Nat × Nat)) (p : Nat × Nat × Nat) : pC (ps ++ [p]) = pC ps ++ [.int .i64 (p.1 : Int), .int .i64 (p.2.1 : Int), .int .i64 (p.2.2 : Int)] := by simp [pC]
theorem pC_at (ps : List (Nat × Nat × Nat)) (i : Nat) (p : Nat × Nat × Nat) (h : ps[i]? = some p) : (pC ps)[i * 3]? = some (.int .i64 (p.1 : Int)) ∧ (pC ps)[i * 3 + 1]? = some (.int .i64 (p.2.1 : Int)) ∧ (pC ps)[i * 3 + 2]? = some (.int .i64 (p.2.2 : Int)) := by
  induction ps generalizing i with
  | nil => simp at h
  | cons q r ih =>
    have e : pC (q :: r) = [.int .i64 (q.1 : Int), .int .i64 (q.2.1 : Int), .int .i64 (q.2.2 : Int)] ++ pC r := by simp [pC]
    rw [e]
    cases i with
    | zero =>
      simp only [List.getElem?_cons_zero, Option.some.injEq] at h
      subst h
      exact ⟨rfl, rfl, rfl⟩
    | succ i =>
      rw [List.getElem?_cons_succ] at h
      obtain ⟨h1, h2, h3⟩ := ih i h
      refine ⟨?_, ?_, ?_⟩
      · rw [List.getElem?_append_right (by simp; omega), ← h1]; congr 1; simp; omega
      · rw [List.getElem?_append_right (by simp; omega), ← h2]; congr 1; simp; omega
      · rw [List.getElem?_append_right (by simp; omega), ← h3]; congr 1; simp; omega
/-- The blocks of the walk, its own box aside. -/
def Wk.foot (x : Wk) (b : Nat) : Prop := x.vp.ownBlock = some b ∨ Foot x.L b
structure WkM (w : World) (B r : Nat) (x : Wk) : Prop where
  box : w.heap[r]? = some (.cells #[x.vs, x.vp, x.vo, .int .i64 x.cnt, x.vn, x.vl, x.vc] 91 (0, 0))
  pa : w.ownsRow B 111 3 x.vp x.ps.length (pC x.ps)
  q : QueAll w B x.L
  up : B ≤ r
theorem WkM.r_foot {w : World} {B r : Nat} {x : Wk} (h : WkM w B r x) : ¬ x.foot r := fun hf => by
  rcases hf with hf | hf
  · exact own_bk h.pa h.box (by decide) hf
  · obtain ⟨c2, hc⟩ := h.q.typed hf
    have hb := h.box
    rw [hb] at hc
    injection hc with e
    injection e with _ e
    exact absurd e (by decide)
theorem WkM.path_list {w : World} {B r : Nat} {x : Wk} (h : WkM w B r x) {b : Nat} (h1 : x.vp.ownBlock = some b) : ¬ Foot x.L b := fun hf => by
  obtain ⟨c2, hc⟩ := h.q.typed hf
  exact own_bk h.pa hc (by decide) h1
theorem WkM.foot_lt {w : World} {B r : Nat} {x : Wk} (h : WkM w B r x) {b : Nat} (hb : x.foot b) : B ≤ b ∧ b < w.heap.size := hb.elim (fun e => h.pa.lt b e) fun e => h.q.lt e
theorem WkM.kept {w w' : World} {B r : Nat} {x : Wk} {F : Nat → Prop} (h : WkM w B r x) (hk : Kept F w w') (hr : ¬ F r) (hF : ∀ b, x.foot b → ¬ F b) : WkM w' B r x :=
  ⟨(hk.block r (t_lt h.box) hr).trans h.box, own_up h.pa hk fun b hb => hF b (.inl hb), h.q.kept hk fun b hb => hF b (.inr hb), h.up⟩
theorem WkM.below {w w' : World} {B r : Nat} {x : Wk} (h : WkM w B r x) (hb : Below w.heap.size w w') : WkM w' B r x := h.kept (F := fun _ => False) (Kept.of_below hb) (fun h => h) fun _ _ h => h
/-- How far the walk has come: its blocks are those of before, or new. -/
structure Grew (w w' : World) (r : Nat) (x x' : Wk) : Prop where
  kp : Kept (fun b => b = r ∨ x.foot b) w w'
  ft : ∀ b, x'.foot b → x.foot b ∨ w.heap.size ≤ b
theorem Grew.refl (w : World) (r : Nat) (x : Wk) : Grew w w r x x := ⟨Kept.refl _ _, fun _ h => .inl h⟩
theorem Grew.trans {w w1 w2 : World} {r : Nat} {x x1 x2 : Wk} (h : Grew w w1 r x x1) (k : Grew w1 w2 r x1 x2) : Grew w w2 r x x2 :=
  ⟨h.kp.trans2 k.kp fun b hb => by
    rcases hb with hb | hb
    · exact .inl (.inl hb)
    · exact (h.ft b hb).imp .inr id, fun b hb => by
    rcases k.ft b hb with h1 | h1
    · exact h.ft b h1
    · have := h.kp.size; exact .inr (by omega)⟩
theorem Grew.below {w w1 w2 : World} {r : Nat} {x x1 : Wk} (h : Grew w w1 r x x1) (hb : Below w1.heap.size w1 w2) : Grew w w2 r x x1 := ⟨h.kp.trans (Kept.of_below hb), h.ft⟩
/-- One of the lists stands anew, at its place or in new memory. -/
theorem WkM.parts {w w1 : World} {B r k : Nat} {x : Wk} {v v' : Value} {zs zs' : List Int} (h : WkM w B r x) (hL : x.L[k]? = some (v, zs)) (hk : Kept (fun b => v.ownBlock = some b) w w1) (hq : Que w1 B v' zs') (hat : v'.ownBlock = v.ownBlock ∨ ∀ b, v'.ownBlock = some b → w.heap.size ≤ b) :
    w1.heap[r]? = w.heap[r]? ∧ w1.ownsRow B 111 3 x.vp x.ps.length (pC x.ps) ∧ QueAll w1 B (x.L.set k (v', zs')) ∧ (∀ b, Foot (x.L.set k (v', zs')) b → b ≠ r) ∧ (∀ b, Foot (x.L.set k (v', zs')) b → Foot x.L b ∨ w.heap.size ≤ b) := by
  have hm : (v, zs) ∈ x.L := List.mem_of_getElem? hL
  have hfv : ∀ b, v.ownBlock = some b → Foot x.L b := fun b hb => ⟨_, hm, hb⟩
  have hnew : ∀ b, Foot (x.L.set k (v', zs')) b → Foot x.L b ∨ w.heap.size ≤ b := fun b hb => by
    rcases foot_set hb with h1 | h1
    · exact .inl h1
    · rcases hat with h2 | h2
      · exact .inl (hfv b (by rw [← h2]; exact h1))
      · exact .inr (h2 b h1)
  refine ⟨hk.block r (t_lt h.box) fun e => h.r_foot (.inr (hfv r e)), own_up h.pa hk fun b hb e => h.path_list hb (hfv b e), h.q.put hL hk hq hat, fun b hb e => ?_, hnew⟩
  rcases hnew b hb with h1 | h1
  · exact h.r_foot (.inr (by rw [← e]; exact h1))
  · have := t_lt h.box; omega
/-- A number of one of the lists is another now. -/
theorem WkM.set {w : World} {B r k g off n cap i : Nat} {x x' : Wk} {zs : List Int} (h : WkM w B r x) (hL : x.L[k]? = some (.slice (some ⟨g, off, none⟩) n cap, zs)) (hi : i < zs.length) (z : Int) (hx : x'.L = x.L.set k (.slice (some ⟨g, off, none⟩) n cap, zs.set i z)) (hb : #[x'.vs, x'.vp, x'.vo, .int .i64 x'.cnt, x'.vn, x'.vl, x'.vc] = #[x.vs, x.vp, x.vo, .int .i64 x.cnt, x.vn, x.vl, x.vc]) (hp : x'.vp = x.vp ∧ x'.ps = x.ps) :
    WkM (w.setCell ⟨g, off + i, none⟩ (.int .i64 z)) B r x' ∧ Grew w (w.setCell ⟨g, off + i, none⟩ (.int .i64 z)) r x x' := by
  have hk := Kept.setCell w g (off + i) (.int .i64 z)
  have hf : Foot x.L g := ⟨_, List.mem_of_getElem? hL, rfl⟩
  obtain ⟨h1, h2, h3, h4, h5⟩ := h.parts hL (hk.mono fun b _ e => by rw [e]; rfl) (que_set (h.q.q k _ hL) hi z) (.inl rfl)
  refine ⟨⟨?_, ?_, ?_, h.up⟩, ⟨hk.mono fun b _ e => .inr (.inr (by rw [e]; exact hf)), fun b hb2 => ?_⟩⟩
  · rw [h1, hb]; exact h.box
  · rw [hp.1, hp.2]; exact h2
  · rw [hx]; exact h3
  · rcases hb2 with hb2 | hb2
    · exact .inl (.inl (by rw [← hp.1]; exact hb2))
    · rw [hx] at hb2
      exact (h5 b hb2).imp .inr id
/-- The open list stands anew, and the box tells it. -/
theorem WkM.putOpen {w w1 : World} {B r : Nat} {x : Wk} {v' : Value} {zs' : List Int} (h : WkM w B r x) (hk : Kept (fun b => x.vo.ownBlock = some b) w w1) (hq : Que w1 B v' zs') (hat : v'.ownBlock = x.vo.ownBlock ∨ ∀ b, v'.ownBlock = some b → w.heap.size ≤ b) :
    WkM (w1.setCell ⟨r, 2, none⟩ v') B r { x with vo := v', os := zs' } ∧ Grew w (w1.setCell ⟨r, 2, none⟩ v') r x { x with vo := v', os := zs' } := by
  obtain ⟨h1, h2, h3, h4, h5⟩ := h.parts (k := 0) rfl hk hq hat
  refine ⟨⟨box_put (h1.trans h.box) v', own_up h2 (Kept.setCell w1 r 2 v') fun b hb e => h.r_foot (.inl (by rw [← e]; exact hb)), qall_box h3 h4 v', h.up⟩, ⟨(hk.mono fun b _ e => .inr (.inr ⟨(x.vo, x.os), by simp [Wk.L], e⟩)).trans ((Kept.setCell w1 r 2 v').mono fun b _ e => .inl e), fun b hb => ?_⟩⟩
  rcases hb with hb | hb
  · exact .inl (.inl hb)
  · exact (h5 b hb).imp .inr id
/-- The count is another now. -/
theorem WkM.putCnt {w : World} {B r : Nat} {x : Wk} (h : WkM w B r x) (z : Int) : WkM (w.setCell ⟨r, 3, none⟩ (.int .i64 z)) B r { x with cnt := z } ∧ Grew w (w.setCell ⟨r, 3, none⟩ (.int .i64 z)) r x { x with cnt := z } :=
  ⟨⟨box_put h.box _, own_up h.pa (Kept.setCell w r 3 _) fun b hb e => h.r_foot (.inl (by rw [← e]; exact hb)), h.q.kept (Kept.setCell w r 3 _) fun b hb e => h.r_foot (.inr (by rw [← e]; exact hb)), h.up⟩, ⟨(Kept.setCell w r 3 _).mono fun b _ e => .inl e, fun b hb => .inl hb⟩⟩
end Go.Proofs.YtplofbabfkkimaaDoor.Ts
/- tauscc: contract of the walk's number. -/
namespace Go.Proofs.YtplofbabfkkimaaDoor.Ts
open Go.RowKit Go.Maps
attribute [local go_sem ↓] Go.wp_at_zero Go.wp_at_succ
def Wk.numd (x : Wk) (v : Nat) (vo : Value) : Wk := { x with vo := vo, os := x.os ++ [(v : Int)], cnt := x.cnt + 1, ns := x.ns.set v x.cnt, ls := x.ls.set v x.cnt }
set_option linter.unusedSimpArgs false in
set_option maxRecDepth 100000 in
set_option maxHeartbeats 4000000 in
theorem number_any (B r : Nat) (x : Wk) (v : Nat) (w : World) (hM : WkM w B r x) (hv : v < x.ns.length) (hl : x.ls.length = x.ns.length) (hc : 0 ≤ x.cnt ∧ x.cnt ≤ 100000) (ho : x.os.length ≤ 100000) :
    Calls Tryd.prog 65 #[.pointer (some ⟨r, 0, none⟩), .int .i64 v] w fun e w' => e = .returned (.tuple #[]) ∧ ∃ vo, WkM w' B r (x.numd v vo) ∧ Grew w w' r x (x.numd v vo) := by
  obtain ⟨_, _, _, c3, c4, _, _⟩ := seven_cells hM.box
  obtain ⟨z0, hz0⟩ : ∃ z, x.ns[v]? = some z := ⟨_, List.getElem?_eq_getElem hv⟩
  obtain ⟨z1, hz1⟩ : ∃ z, x.ls[v]? = some z := ⟨_, List.getElem?_eq_getElem (by omega)⟩
  obtain ⟨gn, on, cn, hvn, _, cnn, fnn⟩ := que_cell (hM.q.q 1 (x.vn, x.ns) rfl) hz0
  obtain ⟨gl, ol, cl, hvl, _, _, _⟩ := que_cell (hM.q.q 2 (x.vl, x.ls) rfl) hz1
  simp only at hvn hvl
  obtain ⟨N, hN⟩ : ∃ N, N = x.ns.length := ⟨_, rfl⟩
  obtain ⟨ct, hct⟩ : ∃ ct, ct = x.cnt := ⟨_, rfl⟩
  rw [hl] at hvl
  rw [← hN] at hvl hvn
  rw [hvn] at c4
  rw [← hct] at c3
  have p0 : (0 : Int) ≤ (v : Int) := by omega
  have p1 : (v : Int) < (N : Int) := by omega
  have p2 : IntKind.i64.wrap (ct + 1) = ct + 1 := by rw [IntKind.wrap_i64]; omega
  have H : Hid _ := And.intro hM (And.intro hv (And.intro hl (And.intro ho (And.intro hvn (And.intro hvl (And.intro hN hct))))))
  have H1 : Hid _ := hz1
  clear hM hv hl ho hvn hvl hN hct hc hz0 hz1
  go_enter Tryd.func65, Tryd.ntmps65
  go_upto_region 0 with fail
  go_region
  obtain ⟨w1, hw1⟩ : ∃ w1, w1 = (w.setCell ⟨gn, on + v, none⟩ (.int .i64 ct)).drew := ⟨_, rfl⟩
  rw [← hw1]
  obtain ⟨x1, hx1⟩ : ∃ x1 : Wk, x1 = { x with ns := x.ns.set v x.cnt } := ⟨_, rfl⟩
  have h1 : WkM w1 B r x1 ∧ Grew w w1 r x x1 := by
    obtain ⟨e1, e2⟩ := H.out.1.set (x' := x1) (k := 1) (g := gn) (off := on) (n := N) (cap := cn) (zs := x.ns) (i := v) (by show some (x.vn, x.ns) = _; rw [H.out.2.2.2.2.1]) H.out.2.1 x.cnt (by rw [hx1]; show [_, _, _, _] = [_, _, _, _]; simp only; rw [H.out.2.2.2.2.1]) (by rw [hx1]) ⟨by rw [hx1], by rw [hx1]⟩
    rw [hw1, H.out.2.2.2.2.2.2.2]
    exact ⟨e1.below (Below.refl _ _).drew, e2.below (Below.refl _ _).drew⟩
  have hl1 : x1.ls[v]? = some z1 := by rw [hx1]; exact H1.out
  have hv1 : x1.vl = .slice (some ⟨gl, ol, none⟩) N cl := by rw [hx1]; exact H.out.2.2.2.2.2.1
  obtain ⟨_, _, _, d3, _, d5, _⟩ := seven_cells h1.1.box
  obtain ⟨g', o', c', hv', _, dll, dfl⟩ := que_cell (h1.1.q.q 2 (x1.vl, x1.ls) rfl) hl1
  simp only at hv'
  rw [hv1] at hv' d5
  injection hv' with e1 e2 e3
  injection e1 with e1
  injection e1 with e4 e5
  subst e4; subst e5
  rw [show x1.cnt = ct by rw [hx1]; exact H.out.2.2.2.2.2.2.2.symm] at d3
  have H2 : Hid _ := And.intro h1 (And.intro hx1 (And.intro hv1 e3))
  clear h1 hx1 hv1 hl1 e2 e3 hw1 c3 c4 cnn fnn
  go_upto_region 1 with fail
  go_region
  obtain ⟨w2, hw2⟩ : ∃ w2, w2 = (w1.setCell ⟨gl, ol + v, none⟩ (.int .i64 ct)).drew := ⟨_, rfl⟩
  rw [← hw2]
  obtain ⟨x2, hx2⟩ : ∃ x2 : Wk, x2 = { x1 with ls := x1.ls.set v x.cnt } := ⟨_, rfl⟩
  have h2 : WkM w2 B r x2 ∧ Grew w w2 r x x2 := by
    obtain ⟨e1, e2⟩ := H2.out.1.1.set (x' := x2) (k := 2) (g := gl) (off := ol) (n := N) (cap := cl) (zs := x1.ls) (i := v) (by show some (x1.vl, x1.ls) = _; rw [H2.out.2.2.1]) (by rw [H2.out.2.1]; show v < x.ls.length; rw [H.out.2.2.1]; exact H.out.2.1) x.cnt (by rw [hx2]; show [_, _, _, _] = [_, _, _, _]; simp only; rw [H2.out.2.2.1]) (by rw [hx2]) ⟨by rw [hx2], by rw [hx2]⟩
    rw [hw2, H.out.2.2.2.2.2.2.2]
    exact ⟨e1.below (Below.refl _ _).drew, H2.out.1.2.trans (e2.below (Below.refl _ _).drew)⟩
  obtain ⟨_, _, _, f3, _, _, _⟩ := seven_cells h2.1.box
  rw [show x2.cnt = ct by rw [hx2, H2.out.2.1]; exact H.out.2.2.2.2.2.2.2.symm] at f3
  have ff := blk_free h2.1.box 3
  have H3 : Hid _ := And.intro h2 hx2
  clear h2 hx2 hw2 d3 d5 dll dfl
  go_upto_region 3 with fail
  obtain ⟨w3, hw3⟩ : ∃ w3, w3 = w2.setCell ⟨r, 3, none⟩ (.int .i64 (ct + 1)) := ⟨_, rfl⟩
  rw [← hw3]
  obtain ⟨x3, hx3⟩ : ∃ x3 : Wk, x3 = { x2 with cnt := ct + 1 } := ⟨_, rfl⟩
  have h3 : WkM w3 B r x3 ∧ Grew w w3 r x x3 := by
    obtain ⟨e1, e2⟩ := H3.out.1.1.putCnt (ct + 1)
    rw [hw3, hx3]
    exact ⟨e1, H3.out.1.2.trans e2⟩
  have hvo : x3.vo = x.vo ∧ x3.os = x.os := by rw [hx3, H3.out.2, H2.out.2.1]; exact ⟨rfl, rfl⟩
  obtain ⟨b0, b1, b2, b3, b4, b5, b6⟩ := seven_cells h3.1.box
  have hQ := h3.1.q.q 0 (x3.vo, x3.os) rfl
  obtain ⟨ao, no, co, hoe⟩ := que_slice hQ
  simp only at hoe hQ
  rw [hoe] at b2 hQ
  have hB : B ≤ (w3.alloc (.cells #[.int .i64 (v : Int)] 3)).heap.size := by have := t_lt h3.1.box; have := h3.1.up; rw [World.size_alloc]; omega
  have hlen : x3.os.length ≤ 1000000 := by rw [hvo.2]; have := H.out.2.2.2.1; omega
  have HQ : Hid _ := And.intro hQ (And.intro h3 (And.intro hx3 hoe))
  clear hQ h3 hx3 hoe hvo hw3 f3 ff b0 b1 b3 b4 b5 b6
  go_wp2_with (at_builtin; refine wpList_que_append _ rfl _ _ rfl (.slice ao no co) x3.os B rfl (que_alloc HQ.out.1 _) ⟨w3.heap.size, 0, none⟩ 1 (v : Int) rfl (one_cell _ _) hlen hB ?_; intro vn wn hqn hgn han ha0; clear ha0; obtain ⟨an, nn, cn', rfl⟩ := que_slice hqn; have hkn := grown_alloc hgn; have hbx := (hkn.block r (t_lt HQ.out.2.1.1.box) fun e => HQ.out.2.1.1.r_foot (.inr ⟨(x3.vo, x3.os), by simp [Wk.L], by rw [HQ.out.2.2.2]; exact e⟩)).trans HQ.out.2.1.1.box; have bc := (seven_cells hbx).2.2.1; have bf := blk_free hbx 2; have HN : Hid _ := And.intro hqn (And.intro hkn (que_up han)); clear hqn hgn han hkn hbx)
  go_end0
  have hfin := HQ.out.2.1.1.putOpen (w1 := wn) (v' := .slice an nn cn') (zs' := x3.os ++ [(v : Int)]) (by rw [HQ.out.2.2.2]; exact HN.out.2.1) HN.out.1 (by rw [HQ.out.2.2.2]; exact HN.out.2.2)
  have hx : x.numd v (.slice an nn cn') = { x3 with vo := .slice an nn cn', os := x3.os ++ [(v : Int)] } := by
    rw [HQ.out.2.2.1, H3.out.2, H2.out.2.1, H.out.2.2.2.2.2.2.2]
    rfl
  refine ⟨rfl, .slice an nn cn', ?_, ?_⟩
  · rw [hx]; exact hfin.1
  · rw [hx]; exact HQ.out.2.1.2.trans hfin.2
end Go.Proofs.YtplofbabfkkimaaDoor.Ts
/- Open states get their class: plain facts. -/
namespace Go.Proofs.YtplofbabfkkimaaDoor.Ts
def setAll (cs : List Int) (l : List Nat) (z : Int) : List Int := l.foldr (fun u c => c.set u z) cs
theorem setAll_length (cs : List Int) (l : List Nat) (z : Int) : (setAll cs l z).length = cs.length := by
  induction l with
  | nil => rfl
  | cons u l ih => show ((setAll cs l z).set u z).length = _; rw [List.length_set, ih]
theorem setAll_not (cs : List Int) (l : List Nat) (z : Int) {u : Nat} (h : u ∉ l) : (setAll cs l z)[u]? = cs[u]? := by
  induction l with
  | nil => rfl
  | cons q l ih =>
    show ((setAll cs l z).set q z)[u]? = _
    rw [List.getElem?_set_ne (fun e => h (by rw [e]; exact List.mem_cons_self)), ih fun e => h (List.mem_cons_of_mem _ e)]
theorem setAll_in (cs : List Int) (l : List Nat) (z : Int) {u : Nat} (h : u ∈ l) (hu : u < cs.length) : (setAll cs l z)[u]? = some z := by
  induction l with
  | nil => cases h
  | cons q l ih =>
    show ((setAll cs l z).set q z)[u]? = _
    by_cases e : q = u
    · subst e
      rw [List.getElem?_set_self (by rw [setAll_length]; exact hu)]
    · rw [List.getElem?_set_ne e]
      rcases List.mem_cons.1 h with h1 | h1
      · exact absurd h1.symm e
      · exact ih h1
def cast (l : List Nat) : List Int := l.map fun (u : Nat) => (u : Int)
theorem cast_snoc (l : List Nat) (u : Nat) : cast (l ++ [u]) = cast l ++ [(u : Int)] := by simp [cast]
theorem cast_length (l : List Nat) : (cast l).length = l.length := by simp [cast]
/-- The walk between two states that go from the open list. -/
def Wk.pop (x : Wk) (v : Nat) (rest popped : List Nat) (vo : Value) : Wk := { x with vo := vo, os := cast rest, cs := setAll x.cs popped (v : Int) }
structure ClAt (w wr : World) (B r : Nat) (x : Wk) (v : Nat) (pre post rest popped : List Nat) (vo : Value) : Prop where
  all : rest ++ popped = pre ++ v :: post
  le : pre.length ≤ rest.length
  m : WkM wr B r (x.pop v rest popped vo)
  gw : Grew w wr r x (x.pop v rest popped vo)
theorem ClAt.end {w wr : World} {B r : Nat} {x : Wk} {v : Nat} {pre post rest popped : List Nat} {vo : Value} (h : ClAt w wr B r x v pre post rest popped vo) (he : rest.length = pre.length) : rest = pre ∧ popped = v :: post := List.append_inj h.all he
/-- One more goes. -/
theorem ClAt.more {w wr : World} {B r : Nat} {x : Wk} {v : Nat} {pre post rest popped : List Nat} {vo : Value} (h : ClAt w wr B r x v pre post rest popped vo) (hlt : pre.length < rest.length) : ∃ rest' u, rest = rest' ++ [u] ∧ pre.length ≤ rest'.length ∧ rest' ++ (u :: popped) = pre ++ v :: post := by
  have hl : rest.length - 1 + 1 = rest.length := by omega
  obtain ⟨u, hu⟩ : ∃ u, rest[rest.length - 1]? = some u := ⟨_, List.getElem?_eq_getElem (by omega)⟩
  have e : rest = rest.take (rest.length - 1) ++ [u] := by
    rw [← take_succ_of hu, hl, List.take_length]
  refine ⟨rest.take (rest.length - 1), u, e, by rw [List.length_take]; omega, ?_⟩
  rw [← h.all, show rest.take (rest.length - 1) ++ u :: popped = (rest.take (rest.length - 1) ++ [u]) ++ popped by simp, ← e]
theorem ClAt.in_rest {w wr : World} {B r : Nat} {x : Wk} {v : Nat} {pre post rest popped : List Nat} {vo : Value} (h : ClAt w wr B r x v pre post rest popped vo) (hn : (pre ++ v :: post).Nodup) (hlt : pre.length < rest.length) : v ∉ popped := fun hp => by
  have h1 : (pre ++ v :: post)[pre.length]? = some v := by simp
  rw [← h.all, List.getElem?_append_left hlt] at h1
  rw [← h.all] at hn
  exact (List.nodup_append.1 hn).2.2 v (List.mem_of_getElem? h1) v hp rfl
end Go.Proofs.YtplofbabfkkimaaDoor.Ts
/- The walk's path in memory: the stage and the step of an entry are others now; where silent steps lead. -/
namespace Go.Proofs.YtplofbabfkkimaaDoor.Ts
open Go.RowKit Go.Maps
theorem pC_cons (q : Nat × Nat × Nat) (r : List (Nat × Nat × Nat)) : pC (q :: r) = .int .i64 (q.1 : Int) :: .int .i64 (q.2.1 : Int) :: .int .i64 (q.2.2 : Int) :: pC r := by simp [pC]
theorem pC_set (ps : List (Nat × Nat × Nat)) (i s st k : Nat) (h : ps[i]? = some (s, st, k)) (st' k' : Nat) : (pC ps).set (i * 3 + 1) (.int .i64 (st' : Int)) = pC (ps.set i (s, st', k)) ∧ (pC ps).set (i * 3 + 2) (.int .i64 (k' : Int)) = pC (ps.set i (s, st, k')) := by
  induction ps generalizing i with
  | nil => simp at h
  | cons q r ih =>
    cases i with
    | zero =>
      simp only [List.getElem?_cons_zero, Option.some.injEq] at h
      subst h
      simp only [List.set_cons_zero, pC_cons]
      exact ⟨rfl, rfl⟩
    | succ i =>
      rw [List.getElem?_cons_succ] at h
      obtain ⟨h1, h2⟩ := ih i h
      rw [show (i + 1) * 3 + 1 = i * 3 + 1 + 1 + 1 + 1 by omega, show (i + 1) * 3 + 2 = i * 3 + 2 + 1 + 1 + 1 by omega]
      simp only [List.set_cons_succ, pC_cons]
      rw [h1, h2]
      exact ⟨rfl, rfl⟩
theorem WkM.entry {w : World} {B r i s st k : Nat} {x : Wk} (h : WkM w B r x) (hp : x.ps[i]? = some (s, st, k)) : ∃ gp cap, x.vp = .slice (some ⟨gp, 0, none⟩) x.ps.length cap ∧ x.ps.length ≤ cap ∧ w.cell? ⟨gp, i * 3, none⟩ = some (.int .i64 (s : Int)) ∧ w.cell? ⟨gp, i * 3 + 1, none⟩ = some (.int .i64 (st : Int)) ∧ w.cell? ⟨gp, i * 3 + 2, none⟩ = some (.int .i64 (k : Int)) ∧ ∀ j, w.frozen? ⟨gp, j, none⟩ = false := by
  have hl := (List.getElem?_eq_some_iff.1 hp).1
  obtain ⟨gp, cap, h1, h2⟩ := h.pa.form (by omega)
  have hr := h.pa
  rw [h1] at hr
  have hcap : x.ps.length ≤ cap := by
    rcases hr.2 with ⟨e, _⟩ | ⟨_, _, _, e, _, _, h4, _⟩
    · cases e
    · cases e; exact h4
  obtain ⟨h3, h4, h5⟩ := pC_at x.ps i _ hp
  exact ⟨gp, cap, h1, hcap, (hr.cellAt (i * 3) (by omega)).trans h3, (hr.cellAt (i * 3 + 1) (by omega)).trans h4, (hr.cellAt (i * 3 + 2) (by omega)).trans h5, fun j => hr.frozenAt j⟩
/-- A cell of the path is another now. -/
theorem WkM.setPath {w : World} {B r gp cap j : Nat} {x : Wk} (h : WkM w B r x) (hv : x.vp = .slice (some ⟨gp, 0, none⟩) x.ps.length cap) (u : Value) {ps' : List (Nat × Nat × Nat)} (hl : ps'.length = x.ps.length) (hp : (pC x.ps).set j u = pC ps') :
    WkM (w.setCell ⟨gp, j, none⟩ u) B r { x with ps := ps' } ∧ Grew w (w.setCell ⟨gp, j, none⟩ u) r x { x with ps := ps' } := by
  have hb : x.vp.ownBlock = some gp := by rw [hv]; rfl
  have hr : r ≠ gp := fun e => h.r_foot (.inl (by rw [e]; exact hb))
  refine ⟨⟨(set_other _ _ _ _ _ hr).trans h.box, ?_, h.q.kept (Kept.setCell w gp _ _) fun b hf e => h.path_list hb (by rw [← e]; exact hf), h.up⟩, ⟨(Kept.setCell w gp j u).mono fun b _ e => .inr (.inl (by rw [e]; exact hb)), fun b hf => .inl hf⟩⟩
  have h6 := h.pa
  rw [hv] at h6
  have h7 := (h6.stored j u).1
  rw [hp, ← hl] at h7
  show World.ownsRow _ _ _ _ x.vp _ _
  rw [hv, ← hl]
  exact h7
theorem WkM.setStage {w : World} {B r gp cap i s st k : Nat} {x : Wk} (h : WkM w B r x) (hv : x.vp = .slice (some ⟨gp, 0, none⟩) x.ps.length cap) (hp : x.ps[i]? = some (s, st, k)) (st' : Nat) :
    WkM (w.setCell ⟨gp, i * 3 + 1, none⟩ (.int .i64 (st' : Int))) B r { x with ps := x.ps.set i (s, st', k) } ∧ Grew w (w.setCell ⟨gp, i * 3 + 1, none⟩ (.int .i64 (st' : Int))) r x { x with ps := x.ps.set i (s, st', k) } := h.setPath hv _ (by rw [List.length_set]) (pC_set x.ps i s st k hp st' 0).1
theorem WkM.setStep {w : World} {B r gp cap i s st k : Nat} {x : Wk} (h : WkM w B r x) (hv : x.vp = .slice (some ⟨gp, 0, none⟩) x.ps.length cap) (hp : x.ps[i]? = some (s, st, k)) (k' : Nat) :
    WkM (w.setCell ⟨gp, i * 3 + 2, none⟩ (.int .i64 (k' : Int))) B r { x with ps := x.ps.set i (s, st, k') } ∧ Grew w (w.setCell ⟨gp, i * 3 + 2, none⟩ (.int .i64 (k' : Int))) r x { x with ps := x.ps.set i (s, st, k') } := h.setPath hv _ (by rw [List.length_set]) (pC_set x.ps i s st k hp 0 k').2
/-- Of each state where its silent steps lead; none of it in the walk's own blocks. -/
structure Sil (w : World) (r : Nat) (x : Wk) (n : Nat) (out : Nat → List Nat) (gs os cap : Nat) : Prop where
  vs : x.vs = .slice (some ⟨gs, os, none⟩) n cap
  lt : gs < w.heap.size
  far : gs ≠ r ∧ ¬ x.foot gs
  at_ : ∀ q, q < n → ∃ vq, w.cell? ⟨gs, os + q, none⟩ = some vq ∧ HasI w vq (cast (out q)) ∧ (out q ≠ [] → ∀ b, vq.ownBlock = some b → b ≠ r ∧ ¬ x.foot b)
theorem Sil.grew {w w' : World} {r : Nat} {x x' : Wk} {n : Nat} {out : Nat → List Nat} {gs os cap : Nat} (h : Sil w r x n out gs os cap) (hg : Grew w w' r x x') (hv : x'.vs = x.vs) : Sil w' r x' n out gs os cap := by
  have hf : ∀ b, b < w.heap.size → ¬ x.foot b → ¬ x'.foot b := fun b hb hn hf => by
    rcases hg.ft b hf with h1 | h1
    · exact hn h1
    · omega
  refine ⟨hv.trans h.vs, Nat.lt_of_lt_of_le h.lt hg.kp.size, ⟨h.far.1, hf _ h.lt h.far.2⟩, fun q hq => ?_⟩
  obtain ⟨vq, h1, h2, h3⟩ := h.at_ q hq
  have hne : cast (out q) ≠ [] → out q ≠ [] := fun h e => h (by rw [e]; rfl)
  refine ⟨vq, (World.cell?_of_block (a := ⟨gs, os + q, none⟩) (hg.kp.block gs h.lt fun e => e.elim h.far.1 h.far.2)).trans h1, h2.kept hg.kp fun hn b hb e => e.elim (h3 (hne hn) b hb).1 (h3 (hne hn) b hb).2, fun hn b hb => ⟨(h3 hn b hb).1, hf b (made_far h2 (fun e => hn (by cases ho : out q with
    | nil => rfl
    | cons a l => rw [ho] at e; simp [cast] at e)) hb) (h3 hn b hb).2⟩⟩
end Go.Proofs.YtplofbabfkkimaaDoor.Ts
/- A state's steps are gone one by one: plain facts, and the walk between two of them. -/
namespace Go.Proofs.YtplofbabfkkimaaDoor.Ts
open Go.RowKit Go.Maps
/-- A step that leads to a state that has a number is gone. -/
def pass1 (cs : List Int) (s : Nat) (ls : List Int) (t : Nat) : List Int := if cs[t]? = some (-1) then ls.set s (min (ls[s]?.getD 0) (ls[t]?.getD 0)) else ls
theorem pass1_length (cs : List Int) (s : Nat) (ls : List Int) (t : Nat) : (pass1 cs s ls t).length = ls.length := by
  unfold pass1
  split
  · rw [List.length_set]
  · rfl
theorem passes_length (cs : List Int) (s : Nat) (l : List Nat) (ls : List Int) : (l.foldl (pass1 cs s) ls).length = ls.length := by
  induction l generalizing ls with
  | nil => rfl
  | cons t l ih => rw [List.foldl_cons, ih, pass1_length]
def Wk.gone (x : Wk) (out : Nat → List Nat) (i s st k j : Nat) : Wk := { x with ps := x.ps.set i (s, st, k + j), ls := (((out s).drop k).take j).foldl (pass1 x.cs s) x.ls }
theorem gone_zero (x : Wk) (out : Nat → List Nat) {i s st k : Nat} (h : x.ps[i]? = some (s, st, k)) : x.gone out i s st k 0 = x := by
  unfold Wk.gone
  rw [Nat.add_zero, set_same h]
  rfl
theorem gone_ls (x : Wk) (out : Nat → List Nat) {i s st k j t : Nat} (h : (out s)[k + j]? = some t) : (x.gone out i s st k (j + 1)).ls = pass1 x.cs s (x.gone out i s st k j).ls t := by
  unfold Wk.gone
  simp only
  rw [take_succ_of (x := t) (by rw [List.getElem?_drop]; exact h), List.foldl_append]
  rfl
structure AhAt (w wr : World) (B r : Nat) (x : Wk) (out : Nat → List Nat) (i s st k j : Nat) : Prop where
  le : k + j ≤ (out s).length
  num : ∀ m t, k ≤ m → m < k + j → (out s)[m]? = some t → x.ns[t]? ≠ some (-1)
  m : WkM wr B r (x.gone out i s st k j)
  gw : Grew w wr r x (x.gone out i s st k j)
/-- What ahead tells. -/
def Ahead (e : Ending) (x : Wk) (out : Nat → List Nat) (s k j : Nat) : Prop := (∃ t : Nat, e = .returned (.tuple #[.int .i64 (t : Int), .bool true]) ∧ (out s)[k + j]? = some t ∧ x.ns[t]? = some (-1)) ∨ (e = .returned (.tuple #[.int .i64 0, .bool false]) ∧ k + j = (out s).length)
theorem gone_shut (x : Wk) (out : Nat → List Nat) {i s st k j t : Nat} (h : (out s)[k + j]? = some t) (hc : x.cs[t]? ≠ some (-1)) : x.gone out i s st k (j + 1) = { x.gone out i s st k j with ps := (x.gone out i s st k j).ps.set i (s, st, k + (j + 1)) } := by
  have h1 := gone_ls x out (i := i) (st := st) h
  unfold pass1 at h1
  rw [if_neg hc] at h1
  unfold Wk.gone at h1 ⊢
  simp only at h1 ⊢
  rw [h1, List.set_set]
theorem gone_open (x : Wk) (out : Nat → List Nat) {i s st k j t : Nat} {zs zt : Int} (h : (out s)[k + j]? = some t) (hc : x.cs[t]? = some (-1)) (hs : (x.gone out i s st k j).ls[s]? = some zs) (ht : (x.gone out i s st k j).ls[t]? = some zt) : x.gone out i s st k (j + 1) = { x.gone out i s st k j with ls := (x.gone out i s st k j).ls.set s (min zs zt), ps := (x.gone out i s st k j).ps.set i (s, st, k + (j + 1)) } := by
  have h1 := gone_ls x out (i := i) (st := st) h
  unfold pass1 at h1
  rw [if_pos hc, hs, ht] at h1
  unfold Wk.gone at h1 ⊢
  simp only [Option.getD_some] at h1 ⊢
  rw [h1, List.set_set]
theorem AhAt.next {w wr w2 : World} {B r : Nat} {x x' : Wk} {out : Nat → List Nat} {i s st k j t : Nat} (h : AhAt w wr B r x out i s st k j) (ht : (out s)[k + j]? = some t) (hn : x.ns[t]? ≠ some (-1)) (hm : WkM w2 B r x') (hg : Grew w w2 r x x') (hx : x' = x.gone out i s st k (j + 1)) : AhAt w w2 B r x out i s st k (j + 1) := by
  subst hx
  refine ⟨?_, fun m u h1 h2 h3 => ?_, hm, hg⟩
  · have := (List.getElem?_eq_some_iff.1 ht).1
    omega
  · by_cases e : m = k + j
    · subst e
      rw [ht] at h3
      cases h3
      exact hn
    · exact h.num m u h1 (by omega) h3
theorem AhAt.below {w wr w2 : World} {B r : Nat} {x : Wk} {out : Nat → List Nat} {i s st k j : Nat} (h : AhAt w wr B r x out i s st k j) (hb : Below wr.heap.size wr w2) : AhAt w w2 B r x out i s st k j := ⟨h.le, h.num, h.m.below hb, h.gw.below hb⟩
end Go.Proofs.YtplofbabfkkimaaDoor.Ts
/- What always stands in the walk stays so: it comes to a state, goes a step, leaves a state. -/
namespace Go.Proofs.YtplofbabfkkimaaDoor.Ts
theorem Inv.enter {n : Nat} {out : Nat → List Nat} {s : St} {pd pd' : Nat → Prop} (h : Inv n out s pd) {v : Nat} (hvn : v < n) (hv : s.num v = -1) (hp : s.path = [] ∨ ∃ p i r, s.path = (p, i) :: r ∧ (out p)[i]? = some v) : Inv n out (s.enter v) pd' := by
  have hcv : s.cls v = -1 := Classical.byContradiction fun hc => by have := h.clsn v hc; omega
  have hc0 := h.cnt0
  have hnv : (s.enter v).num v = s.cnt := by simp [St.enter]
  have hnu : ∀ u, u ≠ v → (s.enter v).num u = s.num u := fun u hu => by simp [St.enter, hu]
  have hlv : (s.enter v).low v = s.cnt := by simp [St.enter]
  have hlu : ∀ u, u ≠ v → (s.enter v).low u = s.low u := fun u hu => by simp [St.enter, hu]
  have hcl : ∀ u, (s.enter v).cls u = s.cls u := fun u => rfl
  have hpa : (s.enter v).path = (v, 0) :: s.path := rfl
  have hne : ∀ u, s.op u → u ≠ v := fun u hu e => by rw [e] at hu; have := hu.1; omega
  have hop : ∀ u, (s.enter v).op u → u = v ∨ (u ≠ v ∧ s.op u) := fun u hu => by
    by_cases e : u = v
    · exact .inl e
    · exact .inr ⟨e, by rw [← hnu u e]; exact hu.1, hu.2⟩
  have hop2 : ∀ u, s.op u → (s.enter v).op u := fun u hu => ⟨by rw [hnu u (hne u hu)]; exact hu.1, hu.2⟩
  have hov : (s.enter v).op v := ⟨by rw [hnv]; exact hc0, hcv⟩
  have hxv : ∀ x ∈ s.path, x.1 ≠ v := fun x hx => hne _ (h.pop x hx).1
  have hgone : ∀ u, u ≠ v → ∀ j, (s.enter v).gone out u j → s.gone out u j := fun u hu j hg => ⟨hg.1, fun i hi => hg.2 i (by rw [hpa]; exact List.mem_cons_of_mem _ hi)⟩
  have hlow2 : ∀ u, s.op u → ¬ s.on u → ∃ x ∈ s.path, s.num x.1 < s.num u ∧ (∀ y ∈ s.path, s.num y.1 < s.num u → s.num y.1 ≤ s.num x.1) ∧ s.low x.1 ≤ s.low u := fun u hu hon => by
    obtain ⟨x, hx, h1, h2, h3 | ⟨hh, c, _, hc, ho, _⟩⟩ := h.lows u hu hon
    · exact ⟨x, hx, h1, h2, h3⟩
    · rcases hp with e | ⟨p, i, r, e, hv2⟩
      · rw [e] at hh; cases hh
      · rw [e] at hh
        cases hh
        rw [hv2] at ho
        have e2 : v = c := Option.some.inj ho
        exact absurd e2.symm (hne c hc)
  exact {
    rng := fun u hu => by
      by_cases e : u = v
      · rw [e]; exact hvn
      · rw [hnu u e] at hu; exact h.rng u hu
    cnt := fun u => by
      show (s.enter v).num u < s.cnt + 1
      by_cases e : u = v
      · rw [e, hnv]; omega
      · rw [hnu u e]; have := h.cnt u; omega
    cnt0 := by show 0 ≤ s.cnt + 1; omega
    neg := fun u => by
      by_cases e : u = v
      · rw [e, hnv]; exact .inr hc0
      · rw [hnu u e]; exact h.neg u
    inj := fun a b ha hab => by
      by_cases e : a = v
      · by_cases e2 : b = v
        · rw [e, e2]
        · rw [e, hnv, hnu b e2] at hab; have := h.cnt b; omega
      · by_cases e2 : b = v
        · rw [e2, hnv, hnu a e] at hab; have := h.cnt a; omega
        · rw [hnu a e] at ha hab; rw [hnu b e2] at hab; exact h.inj a b ha hab
    clsn := fun u hu => by
      by_cases e : u = v
      · rw [e, hnv]; exact hc0
      · rw [hnu u e]; exact h.clsn u hu
    pth := by
      rw [hpa]
      refine List.pairwise_cons.2 ⟨fun y hy => ?_, h.pth.imp_of_mem fun {a b} ha hb hab => ?_⟩
      · rw [hnv, hnu _ (hxv y hy)]; exact h.cnt _
      · rw [hnu _ (hxv a ha), hnu _ (hxv b hb)]; exact hab
    pop := fun x hx => by
      rw [hpa] at hx
      rcases List.mem_cons.1 hx with rfl | hx
      · exact ⟨hov, Nat.zero_le _⟩
      · exact ⟨hop2 _ (h.pop x hx).1, (h.pop x hx).2⟩
    lown := fun u hu => by
      rcases hop u hu with rfl | ⟨e, hu⟩
      · rw [hlv, hnv]; exact Int.le_refl _
      · rw [hlu u e, hnu u e]; exact h.lown u hu
    lowr := fun u hu => by
      rcases hop u hu with rfl | ⟨e, hu⟩
      · exact ⟨u, hov, by rw [hlv, hnv], .refl _⟩
      · obtain ⟨x, h1, h2, h3⟩ := h.lowr u hu
        exact ⟨x, hop2 x h1, by rw [hlu u e, hnu x (hne x h1)]; exact h2, h3⟩
    edge := fun u hu j t hg ht => by
      rcases hop u hu with rfl | ⟨e, hu⟩
      · have := hg.2 0 (by rw [hpa]; exact List.mem_cons_self)
        omega
      · obtain ⟨h1, h2⟩ := h.edge u hu j t (hgone u e j hg) ht
        have et : t ≠ v := fun e2 => by rw [e2] at h1; omega
        rw [hnu t et, hlu u e]
        exact ⟨h1, h2⟩
    shut := h.shut
    cyc := h.cyc
    root := h.root
    down := fun x hx u hu hle => by
      rw [hpa] at hx
      rcases List.mem_cons.1 hx with rfl | hx1
      · rcases hop u hu with rfl | ⟨e, hu⟩
        · exact .refl _
        · simp only at hle
          rw [hnv, hnu u e] at hle
          have := h.cnt u
          omega
      · rcases hop u hu with rfl | ⟨e, hu⟩
        · rcases hp with e | ⟨p, i, r, e, hv2⟩
          · rw [e] at hx1; simp at hx1
          · have h1 : Rt out x.1 p := by
              rw [e] at hx1
              rcases List.mem_cons.1 hx1 with rfl | hx2
              · exact .refl _
              · exact h.down x (by rw [e]; exact List.mem_cons_of_mem _ hx2) p (h.head e).1 (Int.le_of_lt ((h.head e).2 x hx2))
            exact h1.step (List.mem_of_getElem? hv2)
        · rw [hnu _ (hxv x hx1), hnu u e] at hle
          exact h.down x hx1 u hu hle
    off := fun u hu hon => by
      rcases hop u hu with rfl | ⟨e, hu⟩
      · exact absurd ⟨0, by rw [hpa]; exact List.mem_cons_self⟩ hon
      · rw [hlu u e, hnu u e]
        exact h.off u hu fun ⟨i, hi⟩ => hon ⟨i, by rw [hpa]; exact List.mem_cons_of_mem _ hi⟩
    lows := fun u hu hon => by
      rcases hop u hu with rfl | ⟨e, hu⟩
      · exact absurd ⟨0, by rw [hpa]; exact List.mem_cons_self⟩ hon
      · obtain ⟨x, hx, h1, h2, h3⟩ := hlow2 u hu fun ⟨i, hi⟩ => hon ⟨i, by rw [hpa]; exact List.mem_cons_of_mem _ hi⟩
        refine ⟨x, by rw [hpa]; exact List.mem_cons_of_mem _ hx, by rw [hnu _ (hxv x hx), hnu u e]; exact h1, fun y hy hlt => ?_, .inl (by rw [hlu _ (hxv x hx), hlu u e]; exact h3)⟩
        rw [hpa] at hy
        rcases List.mem_cons.1 hy with rfl | hy
        · simp only at hlt
          rw [hnv, hnu u e] at hlt
          have := h.cnt u
          omega
        · rw [hnu _ (hxv y hy), hnu u e] at hlt
          rw [hnu _ (hxv y hy), hnu _ (hxv x hx)]
          exact h2 y hy hlt
    link := fun x y r l hl => by
      rw [hpa] at hl
      cases l with
      | nil =>
        injection hl with e1 e2
        subst e1
        rcases hp with e | ⟨p, i, r', e, hv2⟩
        · rw [e] at e2; cases e2
        · rw [e] at e2
          injection e2 with e3 _
          rw [← e3]
          exact hv2
      | cons a l =>
        injection hl with _ e2
        exact h.link x y r l e2 }
end Go.Proofs.YtplofbabfkkimaaDoor.Ts
