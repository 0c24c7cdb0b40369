/- Plain facts on edges, their order and one form of their lists; on classes and their one form. Nothing of the program is in it. -/
import GoSem.Claim
namespace Go.Proofs.YthfnikglcpoioaaDoor.Sy
/-- An edge: where it comes from, its label, where it leads. -/
abbrev Ed : Type := Int × Int × Int
def lt (a b : Ed) : Bool := if a.1 != b.1 then decide (a.1 < b.1) else if a.2.1 != b.2.1 then decide (a.2.1 < b.2.1) else decide (a.2.2 < b.2.2)
theorem lt_iff (a b : Ed) : lt a b = true ↔ a.1 < b.1 ∨ a.1 = b.1 ∧ (a.2.1 < b.2.1 ∨ a.2.1 = b.2.1 ∧ a.2.2 < b.2.2) := by
  unfold lt
  by_cases h1 : a.1 = b.1
  · by_cases h2 : a.2.1 = b.2.1 <;> simp [h1, h2]
  · simp [h1]
theorem lt_irrefl (a : Ed) : lt a a = false := by
  cases h : lt a a with
  | false => rfl
  | true => rw [lt_iff] at h; omega
theorem lt_trans {a b c : Ed} (h1 : lt a b = true) (h2 : lt b c = true) : lt a c = true := by
  rw [lt_iff] at *; omega
theorem lt_asymm {a b : Ed} (h : lt a b = true) : lt b a = false := by
  cases h2 : lt b a with
  | false => rfl
  | true => rw [lt_iff] at h h2; omega
theorem eq_of_not {a b : Ed} (h1 : lt a b = false) (h2 : lt b a = false) : a = b := by
  have h3 : ¬ lt a b = true := by rw [h1]; simp
  have h4 : ¬ lt b a = true := by rw [h2]; simp
  rw [lt_iff] at h3 h4
  obtain ⟨x, y, z⟩ := a
  obtain ⟨u, v, w⟩ := b
  simp only at h3 h4
  have e1 : x = u := by omega
  have e2 : y = v := by omega
  have e3 : z = w := by omega
  rw [e1, e2, e3]
/-- Edges in order, each once. -/
def Str : List Ed → Prop
  | [] => True
  | [_] => True
  | a :: b :: r => lt a b = true ∧ Str (b :: r)
theorem Str.tail {a : Ed} {r : List Ed} (h : Str (a :: r)) : Str r := by
  cases r with
  | nil => trivial
  | cons b s => exact h.2
theorem Str.head {a : Ed} {r : List Ed} (h : Str (a :: r)) : ∀ x ∈ r, lt a x = true := by
  induction r generalizing a with
  | nil => intro x hx; simp at hx
  | cons b s ih =>
    intro x hx
    rcases List.mem_cons.1 hx with rfl | hx
    · exact h.1
    · exact lt_trans h.1 (ih h.2 x hx)
theorem Str.cons {a : Ed} {r : List Ed} (h : Str r) (h2 : ∀ x ∈ r, lt a x = true) : Str (a :: r) := by
  cases r with
  | nil => trivial
  | cons b s => exact ⟨h2 b List.mem_cons_self, h⟩
theorem Str.snoc {l : List Ed} {x : Ed} (h : Str l) (h2 : ∀ y ∈ l, lt y x = true) : Str (l ++ [x]) := by
  induction l with
  | nil => trivial
  | cons a r ih =>
    refine Str.cons (ih h.tail fun y hy => h2 y (List.mem_cons_of_mem _ hy)) fun y hy => ?_
    rcases List.mem_append.1 hy with hy | hy
    · exact h.head y hy
    · rw [List.mem_singleton.1 hy]; exact h2 a List.mem_cons_self
/-- Two such lists of the same edges are one. -/
theorem Str.unique {l m : List Ed} (hl : Str l) (hm : Str m) (h : ∀ x, x ∈ l ↔ x ∈ m) : l = m := by
  induction l generalizing m with
  | nil =>
    cases m with
    | nil => rfl
    | cons b s => exact absurd ((h b).2 List.mem_cons_self) (by simp)
  | cons a r ih =>
    cases m with
    | nil => exact absurd ((h a).1 List.mem_cons_self) (by simp)
    | cons b s =>
      have e : a = b := by
        rcases List.mem_cons.1 ((h a).1 List.mem_cons_self) with e | ha
        · exact e
        · rcases List.mem_cons.1 ((h b).2 List.mem_cons_self) with e | hb
          · exact e.symm
          · have h1 := hm.head a ha
            have h2 := hl.head b hb
            rw [lt_asymm h1] at h2
            cases h2
      subst e
      congr 1
      refine ih hl.tail hm.tail fun x => ⟨fun hx => ?_, fun hx => ?_⟩
      · rcases List.mem_cons.1 ((h x).1 (List.mem_cons_of_mem _ hx)) with e | hx2
        · subst e; have h1 := hl.head x hx; rw [lt_irrefl] at h1; cases h1
        · exact hx2
      · rcases List.mem_cons.1 ((h x).2 (List.mem_cons_of_mem _ hx)) with e | hx2
        · subst e; have h1 := hm.head x hx; rw [lt_irrefl] at h1; cases h1
        · exact hx2
/-- An edge goes to its place. -/
def ins (x : Ed) : List Ed → List Ed
  | [] => [x]
  | a :: r => if lt x a then x :: a :: r else if lt a x then a :: ins x r else a :: r
theorem ins_mem (x y : Ed) (l : List Ed) : y ∈ ins x l ↔ y = x ∨ y ∈ l := by
  induction l with
  | nil => simp [ins]
  | cons a r ih =>
    unfold ins
    cases h1 : lt x a with
    | true => simp
    | false =>
      cases h2 : lt a x with
      | true =>
        simp only [Bool.false_eq_true, if_false, if_true, List.mem_cons, ih]
        constructor
        · rintro (h | h | h) <;> simp [h]
        · rintro (h | h | h) <;> simp [h]
      | false =>
        have e := eq_of_not h1 h2
        subst e
        simp
theorem ins_str (x : Ed) (l : List Ed) (h : Str l) : Str (ins x l) := by
  induction l with
  | nil => trivial
  | cons a r ih =>
    unfold ins
    cases h1 : lt x a with
    | true => exact ⟨h1, h⟩
    | false =>
      cases h2 : lt a x with
      | true =>
        simp only [Bool.false_eq_true, if_false, if_true]
        refine Str.cons (ih h.tail) fun y hy => ?_
        rcases (ins_mem x y r).1 hy with rfl | hy
        · exact h2
        · exact h.head y hy
      | false => exact h
/-- The one form of a list of edges. -/
def nf : List Ed → List Ed
  | [] => []
  | a :: r => ins a (nf r)
theorem nf_mem (l : List Ed) (x : Ed) : x ∈ nf l ↔ x ∈ l := by
  induction l with
  | nil => simp [nf]
  | cons a r ih => simp [nf, ins_mem, ih]
theorem nf_str (l : List Ed) : Str (nf l) := by
  induction l with
  | nil => trivial
  | cons a r ih => exact ins_str a _ ih
theorem nf_of {l m : List Ed} (h : Str m) (hm : ∀ x, x ∈ m ↔ x ∈ l) : m = nf l := h.unique (nf_str l) fun x => (hm x).trans (nf_mem l x).symm
theorem nf_congr {l m : List Ed} (h : ∀ x, x ∈ l ↔ x ∈ m) : nf l = nf m := nf_of (nf_str l) fun x => (nf_mem l x).trans (h x)
theorem nf_idem (l : List Ed) : nf (nf l) = nf l := (nf_of (nf_str l) fun _ => Iff.rfl).symm
theorem ins_len (x : Ed) (l : List Ed) : (ins x l).length ≤ l.length + 1 := by
  induction l with
  | nil => simp [ins]
  | cons a r ih =>
    unfold ins
    cases h1 : lt x a <;> cases h2 : lt a x <;> simp <;> omega
theorem nf_len (l : List Ed) : (nf l).length ≤ l.length := by
  induction l with
  | nil => simp [nf]
  | cons a r ih => have := ins_len a (nf r); simp only [nf, List.length_cons]; omega
theorem str_len {m l : List Ed} (h : Str m) (hs : ∀ x ∈ m, x ∈ l) : m.length ≤ l.length := by
  have e : m = nf m := nf_of h fun _ => Iff.rfl
  induction m generalizing l with
  | nil => simp
  | cons a r ih =>
    have ha := hs a List.mem_cons_self
    have h1 : r.length ≤ (l.erase a).length := by
      refine ih h.tail (fun x hx => ?_) (nf_of h.tail fun _ => Iff.rfl)
      have h2 := h.head x hx
      have hne : x ≠ a := fun e => by rw [e, lt_irrefl] at h2; cases h2
      exact (List.mem_erase_of_ne hne).2 (hs x (List.mem_cons_of_mem _ hx))
    rw [List.length_erase_of_mem ha] at h1
    have := List.length_pos_of_mem ha
    simp only [List.length_cons]
    omega
/-- An edge goes behind others, unless the last one is the same. -/
def put (out : List Ed) (e : Ed) : List Ed := if out.getLast? = some e then out else out ++ [e]
theorem put_str {out : List Ed} {e : Ed} (h : Str out) (hle : ∀ x ∈ out, lt e x = false) : Str (put out e) := by
  unfold put
  split
  · exact h
  · rename_i hne
    refine h.snoc fun y hy => ?_
    have hys : ∀ (l : List Ed) (z : Ed), Str l → l.getLast? = some z → ∀ y ∈ l, y = z ∨ lt y z = true := fun l => by
      induction l with
      | nil => intro z _ hz; simp at hz
      | cons a r ih =>
        intro z hs hz y hy
        cases r with
        | nil => simp at hz hy; subst hz; exact .inl hy
        | cons b s =>
          rw [List.getLast?_cons_cons] at hz
          rcases List.mem_cons.1 hy with rfl | hy
          · have hzm := List.mem_of_getLast? hz
            exact .inr (hs.head z hzm)
          · exact ih z hs.tail hz y hy
    cases hl : out.getLast? with
    | none => rw [List.getLast?_eq_none_iff] at hl; subst hl; simp at hy
    | some z =>
      have hzm := List.mem_of_getLast? hl
      have hz1 : lt z e = true := by
        cases h1 : lt z e with
        | true => rfl
        | false => exact absurd (by rw [hl, eq_of_not h1 (hle z hzm)]) hne
      rcases hys out z h hl y hy with rfl | h2
      · exact hz1
      · exact lt_trans h2 hz1
theorem put_mem (out : List Ed) (e x : Ed) : x ∈ put out e ↔ x ∈ out ∨ x = e := by
  unfold put
  split
  · rename_i h
    have := List.mem_of_getLast? h
    constructor
    · exact .inl
    · rintro (h | rfl)
      · exact h
      · exact this
  · simp
/-- Two lists in order are being merged: out has what is behind. -/
structure Mg (a b : List Ed) (i k : Nat) (out : List Ed) : Prop where
  s : Str out
  m : ∀ x, x ∈ out ↔ x ∈ a.take i ∨ x ∈ b.take k
  ha : ∀ x ∈ out, ∀ y ∈ a.drop i, lt y x = false
  hb : ∀ x ∈ out, ∀ y ∈ b.drop k, lt y x = false
theorem Mg.start (a b : List Ed) : Mg a b 0 0 [] := ⟨trivial, fun x => by simp, fun x hx => by simp at hx, fun x hx => by simp at hx⟩
theorem Mg.swap {a b : List Ed} {i k : Nat} {out : List Ed} (h : Mg a b i k out) : Mg b a k i out := ⟨h.s, fun x => (h.m x).trans or_comm, h.hb, h.ha⟩
theorem Mg.left {a b : List Ed} {i k : Nat} {out : List Ed} (h : Mg a b i k out) (hsa : Str a) (hsb : Str b) {e : Ed} (he : a[i]? = some e) (hk : ∀ f, b[k]? = some f → lt f e = false) : Mg a b (i + 1) k (put out e) := by
  obtain ⟨hl, rfl⟩ := List.getElem?_eq_some_iff.1 he
  have hd : a.drop i = a[i] :: a.drop (i + 1) := List.drop_eq_getElem_cons hl
  have hstr : ∀ (l : List Ed) (n : Nat), Str l → Str (l.drop n) := fun l n hs => by
    induction n generalizing l with
    | zero => exact hs
    | succ n ih =>
      cases l with
      | nil => exact hs
      | cons c r => exact ih r hs.tail
  have h1 : Str (a[i] :: a.drop (i + 1)) := by rw [← hd]; exact hstr a i hsa
  have hbk : ∀ y ∈ b.drop k, lt y a[i] = false := fun y hy => by
    cases hb : b.drop k with
    | nil => rw [hb] at hy; simp at hy
    | cons f r =>
      have hkl : k < b.length := by
        rcases Nat.lt_or_ge k b.length with h2 | h2
        · exact h2
        · rw [List.drop_eq_nil_of_le h2] at hb; cases hb
      have hf : f = b[k] := by rw [List.drop_eq_getElem_cons hkl] at hb; exact (List.cons.inj hb).1.symm
      have h2 := hk f (by rw [hf]; exact List.getElem?_eq_getElem hkl)
      have h3 : Str (f :: r) := by rw [← hb]; exact hstr b k hsb
      rw [hb] at hy
      rcases List.mem_cons.1 hy with rfl | hy
      · exact h2
      · cases h4 : lt y a[i] with
        | false => rfl
        | true => have h5 := lt_trans (h3.head y hy) h4; rw [h2] at h5; cases h5
  have hout : ∀ x ∈ out, lt a[i] x = false := fun x hx => h.ha x hx _ (by rw [hd]; exact List.mem_cons_self)
  refine ⟨put_str h.s hout, fun x => ?_, fun x hx y hy => ?_, fun x hx y hy => ?_⟩
  · rw [put_mem, h.m, List.take_succ_eq_append_getElem hl]
    simp only [List.mem_append, List.mem_singleton]
    constructor
    · rintro ((h | h) | h) <;> simp [h]
    · rintro ((h | h) | h) <;> simp [h]
  · rcases (put_mem _ _ _).1 hx with hx | rfl
    · exact h.ha x hx y (by rw [hd]; exact List.mem_cons_of_mem _ hy)
    · exact lt_asymm (h1.head y hy)
  · rcases (put_mem _ _ _).1 hx with hx | rfl
    · exact h.hb x hx y hy
    · exact hbk y hy
/-- Is it a system? -/
def right (n k s : Int) (es : List Ed) : Bool :=
  decide (0 ≤ n ∧ n ≤ 1000 ∧ 1 ≤ k ∧ k ≤ 201 ∧ es.length ≤ 10000) && decide ((n = 0 → s = 0) ∧ (0 < n → 0 ≤ s ∧ s < n)) && es.all fun e => decide (0 ≤ e.1 ∧ e.1 < n ∧ 0 ≤ e.2.2 ∧ e.2.2 < n ∧ 0 ≤ e.2.1 ∧ e.2.1 < k)
/-- An edge turned round. -/
def turn (e : Ed) : Ed := (e.2.2, e.2.1, e.1)
/-- The place of a number in a list; the list's length, if it is not there. -/
def place (c : Int) : List Int → Nat
  | [] => 0
  | a :: r => if a = c then 0 else place c r + 1
theorem place_le (c : Int) (l : List Int) : place c l ≤ l.length := by
  induction l with
  | nil => simp [place]
  | cons a r ih => unfold place; split <;> simp <;> omega
/-- The one form of classes, behind those that were seen. -/
def canonG : List Int → List Int → List Nat
  | _, [] => []
  | seen, c :: r => place c seen :: canonG (if place c seen < seen.length then seen else seen ++ [c]) r
def canon (l : List Int) : List Nat := canonG [] l
def seenG : List Int → List Int → List Int
  | seen, [] => seen
  | seen, c :: r => seenG (if place c seen < seen.length then seen else seen ++ [c]) r
theorem canonG_len (l : List Int) : ∀ seen, (canonG seen l).length = l.length := by
  induction l with
  | nil => intro _; rfl
  | cons c r ih => intro seen; simp [canonG, ih]
theorem canonG_app (a b : List Int) : ∀ seen, canonG seen (a ++ b) = canonG seen a ++ canonG (seenG seen a) b := by
  induction a with
  | nil => intro _; rfl
  | cons c r ih => intro seen; simp only [List.cons_append, canonG, seenG]; rw [ih]
theorem seenG_app (a b : List Int) : ∀ seen, seenG seen (a ++ b) = seenG (seenG seen a) b := by
  induction a with
  | nil => intro _; rfl
  | cons c r ih => intro seen; simp only [List.cons_append, seenG]; rw [ih]
theorem seenG_len (l : List Int) : ∀ seen, (seenG seen l).length ≤ seen.length + l.length := by
  induction l with
  | nil => intro _; simp [seenG]
  | cons c r ih =>
    intro seen
    simp only [seenG]
    have h1 := ih (if place c seen < seen.length then seen else seen ++ [c])
    have h2 : (if place c seen < seen.length then seen else seen ++ [c]).length ≤ seen.length + 1 := by split <;> simp
    simp only [List.length_cons]
    omega
/-- How many classes there are. -/
def top : List Nat → Nat
  | [] => 0
  | k :: r => max (k + 1) (top r)
def together (l : List Int) : Nat := top (canon l)
/-- Are they in the one form? -/
def formG : Nat → List Int → Bool
  | _, [] => true
  | n, c :: r => decide (0 ≤ c ∧ c ≤ n) && formG (if c = (n : Int) then n + 1 else n) r
end Go.Proofs.YthfnikglcpoioaaDoor.Sy
