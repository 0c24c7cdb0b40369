/- The one form of classes: who is together, the form of the form, when two have one. Plain facts. -/
import Derived.Test.YthfnikglcpoioaaDoorSyForms
namespace Go.Proofs.YthfnikglcpoioaaDoor.Sy
theorem place_lt {c : Int} {l : List Int} : place c l < l.length ↔ c ∈ l := by
  induction l with
  | nil => simp [place]
  | cons a r ih =>
    unfold place
    by_cases h : a = c
    · simp [h]
    · rw [if_neg h, List.length_cons, Nat.add_lt_add_iff_right, ih, List.mem_cons]
      exact ⟨fun h1 => .inr h1, fun h1 => h1.elim (fun e => absurd e.symm h) id⟩
theorem place_not {c : Int} {l : List Int} (h : c ∉ l) : place c l = l.length := by
  have h1 := place_le c l
  have h2 : ¬ place c l < l.length := fun h2 => h (place_lt.1 h2)
  omega
theorem place_at {c : Int} {l : List Int} (h : c ∈ l) : l[place c l]? = some c := by
  induction l with
  | nil => simp at h
  | cons a r ih =>
    unfold place
    by_cases h1 : a = c
    · simp [h1]
    · rw [if_neg h1, List.getElem?_cons_succ]
      exact ih ((List.mem_cons.1 h).elim (fun e => absurd e.symm h1) id)
theorem place_inj {a b : Int} {l : List Int} (ha : a ∈ l) (hb : b ∈ l) (h : place a l = place b l) : a = b := by
  have h1 := place_at ha
  rw [h, place_at hb] at h1
  exact (Option.some.inj h1).symm
theorem place_left {c : Int} {a : List Int} (b : List Int) (h : c ∈ a) : place c (a ++ b) = place c a := by
  induction a with
  | nil => simp at h
  | cons x r ih =>
    simp only [List.cons_append, place]
    by_cases h1 : x = c
    · simp [h1]
    · rw [if_neg h1, if_neg h1, ih ((List.mem_cons.1 h).elim (fun e => absurd e.symm h1) id)]
/-- Those seen, with one more. -/
def more (c : Int) (seen : List Int) : List Int := if place c seen < seen.length then seen else seen ++ [c]
theorem more_mem (c : Int) (seen : List Int) : c ∈ more c seen := by
  unfold more
  split
  · next h => exact place_lt.1 h
  · exact List.mem_append_right _ (List.mem_singleton.2 rfl)
theorem more_pre (c : Int) (seen : List Int) : ∃ t, more c seen = seen ++ t := by
  unfold more
  split
  · exact ⟨[], by simp⟩
  · exact ⟨[c], rfl⟩
theorem more_place (c : Int) (seen : List Int) : place c (more c seen) = place c seen := by
  unfold more
  split
  · rfl
  · next h =>
    have h1 : c ∉ seen := fun h1 => h (place_lt.2 h1)
    rw [place_app c seen [c] (fun x hx e => h1 (by rw [← e]; exact hx)), place_not h1]
    simp [place]
theorem seenG_pre (l : List Int) : ∀ seen, ∃ t, seenG seen l = seen ++ t := by
  induction l with
  | nil => intro seen; exact ⟨[], by simp [seenG]⟩
  | cons c r ih =>
    intro seen
    obtain ⟨t, ht⟩ := ih (more c seen)
    obtain ⟨u, hu⟩ := more_pre c seen
    refine ⟨u ++ t, ?_⟩
    show seenG (more c seen) r = _
    rw [ht, hu, List.append_assoc]
theorem seenG_mem (l : List Int) : ∀ seen, ∀ z ∈ l, z ∈ seenG seen l := by
  induction l with
  | nil => intro seen z h; simp at h
  | cons c r ih =>
    intro seen z hz
    show z ∈ seenG (more c seen) r
    rcases List.mem_cons.1 hz with rfl | hz
    · obtain ⟨t, ht⟩ := seenG_pre r (more z seen)
      rw [ht]; exact List.mem_append_left _ (more_mem z seen)
    · exact ih _ z hz
theorem canonG_map (l : List Int) : ∀ seen, canonG seen l = l.map fun z => place z (seenG seen l) := by
  induction l with
  | nil => intro seen; rfl
  | cons c r ih =>
    intro seen
    show place c seen :: canonG (more c seen) r = place c (seenG (more c seen) r) :: r.map fun z => place z (seenG (more c seen) r)
    rw [ih]
    congr 1
    obtain ⟨t, ht⟩ := seenG_pre r (more c seen)
    rw [ht, place_left t (more_mem c seen), more_place]
theorem canon_map (l : List Int) : canon l = l.map fun z => place z (seenG [] l) := canonG_map l []
theorem place_map (f : Int → Int) (c : Int) (l : List Int) (h : ∀ x ∈ l, f x = f c → x = c) : place (f c) (l.map f) = place c l := by
  induction l with
  | nil => rfl
  | cons a r ih =>
    simp only [List.map_cons, place]
    by_cases h1 : a = c
    · simp [h1]
    · rw [if_neg h1, if_neg (fun e => h1 (h a List.mem_cons_self e)), ih fun x hx => h x (List.mem_cons_of_mem _ hx)]
/-- Numbers that are renamed one to one have the same one form. -/
theorem canonG_inj (f : Int → Int) (l : List Int) : ∀ seen, (∀ x ∈ seen ++ l, ∀ y ∈ seen ++ l, f x = f y → x = y) → canonG (seen.map f) (l.map f) = canonG seen l := by
  induction l with
  | nil => intro seen _; rfl
  | cons c r ih =>
    intro seen h
    have hp : place (f c) (seen.map f) = place c seen := place_map f c seen fun x hx e => h x (List.mem_append_left _ hx) c (List.mem_append_right _ List.mem_cons_self) e
    have hm : more (f c) (seen.map f) = (more c seen).map f := by
      unfold more
      rw [hp, List.length_map]
      split
      · rfl
      · simp
    show place (f c) (seen.map f) :: canonG (more (f c) (seen.map f)) (r.map f) = place c seen :: canonG (more c seen) r
    rw [hp, hm, ih (more c seen)]
    have hsub : ∀ x ∈ more c seen ++ r, x ∈ seen ++ c :: r := fun x hx => by
      rcases List.mem_append.1 hx with hx | hx
      · unfold more at hx
        split at hx
        · exact List.mem_append_left _ hx
        · rcases List.mem_append.1 hx with hx | hx
          · exact List.mem_append_left _ hx
          · rw [List.mem_singleton.1 hx]; exact List.mem_append_right _ List.mem_cons_self
      · exact List.mem_append_right _ (List.mem_cons_of_mem _ hx)
    exact fun x hx y hy e => h x (hsub x hx) y (hsub y hy) e
theorem canon_inj (f : Int → Int) (l : List Int) (h : ∀ x ∈ l, ∀ y ∈ l, f x = f y → x = y) : canon (l.map f) = canon l := canonG_inj f l [] (by simpa using h)
theorem natI_map (l : List Int) : natI (canon l) = l.map fun z => ((place z (seenG [] l) : Nat) : Int) := by
  rw [canon_map]; simp [natI]
/-- It is its own one form. -/
theorem canon_idem (l : List Int) : canon (natI (canon l)) = canon l := by
  rw [natI_map]
  refine canon_inj _ l fun x hx y hy e => place_inj (seenG_mem l [] x hx) (seenG_mem l [] y hy) (by omega)
/-- It keeps who is together. -/
theorem canon_eq {l : List Int} {i k : Nat} {x y : Int} (hi : l[i]? = some x) (hk : l[k]? = some y) {u v : Int} (hu : (natI (canon l))[i]? = some u) (hv : (natI (canon l))[k]? = some v) : u = v ↔ x = y := by
  rw [natI_map, List.getElem?_map, hi] at hu
  rw [natI_map, List.getElem?_map, hk] at hv
  simp only [Option.map_some, Option.some.injEq] at hu hv
  subst hu; subst hv
  constructor
  · intro e
    exact place_inj (seenG_mem l [] x (List.mem_of_getElem? hi)) (seenG_mem l [] y (List.mem_of_getElem? hk)) (by omega)
  · rintro rfl; rfl
/-- Two lists have one just if they say the same together. -/
theorem canon_iff {a b : List Int} (hl : a.length = b.length) : canon a = canon b ↔ ∀ (i k : Nat) (x y u v : Int), a[i]? = some x → a[k]? = some y → b[i]? = some u → b[k]? = some v → (x = y ↔ u = v) := by
  constructor
  · intro h i k x y u v hx hy hu hv
    have hil := (List.getElem?_eq_some_iff.1 hx).1
    have hkl := (List.getElem?_eq_some_iff.1 hy).1
    have hn : (natI (canon a)).length = a.length := by rw [natI_map, List.length_map]
    obtain ⟨p, hp⟩ : ∃ p, (natI (canon a))[i]? = some p := ⟨_, List.getElem?_eq_getElem (by rw [hn]; exact hil)⟩
    obtain ⟨q, hq⟩ : ∃ q, (natI (canon a))[k]? = some q := ⟨_, List.getElem?_eq_getElem (by rw [hn]; exact hkl)⟩
    exact (canon_eq hx hy hp hq).symm.trans (canon_eq hu hv (by rw [← h]; exact hp) (by rw [← h]; exact hq))
  · intro h
    have hb : b = a.map fun z => (b[place z a]?).getD 0 := by
      apply List.ext_getElem?
      intro i
      by_cases hi : i < a.length
      · have hx : a[i]? = some a[i] := List.getElem?_eq_getElem hi
        have hu : b[i]? = some (b[i]'(by omega)) := List.getElem?_eq_getElem _
        have hm : a[i] ∈ a := List.getElem_mem hi
        have hp := place_at hm
        have hpl : place a[i] a < a.length := place_lt.2 hm
        have hv : b[place a[i] a]? = some (b[place a[i] a]'(by omega)) := List.getElem?_eq_getElem _
        rw [List.getElem?_map, hx, hu]
        simp only [Option.map_some]
        rw [hv]
        have h2 := (h i (place a[i] a) _ _ _ _ hx hp hu hv).1 rfl
        rw [h2]; rfl
      · rw [List.getElem?_eq_none (by omega), List.getElem?_eq_none (by rw [List.length_map]; omega)]
    rw [hb]
    refine (canon_inj _ a fun x hx y hy e => ?_).symm
    have hxl : place x a < b.length := by rw [← hl]; exact place_lt.2 hx
    have hyl : place y a < b.length := by rw [← hl]; exact place_lt.2 hy
    have hu : b[place x a]? = some b[place x a] := List.getElem?_eq_getElem hxl
    have hv : b[place y a]? = some b[place y a] := List.getElem?_eq_getElem hyl
    rw [hu, hv] at e
    exact (h _ _ _ _ _ _ (place_at hx) (place_at hy) hu hv).2 e
theorem formG_canon (l : List Int) : ∀ seen, formG seen.length (natI (canonG seen l)) = true := by
  induction l with
  | nil => intro seen; rfl
  | cons c r ih =>
    intro seen
    have h1 := ih (more c seen)
    show (decide ((0 : Int) ≤ ((place c seen : Nat) : Int) ∧ ((place c seen : Nat) : Int) ≤ (seen.length : Int)) && formG (if ((place c seen : Nat) : Int) = (seen.length : Int) then seen.length + 1 else seen.length) (natI (canonG (more c seen) r))) = true
    have h2 := place_le c seen
    rw [decide_eq_true (by omega), Bool.true_and]
    have h3 : (more c seen).length = if ((place c seen : Nat) : Int) = (seen.length : Int) then seen.length + 1 else seen.length := by
      unfold more
      by_cases e : place c seen < seen.length
      · rw [if_pos e, if_neg (by omega)]
      · rw [if_neg e, if_pos (by omega)]; simp
    rw [← h3]
    exact h1
/-- It is in the one form. -/
theorem classes_canon (l : List Int) (n : Int) (hn : n = (l.length : Int)) : classes n (natI (canon l)) = true := by
  have h1 : (natI (canon l)).length = l.length := by rw [natI_map, List.length_map]
  unfold classes
  rw [h1, hn, decide_eq_true rfl, Bool.true_and]
  exact formG_canon l []
end Go.Proofs.YthfnikglcpoioaaDoor.Sy
