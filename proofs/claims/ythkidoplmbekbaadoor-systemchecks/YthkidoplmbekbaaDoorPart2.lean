/- Texts of this claim, joined: SyOne0, SyNum, BSame, SyCls, SyOut0, SyTab0. -/
import Derived.Test.YthkidoplmbekbaaDoorPart1
import Derived.Maps.OwnSet
import Derived.WalkSmall
import Derived.Test.YthkidoplmbekbaaDoorPart0
import Derived.Deep.QuietTactic
import Derived.BigQuiet
/- The one form of classes: who is together, the form of the form, when two have one. Plain facts. -/
namespace Go.Proofs.YthkidoplmbekbaaDoor.Sy
theorem place_lt {c : Int} {l : List Int} : place c l < l.length ↔ c ∈ l := by
  induction l with
  | nil => simp [place]
  | cons a r ih =>
    unfold place
    by_cases h : a = c
    · simp [h]
    · rw [if_neg h, List.length_cons, Nat.add_lt_add_iff_right, ih, List.mem_cons]
      exact ⟨fun h1 => .inr h1, fun h1 => h1.elim (fun e => absurd e.symm h) id⟩
theorem place_not {c : Int} {l : List Int} (h : c ∉ l) : place c l = l.length := by
  have h1 := place_le c l
  have h2 : ¬ place c l < l.length := fun h2 => h (place_lt.1 h2)
  omega
theorem place_at {c : Int} {l : List Int} (h : c ∈ l) : l[place c l]? = some c := by
  induction l with
  | nil => simp at h
  | cons a r ih =>
    unfold place
    by_cases h1 : a = c
    · simp [h1]
    · rw [if_neg h1, List.getElem?_cons_succ]
      exact ih ((List.mem_cons.1 h).elim (fun e => absurd e.symm h1) id)
theorem place_inj {a b : Int} {l : List Int} (ha : a ∈ l) (hb : b ∈ l) (h : place a l = place b l) : a = b := by
  have h1 := place_at ha
  rw [h, place_at hb] at h1
  exact (Option.some.inj h1).symm
theorem place_left {c : Int} {a : List Int} (b : List Int) (h : c ∈ a) : place c (a ++ b) = place c a := by
  induction a with
  | nil => simp at h
  | cons x r ih =>
    simp only [List.cons_append, place]
    by_cases h1 : x = c
    · simp [h1]
    · rw [if_neg h1, if_neg h1, ih ((List.mem_cons.1 h).elim (fun e => absurd e.symm h1) id)]
/-- Those seen, with one more. -/
def more (c : Int) (seen : List Int) : List Int := if place c seen < seen.length then seen else seen ++ [c]
theorem more_mem (c : Int) (seen : List Int) : c ∈ more c seen := by
  unfold more
  split
  · next h => exact place_lt.1 h
  · exact List.mem_append_right _ (List.mem_singleton.2 rfl)
theorem more_pre (c : Int) (seen : List Int) : ∃ t, more c seen = seen ++ t := by
  unfold more
  split
  · exact ⟨[], by simp⟩
  · exact ⟨[c], rfl⟩
theorem more_place (c : Int) (seen : List Int) : place c (more c seen) = place c seen := by
  unfold more
  split
  · rfl
  · next h =>
    have h1 : c ∉ seen := fun h1 => h (place_lt.2 h1)
    rw [place_app c seen [c] (fun x hx e => h1 (by rw [← e]; exact hx)), place_not h1]
    simp [place]
theorem seenG_pre (l : List Int) : ∀ seen, ∃ t, seenG seen l = seen ++ t := by
  induction l with
  | nil => intro seen; exact ⟨[], by simp [seenG]⟩
  | cons c r ih =>
    intro seen
    obtain ⟨t, ht⟩ := ih (more c seen)
    obtain ⟨u, hu⟩ := more_pre c seen
    refine ⟨u ++ t, ?_⟩
    show seenG (more c seen) r = _
    rw [ht, hu, List.append_assoc]
theorem seenG_mem (l : List Int) : ∀ seen, ∀ z ∈ l, z ∈ seenG seen l := by
  induction l with
  | nil => intro seen z h; simp at h
  | cons c r ih =>
    intro seen z hz
    show z ∈ seenG (more c seen) r
    rcases List.mem_cons.1 hz with rfl | hz
    · obtain ⟨t, ht⟩ := seenG_pre r (more z seen)
      rw [ht]; exact List.mem_append_left _ (more_mem z seen)
    · exact ih _ z hz
theorem canonG_map (l : List Int) : ∀ seen, canonG seen l = l.map fun z => place z (seenG seen l) := by
  induction l with
  | nil => intro seen; rfl
  | cons c r ih =>
    intro seen
    show place c seen :: canonG (more c seen) r = place c (seenG (more c seen) r) :: r.map fun z => place z (seenG (more c seen) r)
    rw [ih]
    congr 1
    obtain ⟨t, ht⟩ := seenG_pre r (more c seen)
    rw [ht, place_left t (more_mem c seen), more_place]
theorem canon_map (l : List Int) : canon l = l.map fun z => place z (seenG [] l) := canonG_map l []
theorem place_map (f : Int → Int) (c : Int) (l : List Int) (h : ∀ x ∈ l, f x = f c → x = c) : place (f c) (l.map f) = place c l := by
  induction l with
  | nil => rfl
  | cons a r ih =>
    simp only [List.map_cons, place]
    by_cases h1 : a = c
    · simp [h1]
    · rw [if_neg h1, if_neg (fun e => h1 (h a List.mem_cons_self e)), ih fun x hx => h x (List.mem_cons_of_mem _ hx)]
/-- Numbers that are renamed one to one have the same one form. -/
theorem canonG_inj (f : Int → Int) (l : List Int) : ∀ seen, (∀ x ∈ seen ++ l, ∀ y ∈ seen ++ l, f x = f y → x = y) → canonG (seen.map f) (l.map f) = canonG seen l := by
  induction l with
  | nil => intro seen _; rfl
  | cons c r ih =>
    intro seen h
    have hp : place (f c) (seen.map f) = place c seen := place_map f c seen fun x hx e => h x (List.mem_append_left _ hx) c (List.mem_append_right _ List.mem_cons_self) e
    have hm : more (f c) (seen.map f) = (more c seen).map f := by
      unfold more
      rw [hp, List.length_map]
      split
      · rfl
      · simp
    show place (f c) (seen.map f) :: canonG (more (f c) (seen.map f)) (r.map f) = place c seen :: canonG (more c seen) r
    rw [hp, hm, ih (more c seen)]
    have hsub : ∀ x ∈ more c seen ++ r, x ∈ seen ++ c :: r := fun x hx => by
      rcases List.mem_append.1 hx with hx | hx
      · unfold more at hx
        split at hx
        · exact List.mem_append_left _ hx
        · rcases List.mem_append.1 hx with hx | hx
          · exact List.mem_append_left _ hx
          · rw [List.mem_singleton.1 hx]; exact List.mem_append_right _ List.mem_cons_self
      · exact List.mem_append_right _ (List.mem_cons_of_mem _ hx)
    exact fun x hx y hy e => h x (hsub x hx) y (hsub y hy) e
theorem canon_inj (f : Int → Int) (l : List Int) (h : ∀ x ∈ l, ∀ y ∈ l, f x = f y → x = y) : canon (l.map f) = canon l := canonG_inj f l [] (by simpa using h)
theorem natI_map (l : List Int) : natI (canon l) = l.map fun z => ((place z (seenG [] l) : Nat) : Int) := by
  rw [canon_map]; simp [natI]
/-- It is its own one form. -/
theorem canon_idem (l : List Int) : canon (natI (canon l)) = canon l := by
  rw [natI_map]
  refine canon_inj _ l fun x hx y hy e => place_inj (seenG_mem l [] x hx) (seenG_mem l [] y hy) (by omega)
/-- It keeps who is together. -/
theorem canon_eq {l : List Int} {i k : Nat} {x y : Int} (hi : l[i]? = some x) (hk : l[k]? = some y) {u v : Int} (hu : (natI (canon l))[i]? = some u) (hv : (natI (canon l))[k]? = some v) : u = v ↔ x = y := by
  rw [natI_map, List.getElem?_map, hi] at hu
  rw [natI_map, List.getElem?_map, hk] at hv
  simp only [Option.map_some, Option.some.injEq] at hu hv
  subst hu; subst hv
  constructor
  · intro e
    exact place_inj (seenG_mem l [] x (List.mem_of_getElem? hi)) (seenG_mem l [] y (List.mem_of_getElem? hk)) (by omega)
  · rintro rfl; rfl
/-- Two lists have one just if they say the same together. -/
theorem canon_iff {a b : List Int} (hl : a.length = b.length) : canon a = canon b ↔ ∀ (i k : Nat) (x y u v : Int), a[i]? = some x → a[k]? = some y → b[i]? = some u → b[k]? = some v → (x = y ↔ u = v) := by
  constructor
  · intro h i k x y u v hx hy hu hv
    have hil := (List.getElem?_eq_some_iff.1 hx).1
    have hkl := (List.getElem?_eq_some_iff.1 hy).1
    have hn : (natI (canon a)).length = a.length := by rw [natI_map, List.length_map]
    obtain ⟨p, hp⟩ : ∃ p, (natI (canon a))[i]? = some p := ⟨_, List.getElem?_eq_getElem (by rw [hn]; exact hil)⟩
    obtain ⟨q, hq⟩ : ∃ q, (natI (canon a))[k]? = some q := ⟨_, List.getElem?_eq_getElem (by rw [hn]; exact hkl)⟩
    exact (canon_eq hx hy hp hq).symm.trans (canon_eq hu hv (by rw [← h]; exact hp) (by rw [← h]; exact hq))
  · intro h
    have hb : b = a.map fun z => (b[place z a]?).getD 0 := by
      apply List.ext_getElem?
      intro i
      by_cases hi : i < a.length
      · have hx : a[i]? = some a[i] := List.getElem?_eq_getElem hi
        have hu : b[i]? = some (b[i]'(by omega)) := List.getElem?_eq_getElem _
        have hm : a[i] ∈ a := List.getElem_mem hi
        have hp := place_at hm
        have hpl : place a[i] a < a.length := place_lt.2 hm
        have hv : b[place a[i] a]? = some (b[place a[i] a]'(by omega)) := List.getElem?_eq_getElem _
        rw [List.getElem?_map, hx, hu]
        simp only [Option.map_some]
        rw [hv]
        have h2 := (h i (place a[i] a) _ _ _ _ hx hp hu hv).1 rfl
        rw [h2]; rfl
      · rw [List.getElem?_eq_none (by omega), List.getElem?_eq_none (by rw [List.length_map]; omega)]
    rw [hb]
    refine (canon_inj _ a fun x hx y hy e => ?_).symm
    have hxl : place x a < b.length := by rw [← hl]; exact place_lt.2 hx
    have hyl : place y a < b.length := by rw [← hl]; exact place_lt.2 hy
    have hu : b[place x a]? = some b[place x a] := List.getElem?_eq_getElem hxl
    have hv : b[place y a]? = some b[place y a] := List.getElem?_eq_getElem hyl
    rw [hu, hv] at e
    exact (h _ _ _ _ _ _ (place_at hx) (place_at hy) hu hv).2 e
theorem formG_canon (l : List Int) : ∀ seen, formG seen.length (natI (canonG seen l)) = true := by
  induction l with
  | nil => intro seen; rfl
  | cons c r ih =>
    intro seen
    have h1 := ih (more c seen)
    show (decide ((0 : Int) ≤ ((place c seen : Nat) : Int) ∧ ((place c seen : Nat) : Int) ≤ (seen.length : Int)) && formG (if ((place c seen : Nat) : Int) = (seen.length : Int) then seen.length + 1 else seen.length) (natI (canonG (more c seen) r))) = true
    have h2 := place_le c seen
    rw [decide_eq_true (by omega), Bool.true_and]
    have h3 : (more c seen).length = if ((place c seen : Nat) : Int) = (seen.length : Int) then seen.length + 1 else seen.length := by
      unfold more
      by_cases e : place c seen < seen.length
      · rw [if_pos e, if_neg (by omega)]
      · rw [if_neg e, if_pos (by omega)]; simp
    rw [← h3]
    exact h1
/-- It is in the one form. -/
theorem classes_canon (l : List Int) (n : Int) (hn : n = (l.length : Int)) : classes n (natI (canon l)) = true := by
  have h1 : (natI (canon l)).length = l.length := by rw [natI_map, List.length_map]
  unfold classes
  rw [h1, hn, decide_eq_true rfl, Bool.true_and]
  exact formG_canon l []
end Go.Proofs.YthkidoplmbekbaaDoor.Sy
/- Contracts of the program's numbered, Canon, Together and Classes. -/
namespace Go.Proofs.YthkidoplmbekbaaDoor
open Go.RowKit Go.Maps
attribute [local go_sem ↓] Go.wp_at_zero Go.wp_at_succ
/-- The map tells each class's place among those that were seen. -/
structure MapI (D : DataW Unit) (ns : List Int) : Prop where
  yes : ∀ (i : Nat) (z : Int), ns[i]? = some z → Maps.has D (.int .i64 z) = true ∧ D.atKey (.int .i64 z) (.lit (.int .i64 0)) = .lit (.int .i64 i)
  no : ∀ z : Int, z ∉ ns → Maps.has D (.int .i64 z) = false
  size : Maps.size D = ns.length
theorem MapI.nil : MapI (.map []) [] := ⟨fun i s h => by simp at h, fun s _ => rfl, rfl⟩
theorem ikey_inj {a b : Int} (h : Lit.int .i64 a = Lit.int .i64 b) : a = b := by injection h
theorem MapI.snoc {D : DataW Unit} {ns : List Int} (h : MapI D ns) (hD : IsMap D) (hT : Tidy D) (s : Int) (hs : s ∉ ns) : MapI (D.put (.int .i64 s) (.lit (.int .i64 ns.length))) (ns ++ [s]) := by
  refine ⟨fun i t ht => ?_, fun t ht => ?_, ?_⟩
  · rcases Nat.lt_or_ge i ns.length with hi | hi
    · rw [List.getElem?_append_left hi] at ht
      have hne : Lit.int .i64 t ≠ Lit.int .i64 s := fun e => hs (ikey_inj e ▸ List.mem_of_getElem? ht)
      rw [has_put_other hne, atKey_put_other hne]
      exact h.yes i t ht
    · rw [List.getElem?_append_right hi] at ht
      have hi0 : i - ns.length = 0 := by
        have := (List.getElem?_eq_some_iff.1 ht).1
        simp at this; omega
      rw [hi0] at ht
      simp at ht
      subst ht
      have : i = ns.length := by omega
      subst this
      have hk : WideAt.IsKeyLit (.int .i64 s) := trivial
      exact ⟨has_put_same hD hk _, atKey_put_same hD hk _ _⟩
  · have hne : Lit.int .i64 t ≠ Lit.int .i64 s := fun e => ht (by rw [ikey_inj e]; simp)
    rw [has_put_other hne]
    exact h.no t fun hm => ht (by simp [hm])
  · rw [size_put hT, h.no s hs]
    simp [h.size]
theorem Sy.place_mem {z : Int} {l : List Int} : Sy.place z l < l.length ↔ z ∈ l := by
  induction l with
  | nil => simp [Sy.place]
  | cons a r ih =>
    unfold Sy.place
    by_cases h : a = z
    · simp [h]
    · have h2 : z ≠ a := fun e => h e.symm
      simp [h, h2, ← ih]
theorem Sy.place_no {z : Int} {l : List Int} (h : z ∉ l) : Sy.place z l = l.length := by
  have h1 := Sy.place_le z l
  have h2 : ¬ Sy.place z l < l.length := fun e => h (Sy.place_mem.1 e)
  omega
theorem Tryd.lawI7 : Keyed Tryd.prog 3 := int_keyed Tryd.underlying3
theorem Tryd.zeroI7 (w : World) : (zeroValue 3).run Tryd.prog w = .ok (.int .i64 0) w := by kernel_rfl
/-- The list being made, and the map, in memory. -/
structure NumAt (w wr : World) (zs : List Int) (n i : Nat) (D : DataW Unit) (seen : List Int) : Prop where
  arr : Arr 3 w wr (w.heap.size + 1) (natC (Sy.canonG [] (zs.take i)) ++ List.replicate (n - i) (.int .i64 0))
  own : wr.ownsMap (H := Unit) Tryd.prog 3 (plainElem Tryd.prog 3) w.heap.size seen.length D
  map : MapI D seen
theorem Sy.top_canonG (l : List Int) : ∀ seen : List Int, max seen.length (Sy.top (Sy.canonG seen l)) = (Sy.seenG seen l).length := by
  induction l with
  | nil => intro seen; simp [Sy.canonG, Sy.top, Sy.seenG]
  | cons c r ih =>
    intro seen
    simp only [Sy.canonG, Sy.top, Sy.seenG]
    rw [← ih]
    have h1 := Sy.place_le c seen
    split <;> (try simp) <;> omega
theorem Sy.together_eq (zs : List Int) : Sy.together zs = (Sy.seenG [] zs).length := by
  rw [← Sy.top_canonG zs []]
  simp [Sy.together, Sy.canon]
theorem arr_mapTurn {w wr w3 : World} {gi : Nat} {vs : List Value} {bm : Nat} (h : Arr 3 w wr gi vs) (hg : wr.grownBy w3 (some bm)) (hb : w.heap.size ≤ bm) (hne : bm ≠ gi) : Arr 3 w w3 gi vs :=
  h.kept (Kept.of_grown hg) fun b e => by injection e with e; subst e; exact ⟨hb, hne⟩
theorem num_step {w w3 w4 : World} {zs : List Int} {n i k : Nat} {D2 : DataW Unit} {seen s2 : List Int} {z : Int} (hz : zs[i]? = some z) (hi : i < n) (hn : n = zs.length) (hs : seen = Sy.seenG [] (zs.take i)) (hA : Arr 3 w w3 (w.heap.size + 1) (natC (Sy.canonG [] (zs.take i)) ++ List.replicate (n - i) (.int .i64 0)))
    (hk : k = Sy.place z seen) (h4 : w4 = w3.setCell ⟨w.heap.size + 1, i, none⟩ (.int .i64 (k : Int))) (ho : w3.ownsMap (H := Unit) Tryd.prog 3 (plainElem Tryd.prog 3) w.heap.size s2.length D2) (hm : MapI D2 s2) :
    NumAt w w4 zs n (i + 1) D2 s2 := by
  subst h4
  have hC : (Sy.canonG [] (zs.take i)).length = i := by rw [Sy.canonG_len, List.length_take]; omega
  have hAs := hA.set i (.int .i64 (k : Int))
  rw [natC_step _ n i k hC hi] at hAs
  refine ⟨?_, ho.setCell (by simp) _, hm⟩
  rw [Sy.canon_step hz, ← hs, ← hk]
  exact hAs
set_option maxRecDepth 100000 in
set_option maxHeartbeats 8000000 in
theorem numbered_any (v : Value) (zs : List Int) (w : World) (hv : HasI w v zs) (hn : zs.length ≤ 100000) (hw : I64s zs) :
    Calls Tryd.prog 40 #[v] w fun e w' => ∃ u, e = .returned (.tuple #[u, .int .i64 (Sy.together zs : Nat)]) ∧ OwnI w' w.heap.size u (natI (Sy.canon zs)) ∧ Below w.heap.size w w' := by
  obtain ⟨ao, cap, rfl, hcs⟩ := hv
  obtain ⟨n, hN⟩ : ∃ n, n = zs.length := ⟨_, rfl⟩
  have HH : Hid _ := And.intro hcs (And.intro hN hw)
  rw [← hN] at hn ⊢
  clear hcs hN hw
  have hmm := @run_makeMap Tryd.prog
  have hmk := makeI n (by omega) (w.alloc (.map #[] 0))
  go_enter Tryd.func40, Tryd.ntmps40
  go_wp2_with fail
  clear hmk hmm
  go_loopg [16] n (fun q iv wr => ∃ (i : Nat) (D : DataW Unit) (seen : List Int), q = n - i ∧ i ≤ n ∧ iv = .int .i64 i ∧ seen = Sy.seenG [] (zs.take i) ∧ NumAt w wr zs n i D seen)
  case atStart =>
    refine ⟨0, .map [], [], rfl, Nat.zero_le _, rfl, by simp [Sy.seenG], ?_, ?_, MapI.nil⟩
    · have h1 := arr_new 3 (.int .i64 0) rfl n (w.alloc (.map #[] 0))
      have h2 := h1.back ((Below.refl _ w).alloc (Nat.le_refl _) _)
      simpa [Sy.canonG, natC] using h2
    · have := World.ownsMap_made (H := Unit) w Tryd.prog 3 (plainElem Tryd.prog 3)
      exact this.alloc _
  case round =>
    obtain ⟨i, D, seen, rfl, hi, rfl, hseen, hM⟩ := hrel
    by_cases hlt : i < n
    · obtain ⟨z, hz⟩ : ∃ z, zs[i]? = some z := ⟨zs[i]'(by have := HH.out.2.1; omega), List.getElem?_eq_getElem _⟩
      obtain ⟨a, rfl, c0⟩ := HH.out.1 i z hz
      have cz : wr.cell? (a.add i) = some (.int .i64 z) := (hM.arr.bl.cell (World.block_lt_of_cell? w _ c0)).trans c0
      have hzw : (Lit.int .i64 z).wf = true := HH.out.2.2 z (List.mem_of_getElem? hz)
      have hkey : keyOf Tryd.prog 3 (.int .i64 z) = some (.int .i64 z) := keyOf_int_mk Tryd.underlying3 hzw
      have q0 : (0 : Int) ≤ (i : Int) := by omega
      have q1 : (i : Int) < (n : Int) := by omega
      have hsl : seen.length ≤ i := by
        have := Sy.seenG_len (zs.take i) []
        rw [← hseen, List.length_take] at this
        simp at this; omega
      have hix : (natC (Sy.canonG [] (zs.take i)) ++ List.replicate (n - i) (Value.int .i64 0))[i]? = some (.int .i64 0) := by
        rw [List.getElem?_append_right (by rw [natC_len, Sy.canonG_len, List.length_take]; omega), natC_len, Sy.canonG_len, List.length_take, List.getElem?_replicate, if_pos (by have := HH.out.2.1; omega)]
      have hst := Sy.seen_step hz
      rw [← hseen] at hst
      by_cases hin : z ∈ seen
      · obtain ⟨hy1, hy2⟩ := hM.map.yes _ z (Sy.place_at hin)
        have cx := hM.arr.cell hix
        have cf := hM.arr.free i
        rw [if_pos (Sy.place_mem.2 hin)] at hst
        have HO : Hid (wr.ownsMap (H := Unit) Tryd.prog 3 (plainElem Tryd.prog 3) w.heap.size seen.length D) := hM.own
        have HY : Hid (D.atKey (.int .i64 z) (.lit (.int .i64 0)) = .lit (.int .i64 (Sy.place z seen : Nat))) := hy2
        have HM : Hid _ := And.intro hM (And.intro hseen (And.intro hz hst))
        clear hM hseen hz hst hy2 hix c0 hin hzw
        obtain ⟨k, hk⟩ : ∃ k, k = Sy.place z seen := ⟨_, rfl⟩
        rw [← hk] at HY
        have HK : Hid (k = Sy.place z seen) := hk
        clear hk
        go_wp2_with (at_lookup; refine wpList_lookup_own_ok_int _ rfl _ _ 85 rfl 3 3 .i64 Tryd.lawI7 Tryd.underlying85 Tryd.underlying3 (Tryd.zeroI7 _) w.heap.size seen.length D rfl HO.out _ _ rfl hkey ?_; rw [hy1]; intro c hat hwc; obtain rfl : c = (k : Int) := (by rw [HY.out] at hat; injection hat with hat; injection hat with _ hat; exact hat.symm); clear hat hwc)
        go_roundg (n - (i + 1))
        case measure => omega
        case rel =>
          exact ⟨i + 1, D, seen, rfl, by omega, by go_num, HM.out.2.2.2.symm, num_step HM.out.2.2.1 hlt HH.out.2.1 HM.out.2.1 HM.out.1.arr HK.out rfl HO.out HM.out.1.map⟩
      · have hy1 := hM.map.no z hin
        rw [if_neg fun e => hin (Sy.place_mem.1 e)] at hst
        have HO : Hid (wr.ownsMap (H := Unit) Tryd.prog 3 (plainElem Tryd.prog 3) w.heap.size seen.length D) := hM.own
        have hml : seen.length < maxLen := by unfold maxLen; omega
        have hsz : Maps.size D = seen.length := hM.map.size
        obtain ⟨m, hm⟩ : ∃ m, m = seen.length := ⟨_, rfl⟩
        have HM : Hid _ := And.intro hM (And.intro hseen (And.intro hz (And.intro hst (And.intro hin (And.intro hix hm)))))
        rw [← hm] at HO hml hsz hsl
        have hwf : (Lit.int .i64 (m : Int)).wf = true := WalkArith.wf_i64 (by omega)
        have HS : Hid _ := hsz
        clear hM hseen hz hst hix c0 hin hzw hm hsz
        go_wp2_with (first
          | (at_lookup; refine wpList_lookup_own_ok_int _ rfl _ _ 85 rfl 3 3 .i64 Tryd.lawI7 Tryd.underlying85 Tryd.underlying3 (Tryd.zeroI7 _) w.heap.size m D rfl HO.out _ _ rfl hkey ?_; rw [hy1]; intro c hat hwc; clear hat hwc)
          | (at_len; refine wpList_len_own _ rfl _ 85 rfl 3 3 Tryd.underlying85 _ w.heap.size m D rfl HO.out ?_; rw [HS.out])
          | (at_mapUpdate; refine wpList_mapUpdate_own _ rfl _ _ _ 85 rfl 3 3 Tryd.lawI7 Tryd.underlying85 _ w.heap.size m D rfl HO.out hml _ _ _ rfl rfl hkey _ [] (plainElem_int Tryd.underlying3 hwf) ?_; intro w3 hown3 hgrow3; have hA3 := arr_mapTurn HM.out.1.arr hgrow3 (Nat.le_refl _) (by omega); have cx := hA3.cell HM.out.2.2.2.2.2.1; have cf := hA3.free i; have H3 : Hid _ := And.intro hA3 hown3; clear hA3 hown3 hgrow3))
        go_roundg (n - (i + 1))
        case measure => omega
        case rel =>
          have hm := HM.out.2.2.2.2.2.2
          have h3 := H3.out.2
          have hmp := HM.out.1.map.snoc HM.out.1.own.isMap (HM.out.1.own.tidy Tryd.lawI7) z HM.out.2.2.2.2.1
          rw [← hm] at hmp
          have el : m + 1 = (seen ++ [z]).length := by simp [hm]
          rw [el] at h3
          exact ⟨i + 1, _, seen ++ [z], rfl, by omega, by go_num, HM.out.2.2.2.1.symm, num_step HM.out.2.2.1 hlt HH.out.2.1 HM.out.2.1 H3.out.1 (by rw [Sy.place_no HM.out.2.2.2.2.1, hm]) rfl h3 hmp⟩
    · obtain rfl : i = n := by omega
      have hsz : Maps.size D = seen.length := hM.map.size
      have HO : Hid (wr.ownsMap (H := Unit) Tryd.prog 3 (plainElem Tryd.prog 3) w.heap.size seen.length D) := hM.own
      have HM : Hid _ := And.intro hM (And.intro hseen hsz)
      obtain ⟨m, hm⟩ : ∃ m, m = seen.length := ⟨_, rfl⟩
      rw [← hm] at HO
      have HS : Hid (Maps.size D = m) := hsz.trans hm.symm
      have HN : Hid _ := hm
      clear hM hseen hsz hm
      go_wp2_with (at_len; refine wpList_len_own _ rfl _ 85 rfl 3 3 Tryd.underlying85 _ w.heap.size m D rfl HO.out ?_; rw [HS.out])
      go_ret2
      have hA := HM.out.1.arr
      have hl : i = zs.length := HH.out.2.1
      rw [hl, Nat.sub_self, List.replicate_zero, List.append_nil, List.take_length] at hA
      have how := (hA.own (by rw [natC_len, Sy.canonG_len]; unfold maxLen; omega))
      rw [natC_len, Sy.canonG_len] at how
      refine ⟨.slice (some ⟨w.heap.size + 1, 0, none⟩) zs.length zs.length, by rw [HN.out, HM.out.2.1, hl, List.take_length, ← Sy.together_eq]; rfl, ?_, HM.out.1.arr.bl⟩
      unfold OwnI
      rw [iC_nat, show (natI (Sy.canon zs)).length = zs.length by simp [natI, Sy.canon, Sy.canonG_len]]
      exact how
end Go.Proofs.YthkidoplmbekbaaDoor
/- Contract of the book's SameInts. -/
namespace Go.Proofs.YthkidoplmbekbaaDoor
open Go.RowKit Go.Maps
theorem take_both {α : Type} {a b : List α} {j : Nat} {x : α} (ha : a[j]? = some x) (hb : b[j]? = some x) (h : a.take j = b.take j) : a.take (j + 1) = b.take (j + 1) := by
  rw [take_succ_of ha, take_succ_of hb, h]
theorem eq_len {α : Type} {a b : List α} {n : Nat} (ha : a.length = n) (hb : b.length = n) (h : a.take n = b.take n) : a = b := by
  rw [List.take_of_length_le (by omega), List.take_of_length_le (by omega)] at h
  exact h
set_option maxRecDepth 100000 in
set_option maxHeartbeats 1000000 in
theorem sameInts_b (va vb : Value) (za zb : List Int) (w : World) (hn : za.length ≤ 1000000000000000) (hm : zb.length ≤ 1000000000000000) (hA : HasI w va za) (hB : HasI w vb zb) :
    Calls Tryd.prog 17 #[va, vb] w fun e w' => e = .returned (.bool (za == zb)) ∧ Below w.heap.size w w' := by
  obtain ⟨ao, cap, rfl, hcA⟩ := hA
  obtain ⟨ao', cap', rfl, hcB⟩ := hB
  by_cases hlen : za.length = zb.length
  · obtain ⟨n, hN⟩ : ∃ n, n = za.length := ⟨_, rfl⟩
    have HH : Hid _ := And.intro hcA (And.intro hcB (And.intro hN (hN.trans hlen)))
    rw [← hlen, ← hN]
    rw [← hN] at hn
    clear hcA hcB hN hlen hm
    have q : ((n : Int) != (n : Int)) = false := by simp
    go_enter Tryd.func17, Tryd.ntmps17
    go_wp2
    go_loopg [5] n (fun g i wr => ∃ j m : Nat, g = n - j ∧ j ≤ n ∧ i = .int .i64 j ∧ za.take j = zb.take j ∧ wr = w.drewN m)
    case atStart => exact ⟨0, 0, rfl, Nat.zero_le _, rfl, rfl, rfl⟩
    case round =>
      obtain ⟨j, m, rfl, hj, rfl, heq, rfl⟩ := hrel
      have HQ : Hid _ := heq
      clear heq
      by_cases hlt : j < n
      · obtain ⟨x, hx⟩ : ∃ z, za[j]? = some z := ⟨za[j]'(by have := HH.out.2.2.1; omega), List.getElem?_eq_getElem _⟩
        obtain ⟨y, hy⟩ : ∃ z, zb[j]? = some z := ⟨zb[j]'(by have := HH.out.2.2.2; omega), List.getElem?_eq_getElem _⟩
        obtain ⟨a, rfl, c0⟩ := HH.out.1 j x hx
        obtain ⟨b, rfl, d0⟩ := HH.out.2.1 j y hy
        have q0 : (0 : Int) ≤ (j : Int) := by omega
        have q1 : (j : Int) < (n : Int) := by omega
        by_cases hxy : x = y
        · subst hxy
          have HT : Hid _ := take_both hx hy HQ.out
          clear hx hy
          go_wp2_with fail
          go_quiet (fail)
          go_wp2
          go_roundg (n - (j + 1))
          case measure => omega
          case rel => exact ⟨j + 1, _, rfl, by omega, by go_num, HT.out, by first | rfl | exact World.drewN_drewN _ _ _⟩
        · have e1 : (x == y) = false := by simpa using hxy
          have HF : Hid ((za == zb) = false) := (by
            rw [beq_eq_false_iff_ne]
            rintro rfl
            rw [hx] at hy
            exact hxy (Option.some.inj hy) : (za == zb) = false)
          clear hx hy hxy
          go_wp2_with fail
          go_quiet (fail)
          go_wp2
          go_ret
          exact ⟨by rw [HF.out]; rfl, by first | exact below_drewN (below_drewN (Below.refl _ _) _) _ | exact below_drewN (Below.refl _ _) _⟩
      · obtain rfl : j = n := by omega
        have q1 : ¬ (j : Int) < (j : Int) := by omega
        have HF : Hid ((za == zb) = true) := (by
          rw [beq_iff_eq]
          exact eq_len HH.out.2.2.1.symm HH.out.2.2.2.symm HQ.out : (za == zb) = true)
        go_wp2
        go_ret
        exact ⟨by rw [HF.out]; rfl, below_drewN (Below.refl _ _) _⟩
  · have q : ((za.length : Int) != (zb.length : Int)) = true := by rw [bne_iff_ne]; omega
    have HF : Hid ((za == zb) = false) := (by rw [beq_eq_false_iff_ne]; rintro rfl; exact hlen rfl : (za == zb) = false)
    clear hcA hcB hlen
    go_enter Tryd.func17, Tryd.ntmps17
    go_wp2
    go_ret
    exact ⟨by rw [HF.out]; rfl, Below.refl _ _⟩
end Go.Proofs.YthkidoplmbekbaaDoor
/- Contracts of slices.Equal of numbers, and of the program's Canon, Together and Classes. -/
namespace Go.Proofs.YthkidoplmbekbaaDoor
open Go.RowKit Go.Maps
set_option maxRecDepth 100000 in
set_option maxHeartbeats 1000000 in
theorem slEqual_any (va vb : Value) (za zb : List Int) (w : World) (hn : za.length ≤ 1000000000000000) (hm : zb.length ≤ 1000000000000000) (hA : HasI w va za) (hB : HasI w vb zb) :
    Calls Tryd.prog 41 #[va, vb] w fun e w' => e = .returned (.bool (za == zb)) ∧ Below w.heap.size w w' := by
  obtain ⟨ao, cap, rfl, hcA⟩ := hA
  obtain ⟨ao', cap', rfl, hcB⟩ := hB
  by_cases hlen : za.length = zb.length
  · obtain ⟨n, hN⟩ : ∃ n, n = za.length := ⟨_, rfl⟩
    have HH : Hid _ := And.intro hcA (And.intro hcB (And.intro hN (hN.trans hlen)))
    rw [← hlen, ← hN]
    rw [← hN] at hn
    clear hcA hcB hN hlen hm
    have q : ((n : Int) != (n : Int)) = false := by simp
    go_enter Tryd.func41, Tryd.ntmps41
    go_wp2
    go_loopg [13] n (fun g i wr => ∃ j m : Nat, g = n - j ∧ j ≤ n ∧ i = .int .i64 j ∧ za.take j = zb.take j ∧ wr = w.drewN m)
    case atStart => exact ⟨0, 0, rfl, Nat.zero_le _, rfl, rfl, rfl⟩
    case round =>
      obtain ⟨j, m, rfl, hj, rfl, heq, rfl⟩ := hrel
      have HQ : Hid _ := heq
      clear heq
      by_cases hlt : j < n
      · obtain ⟨x, hx⟩ : ∃ z, za[j]? = some z := ⟨za[j]'(by have := HH.out.2.2.1; omega), List.getElem?_eq_getElem _⟩
        obtain ⟨y, hy⟩ : ∃ z, zb[j]? = some z := ⟨zb[j]'(by have := HH.out.2.2.2; omega), List.getElem?_eq_getElem _⟩
        obtain ⟨a, rfl, c0⟩ := HH.out.1 j x hx
        obtain ⟨b, rfl, d0⟩ := HH.out.2.1 j y hy
        have q0 : (0 : Int) ≤ (j : Int) := by omega
        have q1 : (j : Int) < (n : Int) := by omega
        by_cases hxy : x = y
        · subst hxy
          have HT : Hid _ := take_both hx hy HQ.out
          clear hx hy
          go_wp2_with fail
          go_quiet (fail)
          go_wp2
          go_roundg (n - (j + 1))
          case measure => omega
          case rel => exact ⟨j + 1, _, rfl, by omega, by go_num, HT.out, by first | rfl | exact World.drewN_drewN _ _ _⟩
        · have e1 : (x == y) = false := by simpa using hxy
          have HF : Hid ((za == zb) = false) := (by
            rw [beq_eq_false_iff_ne]
            rintro rfl
            rw [hx] at hy
            exact hxy (Option.some.inj hy) : (za == zb) = false)
          clear hx hy hxy
          go_wp2_with fail
          go_quiet (fail)
          go_wp2
          go_ret
          exact ⟨by rw [HF.out]; rfl, by first | exact below_drewN (below_drewN (Below.refl _ _) _) _ | exact below_drewN (Below.refl _ _) _⟩
      · obtain rfl : j = n := by omega
        have q1 : ¬ (j : Int) < (j : Int) := by omega
        have HF : Hid ((za == zb) = true) := (by
          rw [beq_iff_eq]
          exact eq_len HH.out.2.2.1.symm HH.out.2.2.2.symm HQ.out : (za == zb) = true)
        go_wp2
        go_ret
        exact ⟨by rw [HF.out]; rfl, below_drewN (Below.refl _ _) _⟩
  · have q : ((za.length : Int) != (zb.length : Int)) = true := by rw [bne_iff_ne]; omega
    have HF : Hid ((za == zb) = false) := (by rw [beq_eq_false_iff_ne]; rintro rfl; exact hlen rfl : (za == zb) = false)
    clear hcA hcB hlen
    go_enter Tryd.func41, Tryd.ntmps41
    go_wp2
    go_ret
    exact ⟨by rw [HF.out]; rfl, Below.refl _ _⟩
namespace Sy
theorem natI_range_len (k : Nat) : (natI (List.range k)).length = k := by simp [natI]
theorem place_range (k : Nat) (c : Int) (h0 : 0 ≤ c) (h1 : c ≤ k) : ((place c (natI (List.range k)) : Nat) : Int) = c := by
  obtain ⟨m, rfl⟩ : ∃ m : Nat, c = (m : Int) := ⟨c.toNat, by omega⟩
  by_cases h : m < k
  · have hm : (m : Int) ∈ natI (List.range k) := by
      unfold natI
      exact List.mem_map.2 ⟨m, List.mem_range.2 h, rfl⟩
    have h2 := place_at hm
    obtain ⟨hl, h3⟩ := List.getElem?_eq_some_iff.1 h2
    simp only [natI, List.getElem_map, List.getElem_range] at h3
    exact h3
  · obtain rfl : m = k := by omega
    rw [place_not, natI_range_len]
    intro hm
    unfold natI at hm
    obtain ⟨x, hx, e⟩ := List.mem_map.1 hm
    have := List.mem_range.1 hx
    omega
theorem formG_own (l : List Int) : ∀ k : Nat, formG k l = true → natI (canonG (natI (List.range k)) l) = l := by
  induction l with
  | nil => intro k _; rfl
  | cons c r ih =>
    intro k h
    simp only [formG, Bool.and_eq_true, decide_eq_true_eq] at h
    obtain ⟨⟨h0, h1⟩, h2⟩ := h
    have hp := place_range k c h0 h1
    show ((place c (natI (List.range k)) : Nat) : Int) :: natI (canonG (if place c (natI (List.range k)) < (natI (List.range k)).length then natI (List.range k) else natI (List.range k) ++ [c]) r) = c :: r
    rw [hp]
    congr 1
    rw [natI_range_len]
    by_cases e : c = (k : Int)
    · rw [if_pos e] at h2
      rw [if_neg (by omega)]
      have h3 := ih (k + 1) h2
      rw [List.range_succ] at h3
      subst e
      simpa [natI] using h3
    · rw [if_neg e] at h2
      rw [if_pos (by omega)]
      exact ih k h2
theorem formG_iff (l : List Int) : formG 0 l = (l == natI (canon l)) := by
  cases h : formG 0 l with
  | true =>
    have h1 := formG_own l 0 h
    symm
    rw [beq_iff_eq]
    exact h1.symm
  | false =>
    symm
    rw [beq_eq_false_iff_ne]
    intro e
    have h1 := formG_canon l []
    rw [show canonG [] l = canon l from rfl, ← e] at h1
    rw [show ([] : List Int).length = 0 from rfl, h] at h1
    cases h1
end Sy
set_option maxRecDepth 100000 in
theorem pCanon : PCanon := fun v zs W hv hn hw => by
  have hC := numbered_any v zs W hv hn hw
  go_enter Tryd.func16, Tryd.ntmps16
  go_wp2_with (go_at_call 40; refine hC.mono ?_; rintro r w1 ⟨u, rfl, hO, hb⟩; have HO : Hid _ := And.intro hO hb; clear hO hb)
  go_ret
  exact ⟨u, rfl, HO.out.1, HO.out.2⟩
set_option maxRecDepth 100000 in
theorem pTogether : PTogether := fun v zs W hv hn hw => by
  have hC := numbered_any v zs W hv hn hw
  go_enter Tryd.func21, Tryd.ntmps21
  go_wp2_with (go_at_call 40; refine hC.mono ?_; rintro r w1 ⟨u, rfl, hO, hb⟩; have HO : Hid _ := And.intro hO hb; clear hO hb)
  go_ret
  exact ⟨rfl, HO.out.2⟩
set_option maxRecDepth 100000 in
set_option maxHeartbeats 1000000 in
theorem pClasses : PClasses := fun n k s ve v zs W hv hn hw => by
  unfold sysV Sy.classes
  rw [Sy.formG_iff]
  have hv0 := hv
  obtain ⟨ao, cap, rfl, _⟩ := hv0
  obtain ⟨m, hm⟩ : ∃ m, m = zs.length := ⟨_, rfl⟩
  have hl : (natI (Sy.canon zs)).length = zs.length := by simp [natI, Sy.canon, Sy.canonG_len]
  have hC : ∀ W', Below W.heap.size W W' → Calls Tryd.prog 16 #[.slice ao zs.length cap] W' fun r w' => ∃ u, r = .returned u ∧ OwnI w' W'.heap.size u (natI (Sy.canon zs)) ∧ Below W'.heap.size W' w' := fun W' hb => pCanon _ zs W' (hv.below hb) hn hw
  have hE : ∀ W' u B, Below W.heap.size W W' → OwnI W' B u (natI (Sy.canon zs)) → Calls Tryd.prog 41 #[.slice ao zs.length cap, u] W' fun r w' => r = .returned (.bool (zs == natI (Sy.canon zs))) ∧ Below W'.heap.size W' w' := fun W' u B hb hu => slEqual_any _ _ _ _ W' (by omega) (by omega) (hv.below hb) hu.has
  have HC : Hid _ := hC
  have HE : Hid _ := hE
  rw [← hm] at HC HE ⊢
  generalize (zs == natI (Sy.canon zs)) = ans at HE ⊢
  clear hC hE hl hm hv hw hn
  by_cases he : (m : Int) = n
  · have e1 : ((m : Int) == n) = true := by simp [he]
    have e2 : decide ((m : Int) = n) = true := by simp [he]
    rw [e2, Bool.true_and]
    clear he e2
    go_enter Tryd.func19, Tryd.ntmps19
    go_wp2_with (first
      | (go_at_call 16; refine (HC.out _ (by repeat (first | exact Below.refl _ _ | assumption | refine Below.drew ?_ | refine Below.setCell ?_ (by simp) _ | refine Below.alloc ?_ (by simp) _))).mono ?_; rintro r w1 ⟨u, rfl, hO, hb⟩; have HO : Hid _ := And.intro hO hb; clear hO hb)
      | (go_at_call 41; refine (HE.out _ u _ (((Below.refl _ W).alloc (Nat.le_refl _) _).trans (HO.out.2.mono (by simp))) HO.out.1).mono ?_; rintro r w2 ⟨rfl, hb2⟩))
    go_ret
    exact ⟨rfl, (((Below.refl _ W).alloc (Nat.le_refl _) _).trans (HO.out.2.mono (by simp))).trans (hb2.mono (by have := HO.out.2.size; simp at this; omega))⟩
  · have e1 : ((m : Int) == n) = false := by simp [he]
    have e2 : decide ((m : Int) = n) = false := by simp [he]
    rw [e2, Bool.false_and]
    clear he e2
    go_enter Tryd.func19, Tryd.ntmps19
    go_wp2
    go_ret
    exact ⟨rfl, (Below.refl _ W).alloc (Nat.le_refl _) _⟩
end Go.Proofs.YthkidoplmbekbaaDoor
/- The steps of a state: plain facts. -/
namespace Go.Proofs.YthkidoplmbekbaaDoor
/-- The steps of a state, in the edges' order. -/
def Sy.steps (es : List Sy.Ed) (i : Int) : List (Int × Int) := (es.filter fun e => e.1 == i).map fun e => (e.2.1, e.2.2)
theorem Sy.steps_snoc (es : List Sy.Ed) (e : Sy.Ed) (i : Int) : Sy.steps (es ++ [e]) i = if e.1 = i then Sy.steps es i ++ [(e.2.1, e.2.2)] else Sy.steps es i := by
  unfold Sy.steps
  rw [List.filter_append, List.map_append]
  by_cases h : e.1 = i <;> simp [h]
theorem Sy.steps_len (es : List Sy.Ed) (i : Int) : (Sy.steps es i).length ≤ es.length := by
  unfold Sy.steps
  rw [List.length_map]
  exact List.length_filter_le _ _
end Go.Proofs.YthkidoplmbekbaaDoor
/- Plain facts on rows of edges in order: how many come ahead of a row, and where a row stands. -/
namespace Go.Proofs.YthkidoplmbekbaaDoor.Sy
/-- How many stand in rows ahead of this one. -/
def cnt (l : List Ed) (r : Int) : Nat := (l.filter fun e => decide (e.1 < r)).length
/-- Rows that do not fall. -/
def Rows (l : List Ed) : Prop := l.Pairwise fun a b => a.1 ≤ b.1
theorem cnt_le (l : List Ed) (r : Int) : cnt l r ≤ l.length := List.length_filter_le _ _
theorem cnt_all {l : List Ed} {r : Int} (h : ∀ e ∈ l, e.1 < r) : cnt l r = l.length := by
  unfold cnt
  rw [List.filter_eq_self.2 fun e he => by simpa using h e he]
theorem cnt_none {l : List Ed} {r : Int} (h : ∀ e ∈ l, ¬ e.1 < r) : cnt l r = 0 := by
  unfold cnt
  rw [List.filter_eq_nil_iff.2 fun e he => by simpa using h e he]
  rfl
theorem cnt_cons (e : Ed) (l : List Ed) (r : Int) : cnt (e :: l) r = (if e.1 < r then 1 else 0) + cnt l r := by
  unfold cnt
  rw [List.filter_cons]
  by_cases h : e.1 < r
  · simp [h]; omega
  · simp [h]
theorem cnt_snoc (l : List Ed) (e : Ed) (r : Int) : cnt (l ++ [e]) r = cnt l r + if e.1 < r then 1 else 0 := by
  unfold cnt
  rw [List.filter_append, List.length_append]
  by_cases h : e.1 < r <;> simp [h]
theorem cnt_mono (l : List Ed) (r : Int) : cnt l r ≤ cnt l (r + 1) := by
  induction l with
  | nil => simp [cnt]
  | cons e t ih =>
    rw [cnt_cons, cnt_cons]
    by_cases h : e.1 < r
    · have h2 : e.1 < r + 1 := by omega
      simp [h, h2]; exact ih
    · by_cases h2 : e.1 < r + 1 <;> simp [h, h2] <;> omega
/-- A row is a piece of the list. -/
theorem row_piece {l : List Ed} (h : Rows l) (i : Int) : l.filter (fun e => e.1 == i) = (l.drop (cnt l i)).take (cnt l (i + 1) - cnt l i) := by
  induction l with
  | nil => simp
  | cons e r ih =>
    obtain ⟨h1, h2⟩ := List.pairwise_cons.1 h
    have ih := ih h2
    rw [cnt_cons, cnt_cons]
    by_cases c1 : e.1 < i
    · have c2 : e.1 < i + 1 := by omega
      have c3 : (e.1 == i) = false := by simp; omega
      rw [List.filter_cons, c3, if_pos c1, if_pos c2, Nat.add_comm 1 (cnt r i), List.drop_succ_cons]
      have e1 : 1 + cnt r (i + 1) - (cnt r i + 1) = cnt r (i + 1) - cnt r i := by omega
      rw [e1]
      simpa using ih
    · have hz : cnt r i = 0 := cnt_none fun x hx => by have := h1 x hx; omega
      by_cases c2 : e.1 = i
      · have c3 : (e.1 == i) = true := by simp [c2]
        have c4 : e.1 < i + 1 := by omega
        rw [List.filter_cons, c3, if_neg c1, if_pos c4, hz]
        rw [hz] at ih
        simp only [List.drop_zero, Nat.sub_zero, if_true] at ih ⊢
        rw [ih, Nat.add_comm 1]
        simp
      · have c3 : (e.1 == i) = false := by simpa using c2
        have c4 : ¬ e.1 < i + 1 := by omega
        have hz2 : cnt r (i + 1) = 0 := cnt_none fun x hx => by have := h1 x hx; omega
        rw [List.filter_cons, c3, if_neg c1, if_neg c4, hz, hz2]
        rw [hz, hz2] at ih
        simpa using ih
/-- Behind which place the last one of a row stands; 0, if there is none. -/
def lastOf (l : List Ed) (r : Int) : Nat := (l.foldl (fun (p : Nat × Nat) e => (p.1 + 1, if e.1 = r then p.1 + 1 else p.2)) (0, 0)).2
theorem last_fst (r : Int) (l : List Ed) : ∀ p : Nat × Nat, (l.foldl (fun (p : Nat × Nat) (e : Ed) => (p.1 + 1, if e.1 = r then p.1 + 1 else p.2)) p).1 = p.1 + l.length := by
  induction l with
  | nil => intro p; rfl
  | cons e t ih => intro p; rw [List.foldl_cons, ih]; simp; omega
theorem last_snoc (l : List Ed) (e : Ed) (r : Int) : lastOf (l ++ [e]) r = if e.1 = r then l.length + 1 else lastOf l r := by
  unfold lastOf
  rw [List.foldl_append]
  simp only [List.foldl_cons, List.foldl_nil, last_fst, Nat.zero_add]
theorem last_none {l : List Ed} {r : Int} (h : ∀ e ∈ l, e.1 ≠ r) : ∀ i, i ≤ l.length → lastOf (l.take i) r = 0 := by
  intro i
  induction i with
  | zero => intro _; rfl
  | succ i ih =>
    intro hi
    obtain ⟨x, hx⟩ : ∃ x, l[i]? = some x := ⟨l[i], List.getElem?_eq_getElem _⟩
    rw [take_succ_of hx, last_snoc, if_neg (h x (List.mem_of_getElem? hx))]
    exact ih (by omega)
theorem rows_take {l : List Ed} (h : Rows l) {i : Nat} {x : Ed} (hx : l[i]? = some x) : ∀ e ∈ l.take i, e.1 ≤ x.1 := fun e he => by
  obtain ⟨j, hj, rfl⟩ := List.mem_take_iff_getElem.1 he
  obtain ⟨hi, rfl⟩ := List.getElem?_eq_some_iff.1 hx
  exact List.pairwise_iff_getElem.1 h j i (by omega) hi (by omega)
theorem cnt_last {l : List Ed} (h : Rows l) (r : Int) : ∀ i, i ≤ l.length → cnt (l.take i) (r + 1) = max (lastOf (l.take i) r) (cnt (l.take i) r) := by
  intro i
  induction i with
  | zero => intro _; simp [cnt, lastOf]
  | succ i ih =>
    intro hi
    obtain ⟨x, hx⟩ : ∃ x, l[i]? = some x := ⟨l[i], List.getElem?_eq_getElem _⟩
    have hle := rows_take h hx
    have hlen : (l.take i).length = i := by rw [List.length_take]; omega
    rw [take_succ_of hx, cnt_snoc, cnt_snoc, last_snoc, hlen]
    by_cases c1 : x.1 = r
    · have e1 : cnt (l.take i) (r + 1) = i := by rw [cnt_all fun e he => by have := hle e he; omega]; exact hlen
      have e2 := cnt_le (l.take i) r
      rw [hlen] at e2
      rw [e1, if_pos (by omega), if_pos c1, if_neg (by omega)]
      omega
    · by_cases c2 : x.1 < r
      · have e1 : cnt (l.take i) (r + 1) = i := by rw [cnt_all fun e he => by have := hle e he; omega]; exact hlen
        have e2 : cnt (l.take i) r = i := by rw [cnt_all fun e he => by have := hle e he; omega]; exact hlen
        have e3 := last_none (l := l.take i) (r := r) (fun e he => by have := hle e he; omega) i (by rw [hlen]; exact Nat.le_refl _)
        rw [List.take_take, Nat.min_self] at e3
        rw [e1, e2, e3, if_pos (by omega), if_neg c1, if_pos c2]
        omega
      · rw [if_neg (by omega), if_neg c1, if_neg c2]
        exact ih (by omega)
/-- The bounds behind the first loop, and while the second one runs: states below st have theirs. -/
def mixL (n : Nat) (l : List Ed) (st : Nat) : List Int := (List.range (n + 1)).map fun (r : Nat) => if r ≤ st then ((cnt l (r : Int) : Nat) : Int) else ((lastOf l ((r : Int) - 1) : Nat) : Int)
def bndL (n : Nat) (l : List Ed) : List Int := (List.range (n + 1)).map fun (r : Nat) => if r = 0 then 0 else ((lastOf l ((r : Int) - 1) : Nat) : Int)
def bounds (n : Nat) (l : List Ed) : List Int := (List.range (n + 1)).map fun (r : Nat) => ((cnt l (r : Int) : Nat) : Int)
theorem bnd_zero (n : Nat) : bndL n [] = List.replicate (n + 1) 0 := by
  unfold bndL
  rw [List.eq_replicate_iff]
  refine ⟨by simp, fun b hb => ?_⟩
  obtain ⟨r, _, rfl⟩ := List.mem_map.1 hb
  split <;> simp [lastOf]
theorem bnd_step {l : List Ed} {n i : Nat} {x : Ed} (hx : l[i]? = some x) {q : Nat} (hq : x.1 = (q : Int)) : (bndL n (l.take i)).set (q + 1) ((i : Int) + 1) = bndL n (l.take (i + 1)) := by
  have hlen : (l.take i).length = i := by rw [List.length_take]; have := (List.getElem?_eq_some_iff.1 hx).1; omega
  apply List.ext_getElem?
  intro r
  rw [List.getElem?_set]
  unfold bndL
  simp only [List.length_map, List.length_range, List.getElem?_map]
  by_cases hr : r < n + 1
  · rw [List.getElem?_range hr, take_succ_of hx]
    simp only [Option.map_some, last_snoc, hlen, hq]
    by_cases e : q + 1 = r
    · subst e
      rw [if_pos rfl, if_pos hr, if_neg (by omega), if_pos (by omega)]
      rfl
    · rw [if_neg e]
      by_cases e0 : r = 0
      · rw [if_pos e0, if_pos e0]
      · rw [if_neg e0, if_neg e0, if_neg (by omega)]
  · rw [List.getElem?_eq_none (by simp; omega)]
    by_cases e : q + 1 = r
    · rw [if_pos e, if_neg (by omega)]; rfl
    · rw [if_neg e]; rfl
theorem mix_zero {n : Nat} {l : List Ed} (h : ∀ e ∈ l, 0 ≤ e.1) : mixL n l 0 = bndL n l := by
  unfold mixL bndL
  apply List.map_congr_left
  intro r _
  by_cases e : r = 0
  · subst e
    simp only [Nat.le_refl, if_true]
    rw [cnt_none fun x hx => by have := h x hx; omega]
    rfl
  · rw [if_neg (by omega), if_neg e]
theorem mix_full (n : Nat) (l : List Ed) : mixL n l n = bounds n l := by
  unfold mixL bounds
  apply List.map_congr_left
  intro r hr
  have := List.mem_range.1 hr
  rw [if_pos (by omega)]
theorem mix_at {n st r : Nat} {l : List Ed} (hr : r ≤ n) : (mixL n l st)[r]? = some (if r ≤ st then ((cnt l (r : Int) : Nat) : Int) else ((lastOf l ((r : Int) - 1) : Nat) : Int)) := by
  unfold mixL
  rw [List.getElem?_map, List.getElem?_range (by omega)]
  rfl
theorem bounds_at {n r : Nat} {l : List Ed} (hr : r ≤ n) : (bounds n l)[r]? = some ((cnt l (r : Int) : Nat) : Int) := by
  unfold bounds
  rw [List.getElem?_map, List.getElem?_range (by omega)]
  rfl
theorem mix_step {n st : Nat} {l : List Ed} (h : Rows l) : (mixL n l st).set (st + 1) (((max (lastOf l (st : Int)) (cnt l (st : Int)) : Nat)) : Int) = mixL n l (st + 1) := by
  have hc := cnt_last h (st : Int) l.length (Nat.le_refl _)
  rw [List.take_length] at hc
  apply List.ext_getElem?
  intro r
  rw [List.getElem?_set]
  unfold mixL
  simp only [List.length_map, List.length_range, List.getElem?_map]
  by_cases hr : r < n + 1
  · rw [List.getElem?_range hr]
    simp only [Option.map_some]
    by_cases e : st + 1 = r
    · subst e
      rw [if_pos rfl, if_pos hr, if_pos (Nat.le_refl _), ← hc]
      rfl
    · rw [if_neg e]
      by_cases e2 : r ≤ st
      · rw [if_pos e2, if_pos (by omega)]
      · rw [if_neg e2, if_neg (by omega)]
  · rw [List.getElem?_eq_none (by simp; omega)]
    by_cases e : st + 1 = r
    · rw [if_pos e, if_neg (by omega)]; rfl
    · rw [if_neg e]; rfl
end Go.Proofs.YthkidoplmbekbaaDoor.Sy
