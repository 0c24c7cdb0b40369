/- Plain facts on what stands within a term. -/
import Derived.Test.YthnenpncajpibaaGreatDoorTmParts
namespace Go.Proofs.YthnenpncajpibaaGreatDoor
open Go.RowKit Go.Maps
/-- Each term might have been put where it stands. -/
def Tm.Good (L : List Tm) : Prop := ∀ (i : Nat) (t : Tm), L[i]? = some t → t.may i = true
theorem Tm.Good.snoc {L : List Tm} (h : Tm.Good L) {t : Tm} (ht : t.may L.length = true) : Tm.Good (L ++ [t]) := fun i s hs => by
  rcases Nat.lt_or_ge i L.length with hi | hi
  · rw [List.getElem?_append_left hi] at hs; exact h i s hs
  · rw [List.getElem?_append_right hi] at hs
    have hi0 : i - L.length = 0 := by have := (List.getElem?_eq_some_iff.1 hs).1; simp at this; omega
    rw [hi0] at hs
    simp at hs
    subst hs
    obtain rfl : i = L.length := by omega
    exact ht
theorem may_parts {n : Nat} {t : Tm} (h : t.may n = true) : ∀ p ∈ t.parts, 0 ≤ p ∧ p < (n : Int) := by
  simp only [Tm.may, Bool.and_eq_true] at h
  obtain ⟨hr, _⟩ := h
  unfold Tm.right at hr
  intro p hp
  unfold Tm.parts at hp
  split at hp
  · rename_i hk
    simp only [List.mem_singleton] at hp
    subst hp
    rcases hk with hk | hk | hk <;> simp [hk, Tm.has] at hr <;> omega
  · split at hp
    · rename_i hk
      have hb : Tm.has n t.a = true ∧ Tm.has n t.b = true := by
        rcases hk with hk | hk <;> simpa [hk] using hr
      simp only [has_iff] at hb
      simp only [List.mem_cons, List.not_mem_nil, or_false] at hp
      rcases hp with rfl | rfl <;> omega
    · simp at hp
/-- The parts of the term of a number. -/
def partsAt (L : List Tm) (z : Int) : List Int := ((L[z.toNat]?).map Tm.parts).getD []
theorem partsAt_of {L : List Tm} {m : Nat} {t : Tm} (h : L[m]? = some t) : partsAt L (m : Int) = t.parts := by simp [partsAt, h]
theorem good_parts {L : List Tm} (h : Tm.Good L) {m : Nat} {t : Tm} (hm : L[m]? = some t) : ∀ p ∈ t.parts, 0 ≤ p ∧ p < (m : Int) := may_parts (h m t hm)
theorem nodup_le : ∀ (n : Nat) (zs : List Int), zs.Nodup → (∀ z ∈ zs, 0 ≤ z ∧ z < (n : Int)) → zs.length ≤ n
  | 0, zs, _, h => by
    cases zs with
    | nil => simp
    | cons z r => have := h z (by simp); omega
  | n + 1, zs, hd, h => by
    have h1 := nodup_le n (zs.erase (n : Int)) (hd.erase _) (fun z hz => by
      have hz' := (hd.mem_erase_iff).1 hz
      have := h z hz'.2
      have hne := hz'.1
      omega)
    have h2 : zs.length ≤ (zs.erase (n : Int)).length + 1 := by
      rw [List.length_erase]
      split <;> omega
    omega
/-- So far: the first ones' parts are there too. -/
structure Walk (L : List Tm) (id : Int) (i : Nat) (zs : List Int) : Prop where
  head : id ∈ zs
  nodup : zs.Nodup
  range : ∀ z ∈ zs, 0 ≤ z ∧ z < (L.length : Int)
  done : ∀ (k : Nat) (z : Int), k < i → zs[k]? = some z → ∀ p ∈ partsAt L z, p ∈ zs
  frm : ∀ z ∈ zs, z = id ∨ ∃ y ∈ zs, z ∈ partsAt L y
theorem Walk.len {L : List Tm} {id : Int} {i : Nat} {zs : List Int} (h : Walk L id i zs) : zs.length ≤ L.length := nodup_le _ _ h.nodup h.range
theorem Walk.start {L : List Tm} {id : Int} (h0 : 0 ≤ id) (h1 : id < (L.length : Int)) : Walk L id 0 [id] :=
  ⟨by simp, by simp, fun z hz => by simp at hz; omega, fun k z hk => by omega, fun z hz => by simp at hz; exact .inl hz⟩
/-- A part more. -/
theorem Walk.more {L : List Tm} {id : Int} {i : Nat} {zs : List Int} (h : Walk L id i zs) {p y : Int} (hn : p ∉ zs) (hy : y ∈ zs) (hp : p ∈ partsAt L y) (h0 : 0 ≤ p) (h1 : p < (L.length : Int)) (hi : i ≤ zs.length) : Walk L id i (zs ++ [p]) :=
  ⟨by simp [h.head], by rw [List.nodup_append]; exact ⟨h.nodup, by simp, fun a ha b hb => by simp at hb; rintro rfl; exact hn (hb ▸ ha)⟩,
    fun z hz => by rcases List.mem_append.1 hz with hz | hz; · exact h.range z hz
                   · simp at hz; omega,
    fun k z hk hz q hq => by rw [List.getElem?_append_left (by omega)] at hz; exact List.mem_append_left _ (h.done k z hk hz q hq),
    fun z hz => by
      rcases List.mem_append.1 hz with hz | hz
      · rcases h.frm z hz with e | ⟨x, hx, e⟩
        · exact .inl e
        · exact .inr ⟨x, List.mem_append_left _ hx, e⟩
      · simp at hz
        subst hz
        exact .inr ⟨y, List.mem_append_left _ hy, hp⟩⟩
theorem Walk.next {L : List Tm} {id : Int} {i : Nat} {zs : List Int} (h : Walk L id i zs) {z : Int} (hz : zs[i]? = some z) (hp : ∀ p ∈ partsAt L z, p ∈ zs) : Walk L id (i + 1) zs :=
  ⟨h.head, h.nodup, h.range, fun k y hk hy => by
    rcases Nat.lt_or_ge k i with hlt | hge
    · exact h.done k y hlt hy
    · obtain rfl : k = i := by omega
      rw [hz] at hy
      cases hy
      exact hp, h.frm⟩
/-- What stands within a term, rising. -/
structure Withi (L : List Tm) (id : Int) (ts : List Int) : Prop where
  head : id ∈ ts
  rise : ts.Pairwise (· < ·)
  range : ∀ z ∈ ts, 0 ≤ z ∧ z < (L.length : Int)
  closed : ∀ z ∈ ts, ∀ p ∈ partsAt L z, p ∈ ts
  frm : ∀ z ∈ ts, z = id ∨ ∃ y ∈ ts, z ∈ partsAt L y
theorem rise_of {ts : List Int} (hs : ts.Pairwise (· ≤ ·)) (hn : ts.Nodup) : ts.Pairwise (· < ·) := by
  have h := hs.and hn
  exact h.imp fun ⟨h1, h2⟩ => by omega
theorem Walk.fin {L : List Tm} {id : Int} {zs ts : List Int} (h : Walk L id zs.length zs) (hp : ts.Perm zs) (hs : ts.Pairwise (· ≤ ·)) : Withi L id ts :=
  ⟨hp.mem_iff.2 h.head, rise_of hs (hp.nodup_iff.2 h.nodup), fun z hz => h.range z (hp.mem_iff.1 hz), fun z hz p hpz => by
    obtain ⟨k, hk, rfl⟩ := List.getElem_of_mem (hp.mem_iff.1 hz)
    exact hp.mem_iff.2 (h.done k _ hk (List.getElem?_eq_getElem hk) p hpz), fun z hz => by
    rcases h.frm z (hp.mem_iff.1 hz) with e | ⟨y, hy, e⟩
    · exact .inl e
    · exact .inr ⟨y, hp.mem_iff.2 hy, e⟩⟩
end Go.Proofs.YthnenpncajpibaaGreatDoor
