/- The numbers that the document's Same reckons: plain. -/
import Derived.Test.YtoamnhhegneegaaDoorTmSameS
import Derived.Test.YtoamnhhegneegaaDoorRtPut
namespace Go.Proofs.YtoamnhhegneegaaDoor
open Go.RowKit Go.Maps
namespace Tm
/-- A number, or -1. -/
def sg (o : Option Nat) : Int := match o with | some k => (k : Int) | none => -1
end Tm
theorem moved_may {i n : Nat} {t : Tm} (ht : t.may i = true) (f : Int → Int) : (t.moved f).may n = true ↔ ∀ p ∈ t.parts, 0 ≤ f p ∧ f p < (n : Int) := by
  obtain ⟨k, l, a, b, ns, ps⟩ := t
  simp only [Tm.may, Bool.and_eq_true] at ht ⊢
  obtain ⟨hr, hz⟩ := ht
  have hz' : Tm.rest (Tm.moved ⟨k, l, a, b, ns, ps⟩ f) = true := by
    unfold Tm.rest Tm.moved Tm.two Tm.one at *
    simp only [Bool.and_eq_true, Bool.or_eq_true, beq_iff_eq, bne_iff_ne] at hz ⊢
    obtain ⟨⟨⟨⟨z1, z2⟩, z3⟩, z4⟩, z5⟩ := hz
    refine ⟨⟨⟨⟨z1, ?_⟩, ?_⟩, z4⟩, z5⟩
    · rcases z2 with z2 | z2
      · exact .inl z2
      · by_cases h1 : k = 1
        · right; subst h1; simpa using z2
        · exact .inl h1
    · rcases z3 with (z3 | z3) | z3
      · exact .inl (.inl z3)
      · exact .inl (.inr z3)
      · by_cases h3 : k = 3
        · exact .inl (.inl h3)
        by_cases h4 : k = 4
        · exact .inl (.inr h4)
        · right; simp [h3, h4, z3]
  rw [hz']
  simp only [and_true]
  unfold Tm.right at hr ⊢
  unfold Tm.parts Tm.moved Tm.two Tm.one
  simp only at hr ⊢
  by_cases h1 : k = 1
  · subst h1; simp
  by_cases h2 : k = 2
  · subst h2
    simp only [if_neg h1, if_true, Bool.and_eq_true, decide_eq_true_eq] at hr
    simp [Tm.has]
    intro _ _; omega
  by_cases h34 : k = 3 ∨ k = 4
  · rcases h34 with rfl | rfl <;> simp [Tm.has]
  by_cases h5 : k = 5
  · subst h5
    simp [Tm.has] at hr
    simp [Tm.has, hr]
  by_cases h6 : k = 6
  · subst h6
    simp [Tm.has] at hr
    simp [Tm.has, hr]
  by_cases h7 : k = 7
  · subst h7
    simp at hr
    simp [hr]
  · rw [if_neg h1, if_neg h2, if_neg h34, if_neg h5, if_neg h6, if_neg h7] at hr
    cases hr
theorem num_moved {L M : List Tm} (hG : Tm.Good L) {i : Nat} {t : Tm} (ht : L[i]? = some t) : ((t.moved fun p => Tm.sg (Tm.num L M p.toNat)).may M.length = false → Tm.num L M i = none) ∧ ((t.moved fun p => Tm.sg (Tm.num L M p.toNat)).may M.length = true → Tm.num L M i = Tm.find M (t.moved fun p => Tm.sg (Tm.num L M p.toNat))) := by
  have hm := moved_may (n := M.length) (hG i t ht) (fun p => Tm.sg (Tm.num L M p.toNat))
  have hb : ∀ p ∈ t.parts, ∀ k, Tm.num L M p.toNat = some k → k < M.length := fun p hp k hk => by
    have hlt := good_parts hG ht p hp
    have hml := (List.getElem?_eq_some_iff.1 ht).1
    exact num_lt hG (m := p.toNat) (t := L[p.toNat]'(by omega)) (List.getElem?_eq_getElem _) hk
  rw [num_of hG ht]
  by_cases hall : t.parts.all (fun p => (Tm.num L M p.toNat).isSome) = true
  · rw [if_pos hall]
    rw [List.all_eq_true] at hall
    have e : t.moved (fun p => Tm.val (Tm.num L M p.toNat)) = t.moved fun p => Tm.sg (Tm.num L M p.toNat) := moved_congr fun p hp => by
      obtain ⟨k, hk⟩ := Option.isSome_iff_exists.1 (hall p hp)
      rw [hk]; rfl
    rw [e]
    refine ⟨fun h => ?_, fun _ => rfl⟩
    rw [hm.2 fun p hp => by
      obtain ⟨k, hk⟩ := Option.isSome_iff_exists.1 (hall p hp)
      have := hb p hp k hk
      rw [hk]; simp only [Tm.sg]; omega] at h
    cases h
  · rw [if_neg hall]
    refine ⟨fun _ => rfl, fun h => ?_⟩
    exfalso
    apply hall
    rw [List.all_eq_true]
    intro p hp
    have := hm.1 h p hp
    cases e : Tm.num L M p.toNat with
    | some k => rfl
    | none => rw [e] at this; simp only [Tm.sg] at this; omega
theorem sg_eq (o : Option Nat) (k : Nat) : (Tm.sg o == (k : Int)) = (o == some k) := by
  cases o with
  | none =>
    have h1 : (Tm.sg none == (k : Int)) = false := by simp only [Tm.sg, beq_eq_false_iff_ne]; omega
    rw [h1]; rfl
  | some j =>
    rw [Bool.eq_iff_iff]
    simp only [Tm.sg, beq_iff_eq, Option.some.injEq]
    omega
/-- The list of numbers, laid since. -/
structure Ra (w wr : World) (gi : Nat) (xs : List Int) : Prop where
  bl : Below w.heap.size w wr
  ids : ∃ cs, wr.heap[gi]? = some (.cells cs 3 (0, 0)) ∧ cs.toList = iC xs
  gu : w.heap.size ≤ gi
theorem Ra.lt {w wr : World} {gi : Nat} {xs : List Int} (h : Ra w wr gi xs) : gi < wr.heap.size := by
  obtain ⟨cs, hc, _⟩ := h.ids
  exact t_lt hc
theorem Ra.below {w wr w' : World} {gi : Nat} {xs : List Int} (h : Ra w wr gi xs) (hb : Below wr.heap.size wr w') : Ra w w' gi xs := by
  obtain ⟨cs, hc, hx⟩ := h.ids
  exact ⟨h.bl.trans (hb.mono h.bl.size), ⟨cs, (hb.block _ (t_lt hc)).trans hc, hx⟩, h.gu⟩
theorem Ra.cell {w wr : World} {gi : Nat} {xs : List Int} (h : Ra w wr gi xs) {i : Nat} {x : Int} (hi : xs[i]? = some x) : wr.cell? ⟨gi, i, none⟩ = some (.int .i64 x) := by
  obtain ⟨cs, hc, hx⟩ := h.ids
  rw [tb_cell hc, ← Array.getElem?_toList, hx]
  simp [iC, hi]
theorem Ra.free {w wr : World} {gi : Nat} {xs : List Int} (h : Ra w wr gi xs) (i : Nat) : wr.frozen? ⟨gi, i, none⟩ = false := by
  obtain ⟨cs, hc, hx⟩ := h.ids
  exact blk_free hc i
theorem Ra.set {w wr : World} {gi : Nat} {xs : List Int} (h : Ra w wr gi xs) (i : Nat) (x : Int) : Ra w (wr.setCell ⟨gi, i, none⟩ (.int .i64 x)) gi (xs.set i x) := by
  obtain ⟨cs, hc, hx⟩ := h.ids
  refine ⟨h.bl.setCell h.gu _, ⟨_, heap_setCell_same wr gi i cs _ _ hc, ?_⟩, h.gu⟩
  rw [Array.toList_setIfInBounds, hx]
  unfold iC
  rw [List.map_set]
/-- A cell of another block is turned that was laid since. -/
theorem Ra.other {w wr : World} {gi : Nat} {xs : List Int} (h : Ra w wr gi xs) (b o : Nat) (v : Value) (hb : w.heap.size ≤ b) (hne : gi ≠ b) : Ra w (wr.setCell ⟨b, o, none⟩ v) gi xs := by
  obtain ⟨cs, hc, hx⟩ := h.ids
  exact ⟨h.bl.setCell hb _, ⟨cs, (set_other _ _ _ _ _ hne).trans hc, hx⟩, h.gu⟩
/-- What is known of the numbers so far. -/
def Nos (L M : List Tm) (xs : List Int) (i : Nat) : Prop := ∀ q, q < i → xs[q]? = some (Tm.sg (Tm.num L M q))
theorem Nos.next {L M : List Tm} {xs : List Int} {i : Nat} (h : Nos L M xs i) (hi : i < xs.length) : Nos L M (xs.set i (Tm.sg (Tm.num L M i))) (i + 1) := fun q hq => by
  rcases Nat.lt_or_ge q i with e | e
  · rw [List.getElem?_set_ne (by omega)]; exact h q e
  · obtain rfl : q = i := by omega
    rw [List.getElem?_set_self hi]
end Go.Proofs.YtoamnhhegneegaaDoor
