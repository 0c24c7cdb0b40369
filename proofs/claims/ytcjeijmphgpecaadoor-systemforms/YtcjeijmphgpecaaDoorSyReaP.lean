/- The reachable states: plain facts, and marks and lists in memory. -/
import Derived.Test.YtcjeijmphgpecaaDoorSyOut0
import Derived.Test.YtcjeijmphgpecaaDoorBXSteps
namespace Go.Proofs.YtcjeijmphgpecaaDoor
open Go.RowKit Go.Maps
namespace Sy
/-- The states that are reachable from s. -/
inductive Rea (es : List Ed) (s : Int) : Int → Prop
  | start : Rea es s s
  | step (e : Ed) : e ∈ es → Rea es s e.1 → Rea es s e.2.2
theorem Rea.congr {es fs : List Ed} {s : Int} (h : ∀ e, e ∈ es → e ∈ fs) {p : Int} (hp : Rea es s p) : Rea fs s p := by
  induction hp with
  | start => exact .start
  | step e he _ ih => exact .step e (h e he) ih
/-- What the search has: the list, the marks; the first i of the list are done. -/
structure RInv (es : List Ed) (s : Int) (n : Nat) (zs : List Int) (bs : List Bool) (i : Nat) : Prop where
  len : bs.length = n
  iff : ∀ p : Nat, bs[p]? = some true ↔ (p : Int) ∈ zs
  rng : ∀ z ∈ zs, 0 ≤ z ∧ z < (n : Int)
  cnt : zs.length = bs.count true
  rea : ∀ z ∈ zs, Rea es s z
  st : s ∈ zs
  done : ∀ (j : Nat) (z : Int), j < i → zs[j]? = some z → ∀ e ∈ es, e.1 = z → e.2.2 ∈ zs
theorem RInv.short {es : List Ed} {s : Int} {n : Nat} {zs : List Int} {bs : List Bool} {i : Nat} (h : RInv es s n zs bs i) : zs.length ≤ n := by
  rw [h.cnt, ← h.len]; exact List.count_le_length
theorem RInv.begin (es : List Ed) (s : Int) (n : Nat) {t : Nat} (hs : s = (t : Int)) (ht : t < n) : RInv es s n [s] ((List.replicate n false).set t true) 0 := by
  refine ⟨by simp, fun p => ?_, fun z hz => ?_, ?_, fun z hz => ?_, by simp, fun j z hj => by omega⟩
  · rw [List.getElem?_set]
    simp only [List.length_replicate, ht, if_true, List.getElem?_replicate, List.mem_singleton, hs]
    by_cases e : t = p
    · subst e; simp
    · rw [if_neg e]
      have e' : ¬ (p : Int) = (t : Int) := by omega
      simp only [e', iff_false]
      split <;> simp
  · rw [List.mem_singleton.1 hz, hs]; omega
  · rw [List.count_set (by simpa using ht)]
    simp [List.count_replicate]
  · rw [List.mem_singleton.1 hz]; exact .start
theorem RInv.push {es : List Ed} {s : Int} {n : Nat} {zs : List Int} {bs : List Bool} {i : Nat} (h : RInv es s n zs bs i) {q : Nat} (hq : q < n) (hb : bs[q]? = some false) (hr : Rea es s (q : Int)) (hi : i ≤ zs.length) : RInv es s n (zs ++ [(q : Int)]) (bs.set q true) i := by
  have hql : q < bs.length := by rw [h.len]; exact hq
  refine ⟨by rw [List.length_set]; exact h.len, fun p => ?_, fun z hz => ?_, ?_, fun z hz => ?_, List.mem_append_left _ h.st, fun j z hj hz e he h1 => ?_⟩
  · rw [List.getElem?_set, List.mem_append, ← h.iff p]
    by_cases e : q = p
    · subst e; simp [hql]
    · rw [if_neg e]
      have e' : ¬ (p : Int) = (q : Int) := by omega
      simp [e']
  · rcases List.mem_append.1 hz with hz | hz
    · exact h.rng z hz
    · rw [List.mem_singleton.1 hz]; omega
  · have e1 : bs[q] = false := by rw [List.getElem?_eq_getElem hql] at hb; exact Option.some.inj hb
    rw [List.count_set hql, List.length_append, h.cnt, e1]
    simp
  · rcases List.mem_append.1 hz with hz | hz
    · exact h.rea z hz
    · rw [List.mem_singleton.1 hz]; exact hr
  · have hjl : j < zs.length := by omega
    rw [List.getElem?_append_left hjl] at hz
    exact List.mem_append_left _ (h.done j z hj hz e he h1)
theorem RInv.next {es : List Ed} {s : Int} {n : Nat} {zs : List Int} {bs : List Bool} {i : Nat} (h : RInv es s n zs bs i) {z : Int} (hz : zs[i]? = some z) (hd : ∀ e ∈ es, e.1 = z → e.2.2 ∈ zs) : RInv es s n zs bs (i + 1) :=
  ⟨h.len, h.iff, h.rng, h.cnt, h.rea, h.st, fun j x hj hx => by
    by_cases e : j = i
    · subst e; rw [hz] at hx; cases hx; exact hd
    · exact h.done j x (by omega) hx⟩
theorem RInv.all {es : List Ed} {s : Int} {n : Nat} {zs : List Int} {bs : List Bool} (h : RInv es s n zs bs zs.length) (p : Nat) : bs[p]? = some true ↔ Rea es s p := by
  rw [h.iff]
  refine ⟨h.rea _, fun hp => ?_⟩
  have key : ∀ x, Rea es s x → x ∈ zs := fun x hx => by
    induction hx with
    | start => exact h.st
    | step e he _ ih =>
      obtain ⟨j, hj, e1⟩ := List.mem_iff_getElem.1 ih
      exact h.done j e.1 hj (by rw [List.getElem?_eq_getElem hj, e1]) e he rfl
  exact key _ hp
theorem steps_mem {es : List Ed} {i a b : Int} : (a, b) ∈ steps es i ↔ (i, a, b) ∈ es := by
  unfold steps
  rw [List.mem_map]
  constructor
  · rintro ⟨e, he, h1⟩
    obtain ⟨h2, h3⟩ := List.mem_filter.1 he
    have e1 : e.1 = i := by simpa using h3
    cases h1
    rw [← e1]
    exact h2
  · intro h
    exact ⟨(i, a, b), List.mem_filter.2 ⟨h, by simp⟩, rfl⟩
end Sy
/-- Marks as cells. -/
def bC (bs : List Bool) : List Value := bs.map Value.bool
theorem bC_set (bs : List Bool) (i : Nat) (b : Bool) : (bC bs).set i (.bool b) = bC (bs.set i b) := by simp [bC, List.map_set]
theorem bC_at {bs : List Bool} {i : Nat} {b : Bool} (h : bs[i]? = some b) : (bC bs)[i]? = some (.bool b) := by simp [bC, h]
theorem bC_rep (n : Nat) : List.replicate n (Value.bool false) = bC (List.replicate n false) := by simp [bC]
/-- A step of a row of one's own, a number of such a list. -/
theorem own_step {w : World} {B : Nat} {ao : Option Addr} {n cap : Nat} {zs : List BSteps.El} (h : BSteps.Own w B (.slice ao n cap) zs) {j : Nat} {z : BSteps.El} (hz : zs[j]? = some z) :
    ∃ g, ao = some ⟨g, 0, none⟩ ∧ w.cell? ⟨g, j * 2, none⟩ = some (.int .i64 z.1) ∧ w.cell? ⟨g, j * 2 + 1, none⟩ = some (.int .i64 z.2) := by
  have hlt := (List.getElem?_eq_some_iff.1 hz).1
  obtain ⟨g, c, hf, _, _⟩ := World.ownsRow.form h (by omega)
  injection hf with e1 e2 e3
  subst e1
  obtain ⟨ao', cap', hv, hc⟩ := BSteps.Own.has h
  injection hv with f1 f2 f3
  subst f1
  obtain ⟨a0, g0, c0⟩ := hc (j * 2 + 0) _ ((BSteps.C_at zs j z hz 0 (by decide)).trans rfl)
  obtain ⟨a1, g1, c1⟩ := hc (j * 2 + 1) _ ((BSteps.C_at zs j z hz 1 (by decide)).trans rfl)
  cases g0; cases g1
  rw [addz] at c0 c1
  exact ⟨g, rfl, c0, c1⟩
theorem own_num {w : World} {B : Nat} {ao : Option Addr} {n cap : Nat} {zs : List Int} (h : OwnI w B (.slice ao n cap) zs) {j : Nat} {z : Int} (hz : zs[j]? = some z) : ∃ g, ao = some ⟨g, 0, none⟩ ∧ w.cell? ⟨g, j, none⟩ = some (.int .i64 z) := by
  have hlt := (List.getElem?_eq_some_iff.1 hz).1
  obtain ⟨g, c, hf, _, _⟩ := World.ownsRow.form h (by omega)
  injection hf with e1 e2 e3
  subst e1
  exact ⟨g, rfl, h.cell hz⟩
theorem step_at {w : World} {ao : Option Addr} {n cap : Nat} {zs : List BSteps.El} (h : BSteps.Has w (.slice ao n cap) zs) {j : Nat} {z : BSteps.El} (hz : zs[j]? = some z) :
    ∃ a, ao = some a ∧ w.cell? (a.add (j * 2)) = some (.int .i64 z.1) ∧ w.cell? ⟨(a.add (j * 2)).block, (a.add (j * 2)).off + 1, none⟩ = some (.int .i64 z.2) := by
  obtain ⟨ao', cap', hv, hc⟩ := h
  injection hv with e1 e2 e3
  subst e1
  obtain ⟨a, rfl, c0⟩ := hc (j * 2 + 0) _ ((BSteps.C_at zs j z hz 0 (by decide)).trans rfl)
  obtain ⟨a1, e1, c1⟩ := hc (j * 2 + 1) _ ((BSteps.C_at zs j z hz 1 (by decide)).trans rfl)
  cases e1
  refine ⟨a, rfl, by simpa using c0, ?_⟩
  rw [← BSteps.add_q] at c1
  exact c1
end Go.Proofs.YtcjeijmphgpecaaDoor
