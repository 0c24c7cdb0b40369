/- A list of truths that the document's needs makes; what it tells. -/
import Derived.Test.YthnenpncajpibaaGreatDoorRtRa
import Derived.Test.YthnenpncajpibaaGreatDoorTmConsts0
namespace Go.Proofs.YthnenpncajpibaaGreatDoor
open Go.RowKit Go.Maps
def bolC (bs : List Bool) : List Value := bs.map Value.bool
/-- The cells of a new list of n falsehoods. -/
def madeB (n : Nat) : Array Value := madeCells (Value.bool false).cells (n * 1)
theorem madeB_eq (n : Nat) : (madeB n).toList = bolC (List.replicate n false) := by
  apply List.ext_getElem
  · simp [madeB, madeCells, bolC]
  · intro i h1 h2
    simp [madeB, madeCells, bolC, Value.cells, Nat.mod_one]
theorem Tryz.infoB3 : (Tryz.prog.info? 4).map (fun i => (i.zero, i.size, i.bytes)) = some (some (.bool false), 1, 1) := by kernel_rfl
theorem make_bools (n : Nat) (hn : n ≤ 100000) (w : World) : (Instr.makeSlice 84 (.int .i64 (n : Int)) (.int .i64 (n : Int))).run Tryz.prog w = .ok (.slice (some ⟨w.heap.size, 0, none⟩) n n) (w.alloc (.cells (madeB n) 4)) := by
  obtain ⟨i0, hi0, hz0, hz1, hz2⟩ := info_parts Tryz.infoB3
  have h := run_makeSlice (P := Tryz.prog) w 84 4 i0 (.bool false) Tryz.underlying84 hi0 hz0 .i64 .i64 (n : Int) (n : Int) (by omega) (Int.le_refl _) (by rw [hz1]; omega) (by rw [hz2]; omega) (by omega)
  rw [h, hz1]
  simp [madeB]
structure Rb (ty : TypeId) (w wr : World) (gi : Nat) (bs : List Bool) : Prop where
  bl : Below w.heap.size w wr
  ids : ∃ cs, wr.heap[gi]? = some (.cells cs ty (0, 0)) ∧ cs.toList = bolC bs
  gu : w.heap.size ≤ gi
theorem Rb.lt {ty : TypeId} {w wr : World} {gi : Nat} {bs : List Bool} (h : Rb ty w wr gi bs) : gi < wr.heap.size := by
  obtain ⟨cs, hc, _⟩ := h.ids
  exact t_lt hc
theorem Rb.below {ty : TypeId} {w wr w' : World} {gi : Nat} {bs : List Bool} (h : Rb ty w wr gi bs) (hb : Below wr.heap.size wr w') : Rb ty w w' gi bs := by
  obtain ⟨cs, hc, hx⟩ := h.ids
  exact ⟨h.bl.trans (hb.mono h.bl.size), ⟨cs, (hb.block _ (t_lt hc)).trans hc, hx⟩, h.gu⟩
theorem Rb.cell {ty : TypeId} {w wr : World} {gi : Nat} {bs : List Bool} (h : Rb ty w wr gi bs) {i : Nat} {x : Bool} (hi : bs[i]? = some x) : wr.cell? ⟨gi, i, none⟩ = some (.bool x) := by
  obtain ⟨cs, hc, hx⟩ := h.ids
  rw [tb_cell hc, ← Array.getElem?_toList, hx]
  simp [bolC, hi]
theorem Rb.free {ty : TypeId} {w wr : World} {gi : Nat} {bs : List Bool} (h : Rb ty w wr gi bs) (i : Nat) : wr.frozen? ⟨gi, i, none⟩ = false := by
  obtain ⟨cs, hc, hx⟩ := h.ids
  exact blk_free hc i
theorem Rb.set {ty : TypeId} {w wr : World} {gi : Nat} {bs : List Bool} (h : Rb ty w wr gi bs) (i : Nat) (x : Bool) : Rb ty w (wr.setCell ⟨gi, i, none⟩ (.bool x)) gi (bs.set i x) := by
  obtain ⟨cs, hc, hx⟩ := h.ids
  refine ⟨h.bl.setCell h.gu _, ⟨_, heap_setCell_same wr gi i cs _ _ hc, ?_⟩, h.gu⟩
  rw [Array.toList_setIfInBounds, hx]
  unfold bolC
  rw [List.map_set]
/-- What the truths say while the loop comes down: all above i have been looked at. -/
structure Nds (L : List Tm) (id : Nat) (ts : List Int) (bs : List Bool) (i : Int) : Prop where
  len : bs.length = id + 1
  snd : ∀ m : Nat, bs[m]? = some true → (m : Int) ∈ ts
  top : bs[id]? = some true
  cmp : ∀ j : Nat, i < (j : Int) → (j : Int) ∈ ts → ∀ p ∈ partsAt L (j : Int), bs[p.toNat]? = some true
theorem Nds.start {L : List Tm} {id : Nat} {ts : List Int} (h : Withi L id ts) (hG : Tm.Good L) : Nds L id ts ((List.replicate (id + 1) false).set id true) (id : Int) := by
  refine ⟨by simp, fun m hm => ?_, by rw [List.getElem?_set_self (by simp)], fun j hj hjt => ?_⟩
  · by_cases e : m = id
    · subst e; exact h.head
    · rw [List.getElem?_set_ne (by omega)] at hm
      rw [List.getElem?_replicate] at hm
      split at hm <;> simp at hm
  · have := withi_le hG h _ hjt
    omega
/-- Is a number within, just if its truth is set. -/
theorem Nds.iff {L : List Tm} {id : Nat} {ts : List Int} {bs : List Bool} {i : Nat} (h : Nds L id ts bs (i : Int)) (hw : Withi L id ts) (hG : Tm.Good L) : bs[i]? = some true ↔ (i : Int) ∈ ts := by
  refine ⟨h.snd i, fun hi => ?_⟩
  rcases hw.frm _ hi with e | ⟨y, hy, e⟩
  · have : i = id := by omega
    rw [this]; exact h.top
  · have hyr := hw.range y hy
    obtain ⟨m, rfl⟩ : ∃ m : Nat, y = m := ⟨y.toNat, by omega⟩
    obtain ⟨t, ht⟩ : ∃ t, L[m]? = some t := ⟨L[m]'(by omega), List.getElem?_eq_getElem _⟩
    have hlt := good_parts hG ht _ (by rw [partsAt_of ht] at e; exact e)
    have := h.cmp m (by omega) hy _ e
    rwa [Int.toNat_natCast] at this
/-- A number that is not within is passed by. -/
theorem Nds.skip {L : List Tm} {id : Nat} {ts : List Int} {bs : List Bool} {i : Nat} (h : Nds L id ts bs (i : Int)) (hn : (i : Int) ∉ ts) : Nds L id ts bs ((i : Int) - 1) :=
  ⟨h.len, h.snd, h.top, fun j hj hjt => by
    by_cases e : j = i
    · subst e; exact absurd hjt hn
    · exact h.cmp j (by omega) hjt⟩
/-- The truths behind a number that is within: its parts' are set. -/
theorem Nds.mark {L : List Tm} {id : Nat} {ts : List Int} {bs cs : List Bool} {i : Nat} {t : Tm} (h : Nds L id ts bs (i : Int)) (hw : Withi L id ts) (hi : (i : Int) ∈ ts) (ht : L[i]? = some t) (hlen : cs.length = bs.length) (hc : ∀ m : Nat, cs[m]? = some true ↔ (bs[m]? = some true ∨ (m : Int) ∈ t.parts)) (hpos : ∀ p ∈ t.parts, 0 ≤ p) : Nds L id ts cs ((i : Int) - 1) := by
  refine ⟨by rw [hlen]; exact h.len, fun m hm => ?_, (hc id).2 (.inl h.top), fun j hj hjt p hp => ?_⟩
  · rcases (hc m).1 hm with e | e
    · exact h.snd m e
    · exact hw.closed _ hi _ (by rw [partsAt_of ht]; exact e)
  · by_cases e : j = i
    · subst e
      rw [partsAt_of ht] at hp
      have := hpos p hp
      exact (hc p.toNat).2 (.inr (by rw [Int.toNat_of_nonneg this]; exact hp))
    · exact (hc p.toNat).2 (.inl (h.cmp j (by omega) hjt p hp))
theorem Nds.fin {L : List Tm} {id : Nat} {ts : List Int} {bs : List Bool} (h : Nds L id ts bs (-1)) (hw : Withi L id ts) (m : Nat) : bs[m]? = some true ↔ (m : Int) ∈ ts := by
  refine ⟨h.snd m, fun hm => ?_⟩
  rcases hw.frm _ hm with e | ⟨y, hy, e⟩
  · have : m = id := by omega
    rw [this]; exact h.top
  · have hyr := hw.range y hy
    obtain ⟨k, rfl⟩ : ∃ k : Nat, y = k := ⟨y.toNat, by omega⟩
    have := h.cmp k (by omega) hy _ e
    rwa [Int.toNat_natCast] at this
end Go.Proofs.YthnenpncajpibaaGreatDoor
