/- Texts of this claim, joined: SyCut0, SyCup0, SyCut1, SyRep. -/
import Derived.Test.YtihdpncjgmpboaaGreatDoorPart13
import Derived.Test.YtihdpncjgmpboaaGreatDoorPart9
import Derived.Test.YtihdpncjgmpboaaGreatDoorPart10
import Derived.Laws.IdiomCopy
import Derived.Deep.LoopGhost
import Derived.WalkSmall
import Derived.Deep.DrawnRows
/- The cut of a system: the numbers of the states that stay, plain facts, and what stands in memory while the document's Cut works. -/
namespace Go.Proofs.YtihdpncjgmpboaaGreatDoor
open Go.RowKit Go.Maps
namespace Sy
/-- Of each mark its number among those that are set, or -1. -/
def ranksG : Nat → List Bool → List Int
  | _, [] => []
  | c, true :: r => (c : Int) :: ranksG (c + 1) r
  | c, false :: r => -1 :: ranksG c r
def ranks (bs : List Bool) : List Int := ranksG 0 bs
theorem ranksG_len (bs : List Bool) : ∀ c, (ranksG c bs).length = bs.length := by
  induction bs with
  | nil => intro c; rfl
  | cons b r ih => intro c; cases b <;> simp [ranksG, ih]
theorem ranks_len (bs : List Bool) : (ranks bs).length = bs.length := ranksG_len bs 0
theorem ranksG_snoc (bs : List Bool) (b : Bool) : ∀ c, ranksG c (bs ++ [b]) = ranksG c bs ++ [if b = true then ((c + bs.count true : Nat) : Int) else -1] := by
  induction bs with
  | nil => intro c; cases b <;> simp [ranksG]
  | cons x r ih =>
    intro c
    cases x with
    | true => simp only [List.cons_append, ranksG, ih, List.count_cons_self]; rw [show c + 1 + r.count true = c + (r.count true + 1) by omega]
    | false => simp only [List.cons_append, ranksG, ih]; rw [List.count_cons_of_ne (by decide)]
theorem ranks_take {bs : List Bool} {i : Nat} {b : Bool} (h : bs[i]? = some b) : ranks (bs.take (i + 1)) = ranks (bs.take i) ++ [if b = true then (((bs.take i).count true : Nat) : Int) else -1] := by
  rw [take_succ_of h]
  unfold ranks
  rw [ranksG_snoc, Nat.zero_add]
theorem count_take {bs : List Bool} {i : Nat} {b : Bool} (h : bs[i]? = some b) : (bs.take (i + 1)).count true = (bs.take i).count true + if b = true then 1 else 0 := by
  rw [take_succ_of h, List.count_append]
  cases b <;> simp
/-- The number of a state. -/
def rk (bs : List Bool) (i : Int) : Int := ((ranks bs)[i.toNat]?).getD 0
theorem rk_at {bs : List Bool} {i : Nat} (h : i < bs.length) : (ranks bs)[i]? = some (rk bs (i : Int)) := by
  unfold rk
  rw [Int.toNat_natCast, List.getElem?_eq_getElem (by rw [ranks_len]; exact h)]
  rfl
/-- The edges that stay. -/
def cutE (bs : List Bool) (es : List Ed) : List Ed := (es.filter fun e => (bs[e.1.toNat]?).getD false).map fun e => (rk bs e.1, e.2.1, rk bs e.2.2)
theorem cutE_take {bs : List Bool} {es : List Ed} {j : Nat} {e : Ed} (h : es[j]? = some e) : cutE bs (es.take (j + 1)) = if (bs[e.1.toNat]?).getD false = true then cutE bs (es.take j) ++ [(rk bs e.1, e.2.1, rk bs e.2.2)] else cutE bs (es.take j) := by
  rw [take_succ_of h]
  unfold cutE
  rw [List.filter_append, List.map_append]
  by_cases g : (bs[e.1.toNat]?).getD false = true <;> simp [g]
theorem cutE_len (bs : List Bool) (es : List Ed) : (cutE bs es).length ≤ es.length := by
  unfold cutE
  rw [List.length_map]
  exact List.length_filter_le _ _
end Sy
theorem iC_rank_step {C : List Int} {n i : Nat} (k : Int) (hC : C.length = i) (hi : i < n) : (iC C ++ List.replicate (n - i) (Value.int .i64 0)).set i (.int .i64 k) = iC (C ++ [k]) ++ List.replicate (n - (i + 1)) (Value.int .i64 0) := by
  have e : n - i = (n - (i + 1)) + 1 := by omega
  have hl : (iC C).length = i := by rw [iC_length, hC, Nat.mul_one]
  rw [List.set_append_right _ _ (by rw [hl]; omega), hl, Nat.sub_self, e, List.replicate_succ, List.set_cons_zero, iC_snoc]
  simp
end Go.Proofs.YtihdpncjgmpboaaGreatDoor
/- The program's Cut: plain facts. -/
namespace Go.Proofs.YtihdpncjgmpboaaGreatDoor
open Go.RowKit Go.Maps
namespace Sy
theorem marked_snoc {bs : List Bool} {q : Nat} {b : Bool} (h : bs[q]? = some b) : marked (bs.take (q + 1)) = marked (bs.take q) ++ if b = true then [(q : Int)] else [] := by
  have hq := (List.getElem?_eq_some_iff.1 h).1
  unfold marked
  rw [List.length_take, List.length_take, Nat.min_eq_left (by omega), Nat.min_eq_left (by omega), List.range_succ, List.filter_append, List.map_append]
  congr 1
  · congr 1
    refine List.filter_congr fun p hp => ?_
    have := List.mem_range.1 hp
    rw [List.getElem?_take_of_lt (by omega), List.getElem?_take_of_lt (by omega)]
  · cases b
    · simp [List.getElem?_take_of_lt, h]
    · simp [List.getElem?_take_of_lt, h]
theorem marked_len (bs : List Bool) : (marked bs).length = bs.count true := by
  unfold marked
  rw [List.length_map, count_filter]
theorem marked_get (bs : List Bool) : ∀ q, q ≤ bs.length → ∀ (i : Nat) (z : Int), (marked (bs.take q))[i]? = some z → ∃ p : Nat, z = p ∧ p < q ∧ bs[p]? = some true ∧ (bs.take p).count true = i := by
  intro q
  induction q with
  | zero => intro _ i z h; simp [marked] at h
  | succ q ih =>
    intro hq i z h
    obtain ⟨b, hb⟩ : ∃ b, bs[q]? = some b := ⟨bs[q], List.getElem?_eq_getElem _⟩
    rw [marked_snoc hb] at h
    have hl := marked_len (bs.take q)
    by_cases hi : i < (marked (bs.take q)).length
    · rw [List.getElem?_append_left hi] at h
      obtain ⟨p, h1, h2, h3, h4⟩ := ih (by omega) i z h
      exact ⟨p, h1, by omega, h3, h4⟩
    · rw [List.getElem?_append_right (by omega)] at h
      cases b with
      | false => simp at h
      | true =>
        rw [if_pos rfl] at h
        have h1 : i - (marked (bs.take q)).length = 0 := by have := (List.getElem?_eq_some_iff.1 h).1; simpa using this
        rw [h1] at h
        exact ⟨q, (Option.some.inj h).symm, by omega, hb, by omega⟩
theorem marked_at {bs : List Bool} {i : Nat} {z : Int} (h : (marked bs)[i]? = some z) : ∃ p : Nat, z = p ∧ p < bs.length ∧ bs[p]? = some true ∧ (bs.take p).count true = i := by
  refine marked_get bs bs.length (Nat.le_refl _) i z ?_
  rw [List.take_length]
  exact h
theorem ranks_get (bs : List Bool) : ∀ q, q ≤ bs.length → ∀ p, p < q → (ranks (bs.take q))[p]? = some (if bs[p]? = some true then (((bs.take p).count true : Nat) : Int) else -1) := by
  intro q
  induction q with
  | zero => intro _ p hp; omega
  | succ q ih =>
    intro hq p hp
    obtain ⟨b, hb⟩ : ∃ b, bs[q]? = some b := ⟨bs[q], List.getElem?_eq_getElem _⟩
    rw [ranks_take hb]
    have hl : (ranks (bs.take q)).length = q := by rw [ranks_len, List.length_take]; omega
    by_cases h : p < q
    · rw [List.getElem?_append_left (by omega)]
      exact ih (by omega) p h
    · obtain rfl : p = q := by omega
      rw [List.getElem?_append_right (by omega), hl, Nat.sub_self, hb]
      cases b <;> simp
theorem rk_val {bs : List Bool} {p : Nat} (h : p < bs.length) : rk bs (p : Int) = if bs[p]? = some true then (((bs.take p).count true : Nat) : Int) else -1 := by
  have h1 := rk_at h
  have h2 := ranks_get bs bs.length (Nat.le_refl _) p h
  rw [List.take_length] at h2
  rw [h1] at h2
  exact Option.some.inj h2
theorem count_mono (bs : List Bool) {a b : Nat} (h : a ≤ b) : (bs.take a).count true ≤ (bs.take b).count true := by
  obtain ⟨d, rfl⟩ : ∃ d, b = a + d := ⟨b - a, by omega⟩
  rw [List.take_add, List.count_append]
  omega
theorem count_step {bs : List Bool} {p : Nat} (h : bs[p]? = some true) : (bs.take (p + 1)).count true = (bs.take p).count true + 1 := by rw [count_take h]; simp
/-- The numbers after i of the states that stay. -/
def numL (n : Nat) (bs : List Bool) (i : Nat) : List Int := (List.range n).map fun p => if bs[p]? = some true ∧ (bs.take p).count true < i then (((bs.take p).count true : Nat) : Int) else -1
theorem numL_at {n : Nat} {bs : List Bool} {i p : Nat} (h : p < n) : (numL n bs i)[p]? = some (if bs[p]? = some true ∧ (bs.take p).count true < i then (((bs.take p).count true : Nat) : Int) else -1) := by
  unfold numL
  rw [List.getElem?_map, List.getElem?_range h]
  rfl
theorem numL_len (n : Nat) (bs : List Bool) (i : Nat) : (numL n bs i).length = n := by simp [numL]
theorem numL_zero (n : Nat) (bs : List Bool) : numL n bs 0 = List.replicate n (-1) := by
  apply List.ext_getElem?
  intro p
  by_cases h : p < n
  · rw [numL_at h, List.getElem?_replicate, if_pos h, if_neg (by omega)]
  · rw [List.getElem?_eq_none (by rw [numL_len]; omega), List.getElem?_eq_none (by simp; omega)]
theorem one_count {bs : List Bool} {p q : Nat} (hp : bs[p]? = some true) (hq : bs[q]? = some true) (h : (bs.take p).count true = (bs.take q).count true) : p = q := by
  rcases Nat.lt_trichotomy p q with h1 | h1 | h1
  · have := count_step hp; have := count_mono bs (show p + 1 ≤ q by omega); omega
  · exact h1
  · have := count_step hq; have := count_mono bs (show q + 1 ≤ p by omega); omega
theorem numL_set {n : Nat} {bs : List Bool} {i p : Nat} (hp : bs[p]? = some true) (hc : (bs.take p).count true = i) (hn : bs.length = n) : (numL n bs i).set p (i : Int) = numL n bs (i + 1) := by
  have hpn : p < n := by rw [← hn]; exact (List.getElem?_eq_some_iff.1 hp).1
  apply List.ext_getElem?
  intro q
  rw [List.getElem?_set]
  by_cases hq : q < n
  · rw [numL_at hq, numL_at hq]
    by_cases e : p = q
    · subst e
      rw [if_pos rfl, if_pos (by rw [numL_len]; exact hpn), if_pos ⟨hp, by omega⟩, hc]
    · rw [if_neg e]
      congr 1
      by_cases h1 : bs[q]? = some true ∧ (bs.take q).count true < i
      · rw [if_pos h1, if_pos ⟨h1.1, by omega⟩]
      · rw [if_neg h1, if_neg]
        rintro ⟨h2, h3⟩
        have h4 : ¬ (bs.take q).count true < i := fun h => h1 ⟨h2, h⟩
        exact e (one_count hp h2 (by omega))
  · rw [List.getElem?_eq_none (by rw [numL_len]; omega), List.getElem?_eq_none (by rw [numL_len]; omega)]
    split
    · rename_i e; subst e; omega
    · rfl
theorem numL_full {n : Nat} {bs : List Bool} (hn : bs.length = n) : numL n bs (bs.count true) = ranks bs := by
  apply List.ext_getElem?
  intro p
  by_cases h : p < n
  · have h2 := ranks_get bs bs.length (Nat.le_refl _) p (by omega)
    rw [List.take_length] at h2
    rw [numL_at h, h2]
    congr 1
    by_cases h1 : bs[p]? = some true
    · have h3 := count_step h1
      have h4 := count_mono bs (show p + 1 ≤ bs.length by omega)
      rw [List.take_length] at h4
      rw [if_pos ⟨h1, by omega⟩, if_pos h1]
    · rw [if_neg h1, if_neg (fun h => h1 h.1)]
  · rw [List.getElem?_eq_none (by rw [numL_len]; omega), List.getElem?_eq_none (by rw [ranks_len]; omega)]
theorem cutE_app (bs : List Bool) (a b : List Ed) : cutE bs (a ++ b) = cutE bs a ++ cutE bs b := by
  unfold cutE
  rw [List.filter_append, List.map_append]
/-- The edges of a state that stays. -/
def row1 (bs : List Bool) (p : Nat) (zs : List BSteps.El) : List Ed := zs.map fun x => (rk bs (p : Int), x.1, rk bs x.2)
theorem cutE_es1 (bs : List Bool) (p : Nat) (zs : List BSteps.El) : cutE bs (es1 (p : Int) zs) = if bs[p]? = some true then row1 bs p zs else [] := by
  unfold cutE es1 row1
  by_cases h : bs[p]? = some true
  · rw [if_pos h, List.filter_eq_self.2 (fun e he => ?_), List.map_map]
    · rfl
    · obtain ⟨x, _, rfl⟩ := List.mem_map.1 he
      simp [h]
  · rw [if_neg h, List.filter_eq_nil_iff.2 (fun e he => ?_)]
    · rfl
    · obtain ⟨x, _, rfl⟩ := List.mem_map.1 he
      cases hb : bs[p]? with
      | none => simp [hb]
      | some b => cases b
                  · simp [hb]
                  · exact absurd hb h
/-- The edges of the states ahead of p that stay. -/
def upE (bs : List Bool) (l : List Ed) (p : Nat) : List Ed := cutE bs (l.take (cnt l (p : Int)))
theorem upE_step {bs : List Bool} {l : List Ed} (h : Rows l) (p : Nat) : upE bs l (p + 1) = upE bs l p ++ if bs[p]? = some true then row1 bs p (steps l p) else [] := by
  unfold upE
  rw [show (((p + 1 : Nat) : Int)) = (p : Int) + 1 by omega, ← take_row h (p : Int), cutE_app, cutE_es1]
theorem upE_skip {bs : List Bool} {l : List Ed} (h : Rows l) {a : Nat} : ∀ b, a ≤ b → b ≤ bs.length → (bs.take a).count true = (bs.take b).count true → upE bs l a = upE bs l b := by
  intro b
  induction b with
  | zero => intro h1 _ _; rw [show a = 0 by omega]
  | succ b ih =>
    intro h1 h2 h3
    by_cases e : a = b + 1
    · rw [e]
    · have h4 := count_mono bs (show a ≤ b by omega)
      have h5 := count_mono bs (show b ≤ b + 1 by omega)
      rw [upE_step h b, if_neg (fun hb => by have := count_step hb; omega), List.append_nil]
      exact ih (by omega) (by omega) (by omega)
theorem row1_snoc {bs : List Bool} {p : Nat} {zs : List BSteps.El} {k : Nat} {x : BSteps.El} (h : zs[k]? = some x) : row1 bs p (zs.take (k + 1)) = row1 bs p (zs.take k) ++ [(rk bs (p : Int), x.1, rk bs x.2)] := by
  rw [take_succ_of h]
  simp [row1]
theorem row1_len (bs : List Bool) (p : Nat) (zs : List BSteps.El) : (row1 bs p zs).length = zs.length := by simp [row1]
theorem upE_len (bs : List Bool) (l : List Ed) (p : Nat) : (upE bs l p).length ≤ l.length := by
  unfold upE
  have h1 := cutE_len bs (l.take (cnt l (p : Int)))
  have h2 := List.length_take_le (cnt l (p : Int)) l
  have h3 := cnt_le l (p : Int)
  omega
end Sy
end Go.Proofs.YtihdpncjgmpboaaGreatDoor
/- What stands in memory while the document's Cut works. -/
namespace Go.Proofs.YtihdpncjgmpboaaGreatDoor
open Go.RowKit Go.Maps
/-- The argument's box, the result's, the marks, the numbers. -/
structure CutA (w wr : World) (n k s : Int) (v : Value) (gi ga : Nat) (bs : List Bool) (xs : List Value) : Prop where
  box : wr.heap[w.heap.size]? = some (.cells #[.int .i64 n, .int .i64 k, .int .i64 s, v] 24 (0, 0))
  res : wr.heap[w.heap.size + 1]? = some (.cells #[.int .i64 0, .int .i64 0, .int .i64 0, .slice none 0 0] 24 (0, 0))
  inn : Arr 4 w wr gi (bC bs)
  nums : Arr 3 w wr ga xs
theorem CutA.below {w wr w' : World} {n k s : Int} {v : Value} {gi ga : Nat} {bs : List Bool} {xs : List Value} (h : CutA w wr n k s v gi ga bs xs) (hb : Below wr.heap.size wr w') : CutA w w' n k s v gi ga bs xs :=
  ⟨(hb.block _ (t_lt h.box)).trans h.box, (hb.block _ (t_lt h.res)).trans h.res, h.inn.below hb, h.nums.below hb⟩
theorem CutA.ne {w wr : World} {n k s : Int} {v : Value} {gi ga : Nat} {bs : List Bool} {xs : List Value} (h : CutA w wr n k s v gi ga bs xs) : w.heap.size ≠ ga ∧ w.heap.size + 1 ≠ ga ∧ gi ≠ ga := by
  obtain ⟨c1, h1, _⟩ := h.inn.ids
  obtain ⟨c2, h2, _⟩ := h.nums.ids
  have hB := h.box
  have hR := h.res
  refine ⟨fun e => ?_, fun e => ?_, fun e => ?_⟩
  · rw [e, h2] at hB; exact absurd hB (by simp)
  · rw [e, h2] at hR; exact absurd hR (by simp)
  · rw [e, h2] at h1; exact absurd h1 (by simp)
theorem CutA.set {w wr : World} {n k s : Int} {v : Value} {gi ga : Nat} {bs : List Bool} {xs : List Value} (h : CutA w wr n k s v gi ga bs xs) (i : Nat) (x : Value) : CutA w (wr.setCell ⟨ga, i, none⟩ x) n k s v gi ga bs (xs.set i x) := by
  obtain ⟨e1, e2, e3⟩ := h.ne
  exact ⟨(set_other _ _ _ _ _ e1).trans h.box, (set_other _ _ _ _ _ e2).trans h.res, h.inn.kept (Kept.setCell wr ga i x) fun b hb => ⟨by rw [hb]; exact h.nums.gu, by rw [hb]; exact fun e => e3 e.symm⟩, h.nums.set i x⟩
/-- Beside it: the answer's box, its edges so far, the sorted edges. -/
structure CutT (w w6 wr : World) (n k s : Int) (v : Value) (gi ga bt : Nat) (bs : List Bool) (c : Nat) (st : Int) (uv ul : Value) (M l : List Sy.Ed) : Prop where
  a : CutA w wr n k s v gi ga bs (iC (Sy.ranks bs))
  tb : wr.heap[bt]? = some (.cells #[.int .i64 c, .int .i64 k, .int .i64 st, uv] 24 (0, 0))
  own : BEdges.Own wr w6.heap.size uv M
  lst : BEdges.Own wr w.heap.size ul l
  lo : ∀ b, ul.ownBlock = some b → b < w6.heap.size
  sz : w.heap.size ≤ w6.heap.size ∧ w6.heap.size ≤ wr.heap.size
  hi : w.heap.size + 1 < bt
theorem CutT.grow {w w6 wr w4 : World} {n k s : Int} {v : Value} {gi ga bt : Nat} {bs : List Bool} {c : Nat} {st : Int} {au : Option Addr} {N cu : Nat} {ul : Value} {M l : List Sy.Ed} {g4 k4 : Nat} (h : CutT w w6 wr n k s v gi ga bt bs c st (.slice au N cu) ul M l) (hN : N = M.length) (z : Sy.Ed)
    (hown : w4.ownsRow w6.heap.size 65 3 (.slice (some ⟨g4, 0, none⟩) (N + 1) k4) (N + 1) (BEdges.C M ++ [.int .i64 z.1, .int .i64 z.2.1, .int .i64 z.2.2])) (hk : Kept (fun b => (Value.slice au N cu).ownBlock = some b) wr w4) :
    CutT w w6 (w4.setCell ⟨bt, 3, none⟩ (.slice (some ⟨g4, 0, none⟩) (N + 1) k4)) n k s v gi ga bt bs c st (.slice (some ⟨g4, 0, none⟩) (N + 1) k4) ul (M ++ [z]) l := by
  obtain ⟨c1, h1, _⟩ := h.a.inn.ids
  obtain ⟨c2, h2, _⟩ := h.a.nums.ids
  have nu : ∀ b, (Value.slice au N cu).ownBlock = some b → w.heap.size ≤ b := fun b hb => Nat.le_trans h.sz.1 (h.own.lt b hb).1
  have tb4 := (hk.block _ (t_lt h.tb) (own_bk h.own h.tb (by decide))).trans h.tb
  have a4 : CutA w w4 n k s v gi ga bs (iC (Sy.ranks bs)) :=
    ⟨(hk.block _ (t_lt h.a.box) (own_bk h.own h.a.box (by decide))).trans h.a.box, (hk.block _ (t_lt h.a.res) (own_bk h.own h.a.res (by decide))).trans h.a.res,
      h.a.inn.kept hk fun b hb => ⟨nu b hb, fun e => own_bk h.own h1 (by decide) (by rw [← e]; exact hb)⟩, h.a.nums.kept hk fun b hb => ⟨nu b hb, fun e => own_bk h.own h2 (by decide) (by rw [← e]; exact hb)⟩⟩
  have l4 : BEdges.Own w4 w.heap.size ul l := own_up h.lst hk fun b hb e => by
    have := h.lo b hb
    have := (h.own.lt b e).1
    omega
  have o4 : BEdges.Own w4 w6.heap.size (.slice (some ⟨g4, 0, none⟩) (N + 1) k4) (M ++ [z]) := by
    unfold BEdges.Own
    have e1 : (M ++ [z]).length = N + 1 := by rw [List.length_append, hN]; rfl
    rw [e1, BEdges.C_app]
    exact hown
  have hs := Kept.setCell w4 bt 3 (.slice (some ⟨g4, 0, none⟩) (N + 1) k4)
  obtain ⟨d1, g1, _⟩ := a4.inn.ids
  obtain ⟨d2, g2, _⟩ := a4.nums.ids
  have hbi : bt ≠ gi := fun e => by rw [e, g1] at tb4; exact absurd tb4 (by simp)
  have hba : bt ≠ ga := fun e => by rw [e, g2] at tb4; exact absurd tb4 (by simp)
  have hh := h.hi
  have sz4 := Nat.le_trans h.sz.2 hk.size
  refine ⟨⟨(set_other _ _ _ _ _ (by omega)).trans a4.box, (set_other _ _ _ _ _ (by omega)).trans a4.res, a4.inn.kept hs fun b hb => ⟨by omega, by rw [hb]; exact hbi⟩, a4.nums.kept hs fun b hb => ⟨by omega, by rw [hb]; exact hba⟩⟩, ?_, own_up o4 hs fun b hb e => own_bk o4 tb4 (by decide) (by rw [← e]; exact hb), own_up l4 hs fun b hb e => own_bk l4 tb4 (by decide) (by rw [← e]; exact hb), h.lo, ⟨h.sz.1, Nat.le_trans sz4 hs.size⟩, h.hi⟩
  rw [heap_setCell_same w4 bt 3 _ _ _ tb4]
  rfl
/-- The start's number. -/
def Sy.startOf (n : Nat) (bs : List Bool) (s : Int) : Int := if 0 < n then Sy.rk bs s else 0
theorem cut_fin {w w6 wr : World} {n k s : Int} {v : Value} {gi ga bt i : Nat} {bs : List Bool} {c : Nat} {st : Int} {uv ul : Value} {M l : List Sy.Ed} (h : CutT w w6 wr n k s v gi ga bt bs c st uv ul M l) (hi : bs.length = i) (hsm : i ≤ 1000000) {wf : World} (hwf : wf = ((((wr.setCell ⟨w.heap.size + 1, 0, none⟩ (.int .i64 c)).setCell ⟨w.heap.size + 1, 1, none⟩ (.int .i64 k)).setCell ⟨w.heap.size + 1, 2, none⟩ (.int .i64 st)).setCell ⟨w.heap.size + 1, 3, none⟩ uv)) :
    Below w.heap.size w wf ∧ wf.heap[w.heap.size + 1]? = some (.cells #[.int .i64 c, .int .i64 k, .int .i64 st, uv] 24 (0, 0)) ∧ BEdges.Own wf w.heap.size uv M ∧ OwnI wf w.heap.size (.slice (some ⟨ga, 0, none⟩) i i) (Sy.ranks bs) := by
  subst hwf
  have hrow : wr.ownsRow w.heap.size 3 1 (.slice (some ⟨ga, 0, none⟩) i i) i (iC (Sy.ranks bs)) := by
    have h1 := h.a.nums.own (by rw [iC_length, Sy.ranks_len, hi]; unfold maxLen; omega)
    rw [iC_length, Sy.ranks_len, hi, Nat.mul_one] at h1
    exact h1
  have up : ∀ {e : TypeId} {z : Nat} {x : Value} {N : Nat} {ys : List Value}, e ≠ 24 → wr.ownsRow w.heap.size e z x N ys → ((((wr.setCell ⟨w.heap.size + 1, 0, none⟩ (.int .i64 c)).setCell ⟨w.heap.size + 1, 1, none⟩ (.int .i64 k)).setCell ⟨w.heap.size + 1, 2, none⟩ (.int .i64 st)).setCell ⟨w.heap.size + 1, 3, none⟩ uv).ownsRow w.heap.size e z x N ys := fun he hx => trow_at hx fun b hb => by
    have h2 := own_bk hx h.a.res he
    have e1 : b ≠ w.heap.size + 1 := fun e => h2 (by rw [← e]; exact hb)
    rw [set_other _ _ _ _ _ e1, set_other _ _ _ _ _ e1, set_other _ _ _ _ _ e1, set_other _ _ _ _ _ e1]
  refine ⟨four_below h.a.inn.bl (by omega) _ _ _ _, four_set h.a.res, up (by decide) (row_base h.own h.sz.1), ?_⟩
  unfold OwnI
  rw [Sy.ranks_len, hi]
  exact up (by decide) hrow
end Go.Proofs.YtihdpncjgmpboaaGreatDoor
/- Contract of slices.Repeat of one number. -/
namespace Go.Proofs.YtihdpncjgmpboaaGreatDoor
open Go.RowKit Go.Maps
attribute [local go_sem ↓] Go.wp_at_zero Go.wp_at_succ
/-- So many copies, and noughts behind them. -/
def repV (n c : Nat) : List Value := List.replicate c (.int .i64 (-1)) ++ List.replicate (n - c) (.int .i64 0)
theorem repV_len {n c : Nat} (h : c ≤ n) : (repV n c).length = n := by simp [repV]; omega
theorem repV_at {n c j : Nat} (h : j < c) : (repV n c)[j]? = some (.int .i64 (-1)) := by
  unfold repV
  rw [List.getElem?_append_left (by simpa using h), List.getElem?_replicate, if_pos h]
theorem arr_setCells {ty : TypeId} {w : World} {g : Nat} : ∀ (zs vs : List Value) (o : Nat) (wr : World), Arr ty w wr g vs → Arr ty w (wr.setCells g o zs) g ((List.range zs.length).foldl (fun l j => l.set (o + j) ((zs[j]?).getD (.int .i64 0))) vs) := by
  intro zs
  induction zs with
  | nil => intro vs o wr h; exact h
  | cons z r ih =>
    intro vs o wr h
    have h1 := ih (vs.set o z) (o + 1) (wr.setCell ⟨g, o, none⟩ z) (h.set o z)
    show Arr ty w ((wr.setCell ⟨g, o, none⟩ z).setCells g (o + 1) r) g _
    rw [List.length_cons, List.range_succ_eq_map, List.foldl_cons, List.foldl_map]
    have e : (fun (l : List Value) (j : Nat) => l.set (o + (j + 1)) (((z :: r)[j + 1]?).getD (.int .i64 0))) = fun l j => l.set (o + 1 + j) ((r[j]?).getD (.int .i64 0)) := by
      funext l j
      rw [show o + (j + 1) = o + 1 + j by omega]
      rfl
    rw [show (fun (l : List Value) (j : Nat) => l.set (o + j.succ) (((z :: r)[j.succ]?).getD (.int .i64 0))) = _ from e]
    simpa using h1
theorem repV_fill (n c : Nat) : ∀ d, c + d ≤ n → (List.range d).foldl (fun l j => l.set (c + j) (((List.replicate d (Value.int .i64 (-1)))[j]?).getD (.int .i64 0))) (repV n c) = repV n (c + d) := by
  intro d hd
  suffices h : ∀ q, q ≤ d → (List.range q).foldl (fun l j => l.set (c + j) (((List.replicate d (Value.int .i64 (-1)))[j]?).getD (.int .i64 0))) (repV n c) = repV n (c + q) from h d (Nat.le_refl _)
  intro q
  induction q with
  | zero => intro _; rfl
  | succ q ih =>
    intro hq
    rw [List.range_succ, List.foldl_append, ih (by omega), List.foldl_cons, List.foldl_nil, List.getElem?_replicate, if_pos (by omega)]
    apply List.ext_getElem?
    intro j
    rw [List.getElem?_set]
    unfold repV
    simp only [Option.getD_some]
    by_cases hj : c + q = j
    · subst hj
      rw [if_pos rfl, if_pos (by simp; omega), List.getElem?_append_left (by simp), List.getElem?_replicate, if_pos (by omega)]
    · rw [if_neg hj]
      by_cases h1 : j < c + q
      · rw [List.getElem?_append_left (by simpa using h1), List.getElem?_append_left (by simp; omega), List.getElem?_replicate, List.getElem?_replicate, if_pos h1, if_pos (by omega)]
      · rw [List.getElem?_append_right (by simp; omega), List.getElem?_append_right (by simp; omega), List.getElem?_replicate, List.getElem?_replicate]
        simp only [List.length_replicate]
        by_cases h2 : j < n
        · rw [if_pos (by omega), if_pos (by omega)]
        · rw [if_neg (by omega), if_neg (by omega)]
theorem Arr.rep {w wr : World} {g n c : Nat} (h : Arr 3 w wr g (repV n c)) (d : Nat) (hd : c + d ≤ n) : Arr 3 w (wr.setCells g c (List.replicate d (.int .i64 (-1)))) g (repV n (c + d)) := by
  have h1 := arr_setCells (List.replicate d (.int .i64 (-1))) _ c wr h
  rw [List.length_replicate, repV_fill n c d hd] at h1
  exact h1
theorem Tryz.inI : (Tryz.prog.info? 3).map (·.size) = some 1 := by kernel_rfl
set_option maxRecDepth 100000 in
set_option maxHeartbeats 4000000 in
theorem repeat_any (g0 n : Nat) (w : World) (hn : n ≤ 1000000) (h0 : w.cell? ⟨g0, 0, none⟩ = some (.int .i64 (-1))) :
    Calls Tryz.prog 33 #[.slice (some ⟨g0, 0, none⟩) 1 1, .int .i64 n] w fun r w' => ∃ g, r = .returned (.slice (some ⟨g, 0, none⟩) n n) ∧ Arr 3 w w' g (List.replicate n (.int .i64 (-1))) := by
  have hMul : ∀ W, Calls Tryz.prog 92 #[.int .u64 1, .int .u64 n] W fun e w' => e = .returned (.tuple #[.int .u64 0, .int .u64 n]) ∧ w' = W := fun W => by
    have h := Tryz.bits_Mul 1 n (by omega) (by omega) W
    have e1 : 1 * n / 18446744073709551616 = 0 := by omega
    have e2 : 1 * n % 18446744073709551616 = n := by omega
    rw [e1, e2] at h
    exact h
  have hmk := makeI n hn w
  obtain ⟨w1, hw1⟩ : ∃ w1, w1 = w.alloc (.cells (madeV (.int .i64 0) n) 3) := ⟨_, rfl⟩
  have hA1 := arr_new 3 (.int .i64 0) rfl n w
  rw [← hw1] at hmk hA1
  have hA1 : Arr 3 w w1 w.heap.size (repV n 0) := by unfold repV; simpa using hA1
  have h1 := cell_up h0 hA1.bl
  obtain ⟨w2, hc2, hA2⟩ : ∃ w2, (∀ ty, (Builtin.copy_ #[49, 49] ty #[.slice (some ⟨w.heap.size, 0, none⟩) n n, .slice (some ⟨g0, 0, none⟩) 1 1]).run Tryz.prog w1 = .ok (.int .i64 ((min n 1 : Nat) : Int)) w2) ∧ Arr 3 w w2 w.heap.size (repV n (min n 1)) := by
    by_cases hz : n = 0
    · subst hz
      exact ⟨w1, fun ty => run_copy_none (P := Tryz.prog) w1 _ _ ty 3 _ _ 0 0 1 1 Tryz.underlying49 Tryz.inI (by decide), hA1⟩
    · have e1 : min n 1 = 1 := by omega
      rw [e1]
      refine ⟨w1.setCells w.heap.size 0 (List.replicate 1 (.int .i64 (-1))), fun ty => ?_, by have := hA1.rep 1 (by omega); simpa using this⟩
      have h := run_copy_cells (P := Tryz.prog) w1 49 49 ty 3 w.heap.size 0 n n ⟨g0, 0, none⟩ 1 1 (List.replicate 1 (.int .i64 (-1))) Tryz.underlying49 Tryz.inI (by show 1 = Nat.min 1 n; exact (Nat.min_eq_left (by omega)).symm) (fun j x hx => by
        have hj : j = 0 := by have := (List.getElem?_eq_some_iff.1 hx).1; simpa using this
        subst hj
        have hx2 : x = .int .i64 (-1) := by simpa using hx.symm
        rw [hx2]; exact h1) (fun j hj => by
        have hj0 : j = 0 := by simpa using hj
        subst hj0
        obtain ⟨x, hx⟩ : ∃ x, (repV n 0)[0]? = some x := ⟨_, List.getElem?_eq_getElem (by rw [repV_len (Nat.zero_le _)]; omega)⟩
        rw [hA1.cell hx]; rfl) (fun j _ => hA1.free _) (fun v hv => by rw [List.eq_of_mem_replicate hv]; rfl)
      exact h
  have u1 : IntKind.u64.wrap (n : Int) = (n : Int) := by rw [IntKind.wrap_u64]; omega
  have u2 : IntKind.i64.wrap (n : Int) = (n : Int) := by rw [IntKind.wrap_i64]; omega
  have q1 : ¬ (n : Int) < 0 := by omega
  have q2 : ¬ (9223372036854775807 : Int) < (n : Int) := by omega
  have HM : Hid _ := And.intro hMul (And.intro hA2 hw1)
  clear hMul hA1 hA2 hw1 h0 h1
  go_enter Tryz.func33, Tryz.ntmps33
  go_wp2_with (go_at_call 92; refine Calls.mono (HM.out.1 _) ?_; rintro r w9 ⟨rfl, hw9⟩; obtain rfl := hw9.symm; clear hw9)
  go_loopg [8] (n - min n 1) (fun q cv wr => ∃ c : Nat, q = n - c ∧ c ≤ n ∧ (n = 0 ∨ 0 < c) ∧ cv = .int .i64 c ∧ Arr 3 w wr w.heap.size (repV n c))
  case atStart => exact ⟨min n 1, rfl, Nat.min_le_left _ _, by omega, rfl, HM.out.2.1⟩
  case round =>
    obtain ⟨c, rfl, hcn, hpos, rfl, hA⟩ := hrel
    clear hmk hc2
    by_cases hlt : c < n
    · obtain ⟨d, hd⟩ : ∃ d, d = min c (n - c) := ⟨_, rfl⟩
      have hd1 : d ≤ n - c := by omega
      have hd2 : 0 < d := by omega
      have hd3 : d ≤ c := by omega
      have hAd : Arr 3 w wr.drew w.heap.size (repV n c) := hA.below (Below.refl _ _).drew
      have hcp : ∀ ty, (Builtin.copy_ #[49, 49] ty #[.slice (some ⟨w.heap.size, c, none⟩) (n - c) (n - c), .slice (some ⟨w.heap.size, 0, none⟩) c n]).run Tryz.prog wr.drew = .ok (.int .i64 ((d : Nat) : Int)) (wr.drew.setCells w.heap.size c (List.replicate d (.int .i64 (-1)))) := fun ty => by
        have h := run_copy_cells (P := Tryz.prog) wr.drew 49 49 ty 3 w.heap.size c (n - c) (n - c) ⟨w.heap.size, 0, none⟩ c n (List.replicate d (.int .i64 (-1))) Tryz.underlying49 Tryz.inI (by rw [List.length_replicate, hd]) (fun j x hx => by
          have hj : j < d := by have := (List.getElem?_eq_some_iff.1 hx).1; simpa using this
          have hx2 : x = .int .i64 (-1) := by rw [List.getElem?_replicate, if_pos hj] at hx; exact (Option.some.inj hx).symm
          rw [hx2, addz]
          exact hAd.cell (repV_at (by omega))) (fun j hj => by
          rw [List.length_replicate] at hj
          obtain ⟨x, hx⟩ : ∃ x, (repV n c)[c + j]? = some x := ⟨_, List.getElem?_eq_getElem (by rw [repV_len hcn]; omega)⟩
          rw [hAd.cell hx]; rfl) (fun j _ => hAd.free _) (fun v hv => by rw [List.eq_of_mem_replicate hv]; rfl)
        rw [List.length_replicate] at h
        exact h
      have hA3 := hAd.rep d (by omega)
      have p0 : (0 : Int) ≤ (c : Int) := by omega
      have p1 : (c : Int) < (n : Int) := by omega
      have p2 : (c : Int) ≤ (n : Int) := by omega
      have p3 : ¬ n = c := by omega
      have H3 : Hid _ := hA3
      clear hA hAd hA3 hd
      go_wp2_with fail
      go_region
      all_goals go_wp2_with fail
      all_goals
        go_roundg (n - (c + d))
        case measure => omega
        case rel => exact ⟨c + d, rfl, by omega, by omega, by go_num, by first | exact H3.out | exact H3.out.below (Below.refl _ _).drew⟩
    · obtain rfl : c = n := by omega
      have p1 : ¬ (c : Int) < (c : Int) := by omega
      have H3 : Hid _ := hA
      clear hA
      go_wp2_with fail
      go_ret
      refine ⟨_, rfl, ?_⟩
      have h9 := H3.out
      unfold repV at h9
      simpa using h9
end Go.Proofs.YtihdpncjgmpboaaGreatDoor
