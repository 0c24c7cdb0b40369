/- Texts of this claim, joined: SyRd0, SyNew, SyAlive, SyLent, SyRd. -/
import Derived.Test.YtmfcfiiggmkbpaaDoorPart11
import Derived.Test.YtmfcfiiggmkbpaaDoorPart10
import Derived.Test.YtmfcfiiggmkbpaaDoorPart9
import Derived.Test.YtmfcfiiggmkbpaaDoorPart5
import Derived.Test.YtmfcfiiggmkbpaaDoorPart7
import Derived.Deep.QuietTactic
import Derived.BigQuiet
/- GraphReached: plain facts: the cut is a system, and all of its states are reachable. -/
namespace Go.Proofs.YtmfcfiiggmkbpaaDoor
open Go.RowKit Go.Maps
namespace Sy
/-- What the marks say: which states are reachable. -/
structure Mk (n : Nat) (k s : Int) (es : List Ed) (ms : List Bool) : Prop where
  right : right n k s es = true
  pos : 0 < n
  len : ms.length = n
  iff : ∀ p : Nat, p < n → (ms[p]? = some true ↔ Rea es s p)
theorem Mk.start {n : Nat} {k s : Int} {es : List Ed} {ms : List Bool} (h : Mk n k s es ms) : ∃ t : Nat, s = (t : Int) ∧ t < n ∧ ms[t]? = some true := by
  have h1 := (right_parts h.right).2.2.2.2.1 (by have := h.pos; omega)
  refine ⟨s.toNat, by omega, by omega, (h.iff _ (by omega)).2 ?_⟩
  rw [show ((s.toNat : Nat) : Int) = s by omega]
  exact .start
theorem Mk.same {n : Nat} {k s : Int} {es : List Ed} {ms bs : List Bool} (h : Mk n k s es ms) (h3 : bs.length = n) (h4 : ∀ p : Nat, p < n → (bs[p]? = some true ↔ Rea es s p)) : ms = bs := by
  apply List.ext_getElem?
  intro p
  have h1 := h.len
  by_cases hp : p < n
  · obtain ⟨a, ha⟩ : ∃ a, ms[p]? = some a := ⟨_, List.getElem?_eq_getElem (by omega)⟩
    obtain ⟨b, hb⟩ : ∃ b, bs[p]? = some b := ⟨_, List.getElem?_eq_getElem (by omega)⟩
    have h5 := (h.iff p hp).trans (h4 p hp).symm
    rw [ha, hb] at h5
    rw [ha, hb]
    cases a <;> cases b <;> simp_all
  · rw [List.getElem?_eq_none (by omega), List.getElem?_eq_none (by omega)]
theorem Mk.rank {n : Nat} {k s : Int} {es : List Ed} {ms : List Bool} (_h : Mk n k s es ms) {p : Nat} (hp : ms[p]? = some true) : rk ms (p : Int) = (((ms.take p).count true : Nat) : Int) ∧ (ms.take p).count true < ms.count true := by
  have hl := (List.getElem?_eq_some_iff.1 hp).1
  refine ⟨by rw [rk_val hl, if_pos hp], ?_⟩
  have h1 := count_step hp
  have h2 := count_mono ms (show p + 1 ≤ ms.length by omega)
  rw [List.take_length] at h2
  omega
theorem Mk.ends {n : Nat} {k s : Int} {es : List Ed} {ms : List Bool} (h : Mk n k s es ms) {e : Ed} (he : e ∈ es) : ∃ a b : Nat, e.1 = (a : Int) ∧ e.2.2 = (b : Int) ∧ a < n ∧ b < n ∧ (ms[a]? = some true → ms[b]? = some true) := by
  have h1 := (right_parts h.right).2.2.2.2.2 e he
  have e1 : ((e.1.toNat : Nat) : Int) = e.1 := by omega
  have e2 : ((e.2.2.toNat : Nat) : Int) = e.2.2 := by omega
  refine ⟨e.1.toNat, e.2.2.toNat, e1.symm, e2.symm, by omega, by omega, fun hm => ?_⟩
  refine (h.iff _ (by omega)).2 ?_
  have h2 := (h.iff _ (by omega)).1 hm
  rw [e1] at h2
  rw [e2]
  exact .step e he h2
theorem Mk.cut {n : Nat} {k s : Int} {es : List Ed} {ms : List Bool} (h : Mk n k s es ms) : Sy.right ((ms.count true : Nat) : Int) k (startOf n ms s) (cutE ms (nf es)) = true := by
  have h1 := right_parts h.right
  obtain ⟨t, ht, htn, hmt⟩ := h.start
  obtain ⟨r1, r2⟩ := h.rank hmt
  have h2 : ms.count true ≤ ms.length := List.count_le_length
  have h3 := h.len
  have h4 := cutE_len ms (nf es)
  have h5 := nf_len es
  unfold Sy.right startOf
  rw [if_pos h.pos, ht, r1]
  simp only [Bool.and_eq_true, decide_eq_true_eq, List.all_eq_true]
  refine ⟨⟨⟨by omega, by omega, by omega, by omega, by omega⟩, by omega, fun _ => ⟨by omega, by omega⟩⟩, fun x hx => ?_⟩
  unfold cutE at hx
  obtain ⟨e, he, rfl⟩ := List.mem_map.1 hx
  obtain ⟨he1, he2⟩ := List.mem_filter.1 he
  have he3 := (nf_mem es e).1 he1
  obtain ⟨a, b, ha, hb, han, hbn, hab⟩ := h.ends he3
  have hl := h1.2.2.2.2.2 e he3
  have hma : ms[a]? = some true := by
    rw [ha, Int.toNat_natCast] at he2
    rw [List.getElem?_eq_getElem (by omega)] at he2 ⊢
    simpa using he2
  obtain ⟨p1, p2⟩ := h.rank hma
  obtain ⟨q1, q2⟩ := h.rank (hab hma)
  simp only [ha, hb, p1, q1]
  refine ⟨by omega, by omega, by omega, by omega, by omega, by omega⟩
theorem Mk.go {n : Nat} {k s : Int} {es : List Ed} {ms : List Bool} (h : Mk n k s es ms) {x : Int} (hx : Rea es s x) : Rea (cutE ms (nf es)) (startOf n ms s) (rk ms x) := by
  induction hx with
  | start => unfold startOf; rw [if_pos h.pos]; exact .start
  | step e he h0 ih =>
    obtain ⟨a, b, ha, hb, han, hbn, hab⟩ := h.ends he
    have hma := (h.iff a han).2 (by rw [← ha]; exact h0)
    have hin : (rk ms e.1, e.2.1, rk ms e.2.2) ∈ cutE ms (nf es) := by
      unfold cutE
      refine List.mem_map.2 ⟨e, List.mem_filter.2 ⟨(nf_mem es e).2 he, ?_⟩, rfl⟩
      rw [ha, Int.toNat_natCast, hma]
      rfl
    exact .step (rk ms e.1, e.2.1, rk ms e.2.2) hin ih
theorem Mk.all {n : Nat} {k s : Int} {es : List Ed} {ms : List Bool} (h : Mk n k s es ms) {p : Nat} (hp : p < ms.count true) : Rea (cutE ms (nf es)) (startOf n ms s) (p : Int) := by
  have hl := marked_len ms
  obtain ⟨q, hq, hqn, hm, hc⟩ := marked_at (List.getElem?_eq_getElem (show p < (marked ms).length by omega))
  have h1 := h.go ((h.iff q (by rw [← h.len]; exact hqn)).1 hm)
  rw [(h.rank hm).1, hc] at h1
  exact h1
theorem Mk.full {n : Nat} {k s : Int} {es : List Ed} {ms bs : List Bool} (h : Mk n k s es ms) (hl : bs.length = ms.count true) (hb : ∀ p : Nat, p < ms.count true → (bs[p]? = some true ↔ Rea (cutE ms (nf es)) (startOf n ms s) p)) : (marked bs).length = ms.count true := by
  rw [marked_len, ← hl, List.count_eq_length]
  intro b hbm
  obtain ⟨p, hp, rfl⟩ := List.mem_iff_getElem.1 hbm
  have h1 := (hb p (by omega)).2 (h.all (by omega))
  rw [List.getElem?_eq_getElem hp] at h1
  exact (Option.some.inj h1).symm
/-- The marks of the first j of a list. -/
def sets (n : Nat) (zs : List Int) (j : Nat) : List Bool := (List.range n).map fun (p : Nat) => (zs.take j).any fun z => z == (p : Int)
theorem sets_len (n : Nat) (zs : List Int) (j : Nat) : (sets n zs j).length = n := by simp [sets]
theorem sets_at {n : Nat} {zs : List Int} {j p : Nat} (h : p < n) : (sets n zs j)[p]? = some ((zs.take j).any fun z => z == (p : Int)) := by
  unfold sets
  rw [List.getElem?_map, List.getElem?_range h]
  rfl
theorem sets_zero (n : Nat) (zs : List Int) : sets n zs 0 = List.replicate n false := by
  apply List.ext_getElem?
  intro p
  by_cases h : p < n
  · rw [sets_at h, List.getElem?_replicate, if_pos h]; simp
  · rw [List.getElem?_eq_none (by rw [sets_len]; omega), List.getElem?_eq_none (by simp; omega)]
theorem sets_step {n : Nat} {zs : List Int} {j q : Nat} (h : zs[j]? = some (q : Int)) (hq : q < n) : (sets n zs j).set q true = sets n zs (j + 1) := by
  apply List.ext_getElem?
  intro p
  rw [List.getElem?_set]
  by_cases hp : p < n
  · rw [sets_at hp, sets_at hp, take_succ_of h, List.any_append]
    by_cases e : q = p
    · subst e; rw [if_pos rfl, if_pos (by rw [sets_len]; exact hq)]; simp
    · rw [if_neg e]
      have e' : ¬ (q : Int) = (p : Int) := by omega
      simp [e']
  · rw [List.getElem?_eq_none (by rw [sets_len]; omega), List.getElem?_eq_none (by rw [sets_len]; omega)]
    split
    · rename_i e; subst e; omega
    · rfl
theorem sets_full {n : Nat} {ms : List Bool} (hl : ms.length = n) {j : Nat} (hj : j = (marked ms).length) : sets n (marked ms) j = ms := by
  subst hj
  apply List.ext_getElem?
  intro p
  by_cases hp : p < n
  · rw [sets_at hp, List.take_length, List.getElem?_eq_getElem (by omega)]
    congr 1
    rw [Bool.eq_iff_iff, List.any_eq_true]
    constructor
    · rintro ⟨z, hz, e⟩
      obtain ⟨q, rfl, hq⟩ := (Sy.marked_mem ms z).1 hz
      have e' : (q : Int) = (p : Int) := by simpa using e
      obtain rfl : q = p := by omega
      rw [List.getElem?_eq_getElem (by omega)] at hq
      exact Option.some.inj hq
    · intro hm
      exact ⟨(p : Int), (Sy.marked_mem ms _).2 ⟨p, rfl, by rw [List.getElem?_eq_getElem (by omega), hm]⟩, by simp⟩
  · rw [List.getElem?_eq_none (by rw [sets_len]; omega), List.getElem?_eq_none (by omega)]
end Sy
end Go.Proofs.YtmfcfiiggmkbpaaDoor
/- Contract of the program's New: a graph of the system's one form. -/
namespace Go.Proofs.YtmfcfiiggmkbpaaDoor
open Go.RowKit Go.Maps
attribute [local go_sem ↓] Go.wp_at_zero Go.wp_at_succ
/-- In the order of the ends, each once: the one form of the edges turned round. -/
theorem inOrder_turn {es os : List Sy.Ed} (h : InOrder Sy.turn (Sy.nf es) os) : os.map Sy.turn = Sy.nf ((Sy.nf es).map Sy.turn) := by
  refine Sy.nf_of ?_ fun x => ?_
  · have hnd : os.Nodup := by
      rw [h.1.nodup_iff]
      have hs := Sy.nf_str es
      generalize Sy.nf es = l at hs
      induction l with
      | nil => exact List.nodup_nil
      | cons a r ih =>
        refine List.nodup_cons.2 ⟨fun ha => ?_, ih hs.tail⟩
        have h1 := hs.head a ha
        rw [Sy.lt_irrefl] at h1
        cases h1
    have hp := h.2
    clear h
    induction os with
    | nil => trivial
    | cons a r ih =>
      obtain ⟨h1, h2⟩ := List.pairwise_cons.1 hp
      obtain ⟨h3, h4⟩ := List.nodup_cons.1 hnd
      rw [List.map_cons]
      refine Sy.Str.cons (ih h4 h2) fun x hx => ?_
      obtain ⟨b, hb, rfl⟩ := List.mem_map.1 hx
      have h5 := h1 b hb
      cases h6 : Sy.lt (Sy.turn a) (Sy.turn b) with
      | true => rfl
      | false =>
        have h7 := congrArg Sy.turn (Sy.eq_of_not h6 h5)
        rw [turn_turn, turn_turn] at h7
        rw [h7] at h3
        exact absurd hb h3
  · rw [List.mem_map, List.mem_map]
    constructor
    · rintro ⟨a, ha, rfl⟩; exact ⟨a, h.1.mem_iff.1 ha, rfl⟩
    · rintro ⟨a, ha, rfl⟩; exact ⟨a, h.1.mem_iff.2 ha, rfl⟩
theorem rg_up4' {w2 wa wb : World} {a0 a1 a2 a3 : Addr} {x0 x1 x2 x3 : Value} (h : (wa.cell? a0 = some x0 ∧ wa.cell? a1 = some x1 ∧ wa.cell? a2 = some x2 ∧ wa.cell? a3 = some x3) ∧ Hid (Below w2.heap.size w2 wa)) (hb : Below wa.heap.size wa wb) : (wb.cell? a0 = some x0 ∧ wb.cell? a1 = some x1 ∧ wb.cell? a2 = some x2 ∧ wb.cell? a3 = some x3) ∧ Hid (Below w2.heap.size w2 wb) := rg_up4 hb h
/-- What New answers. -/
def NewAt (a : Addr) (n k s : Int) (es : List Sy.Ed) (w : World) (r : Ending) (w' : World) : Prop :=
  if Sy.right n k s es = true then ∃ (g bs bb cs cb m : Nat), n = (m : Int) ∧ r = .returned (.tuple #[.pointer (some ⟨g, 0, none⟩), .nilIface]) ∧ Gr w' w.heap.size g bs bb cs cb m k s es ∧ Below w.heap.size w w'
  else ∃ x, r = .returned (.tuple #[.pointer none, x]) ∧ Chain w' 0 0 a [sysB] x ∧ Below w.heap.size w w'
set_option maxRecDepth 100000 in
set_option maxHeartbeats 8000000 in
theorem new_any {M : Nat} (hS : SortOk M) (n k s : Int) (v : Value) (es : List Sy.Ed) (a : Addr) (w : World) (hA : Sent w 13 a) (hv : BEdges.Has w v es) (hM : es.length ≤ M) (hm : es.length ≤ 100000) :
    Calls Tryd.prog 16 #[sysV n k s v] w (NewAt a n k s es w) := by
  obtain ⟨w1, hw1⟩ : ∃ w1, w1 = w.alloc (.cells #[.int .i64 n, .int .i64 k, .int .i64 s, v] 24) := ⟨_, rfl⟩
  have hb1 : Below w.heap.size w w1 := by rw [hw1]; exact (Below.refl _ _).alloc (Nat.le_refl _) _
  have hg1 : w1.heap[w.heap.size]? = some (.cells #[.int .i64 n, .int .i64 k, .int .i64 s, v] 24 (0, 0)) := by rw [hw1]; exact heap_alloc_new w _
  have hN := normal_any hS n k s v es a w1 (hA.below hb1) (hv.below hb1) hM (by omega)
  obtain ⟨ao, cap, rfl, _⟩ := hv
  obtain ⟨m0, hm0⟩ : ∃ m0, m0 = es.length := ⟨_, rfl⟩
  rw [← hm0] at hN hg1 hw1 ⊢
  unfold sysV at hN ⊢
  have H1 : Hid _ := And.intro hN (And.intro hb1 (And.intro hg1 (And.intro hw1 hS)))
  have HM : Hid _ := And.intro hM hm
  cases hq : Sy.right n k s es with
  | false =>
    rw [hq] at H1
    unfold NewAt
    rw [hq]
    clear hN hb1 hg1 hw1 hS hA hq hm0 hM hm
    go_enter Tryd.func16, Tryd.ntmps16
    go_wp2_with fail
    rw [← H1.out.2.2.2.1]
    refine Calls.mono H1.out.1 ?_
    rintro r w2 ⟨x, u, rfl, hx, _, hb2⟩
    have hch : Chain w2 0 0 a [sysB] x := by simpa [SErr] using hx
    obtain ⟨T, y, rfl⟩ := hch.iface
    have hg2 := (hb2.block _ (t_lt H1.out.2.2.1)).trans H1.out.2.2.1
    obtain ⟨y0, y1, y2, y3⟩ := four_cells hg2
    have z0 := blk_free hg2 0
    have z1 := blk_free hg2 1
    have z2 := blk_free hg2 2
    have z3 := blk_free hg2 3
    have hbw := H1.out.2.1.trans (hb2.mono H1.out.2.1.size)
    have H2 : Hid _ := And.intro hch (And.intro hbw hg2)
    clear hb2 hg2 hbw hch hx
    go_wp2_with fail
    have hbf := four_below H2.out.2.1 (b := w.heap.size) (Nat.le_refl _) (.int .i64 0) (.int .i64 0) (.int .i64 0) (.slice none 0 0)
    have hcf := chain_st4 H2.out.1 H2.out.2.2 (.int .i64 0) (.int .i64 0) (.int .i64 0) (.slice none 0 0)
    unfold st4 at hcf
    go_ret2
    exact ⟨_, rfl, hcf, hbf⟩
  | true =>
    rw [hq] at H1
    have hrp := right_parts hq
    obtain ⟨q, rfl⟩ : ∃ q : Nat, n = (q : Int) := ⟨n.toNat, by omega⟩
    have HQ : Hid _ := And.intro hq hrp
    unfold NewAt
    rw [hq]
    clear hN hb1 hg1 hw1 hS hA hq hm0 hM hm hrp
    go_enter Tryd.func16, Tryd.ntmps16
    go_wp2_with fail
    rw [← H1.out.2.2.2.1]
    refine Calls.mono H1.out.1 ?_
    rintro r w2 ⟨x, u, rfl, hx, hO, hb2⟩
    have hO := hO trivial
    obtain rfl : x = .nilIface := by simpa [SErr] using hx
    obtain ⟨au, cu, rfl⟩ := row_shape hO
    have hg2 := (hb2.block _ (t_lt H1.out.2.2.1)).trans H1.out.2.2.1
    obtain ⟨y0, y1, y2, y3⟩ := four_cells hg2
    have z0 := blk_free hg2 0
    have z1 := blk_free hg2 1
    have z2 := blk_free hg2 2
    have z3 := blk_free hg2 3
    have hbw := H1.out.2.1.trans (hb2.mono H1.out.2.1.size)
    obtain ⟨L, hL⟩ : ∃ L, L = (Sy.nf es).length := ⟨_, rfl⟩
    obtain ⟨w3, hw3⟩ : ∃ w3, w3 = (((w2.setCell ⟨w.heap.size, 0, none⟩ (.int .i64 q)).setCell ⟨w.heap.size, 1, none⟩ (.int .i64 k)).setCell ⟨w.heap.size, 2, none⟩ (.int .i64 s)).setCell ⟨w.heap.size, 3, none⟩ (.slice au L cu) := ⟨_, rfl⟩
    rw [← hL]
    have hg3 : w3.heap[w.heap.size]? = some (.cells #[.int .i64 q, .int .i64 k, .int .i64 s, .slice au L cu] 24 (0, 0)) := by rw [hw3]; exact four_set hg2
    have hb3 : Below w.heap.size w w3 := by rw [hw3]; exact four_below hbw (Nat.le_refl _) _ _ _ _
    have hO3 : BEdges.Own w3 w.heap.size (.slice au (Sy.nf es).length cu) (Sy.nf es) := by
      rw [hw3]
      refine row_base (trow_at hO fun b hb => ?_) H1.out.2.1.size
      have n1 : b ≠ w.heap.size := fun e => own_bk hO hg2 (by decide) (e ▸ hb)
      rw [set_other _ _ _ _ _ n1, set_other _ _ _ _ _ n1, set_other _ _ _ _ _ n1, set_other _ _ _ _ _ n1]
    have H3 : Hid _ := And.intro hb3 (And.intro hO3 (And.intro hg3 (And.intro hw3 hL)))
    clear hO hb2 hg2 hbw hx hg3 hb3 hO3 hw3 hL
    have hle : L ≤ 10000 := by have := HQ.out.2.2.2.1; have := Sy.nf_len es; have := H3.out.2.2.2.2; omega
    have hqn : q ≤ 1000 := by have := HQ.out.2.1; omega
    have hnr : ∀ e ∈ Sy.nf es, 0 ≤ e.1 ∧ e.1 < (q : Int) ∧ 0 ≤ e.2.2 ∧ e.2.2 < (q : Int) := fun e he => by
      have := HQ.out.2.2.2.2.2.2 e ((Sy.nf_mem es e).1 he)
      exact ⟨this.1, this.2.1, this.2.2.1, this.2.2.2.1⟩
    have hTf : ∀ W, Below w3.heap.size w3 W → Calls Tryd.prog 28 #[.int .i64 q, .slice au L cu, .func (.func 29) #[] #[]] W fun r w' => ∃ bs bb, r = .returned (.agg #[.slice (some ⟨bs, 0, none⟩) L L, .slice (some ⟨bb, 0, none⟩) (q + 1) (q + 1)]) ∧ Tb w' w.heap.size bs bb q (Sy.nf es) ∧ Below W.heap.size W w' := fun W hb => by
      have hLL := H3.out.2.2.2.2
      have hOW : BEdges.Has W (.slice au (Sy.nf es).length cu) (Sy.nf es) := H3.out.2.1.has.below hb
      have h9 := tableOf_any _ _ forward_at q (.slice au (Sy.nf es).length cu) (Sy.nf es) W (by omega) (by omega) hOW (by rw [List.map_id']; exact fun e he => ⟨(hnr e he).1, (hnr e he).2.1⟩) (by rw [List.map_id']; exact nf_rows es)
      rw [List.map_id'] at h9
      rw [← hLL] at h9
      refine h9.mono fun r w' ⟨bs, bb, hr, h1, h2⟩ => ⟨bs, bb, hr, ⟨(Blk.of_arr h1).base ?_, (Blk.of_arr h2).base ?_⟩, h1.bl⟩
      · have := H3.out.1.size; have := hb.size; omega
      · have := H3.out.1.size; have := hb.size; omega
    have hOr : ∀ W, Below w3.heap.size w3 W → Calls Tryd.prog 30 #[.slice au L cu, .func (.func 31) #[] #[]] W fun r w' => ∃ u os, r = .returned u ∧ InOrder Sy.turn (Sy.nf es) os ∧ BEdges.Own w' W.heap.size u os ∧ Below W.heap.size W w' := fun W hb => by
      have hLL := H3.out.2.2.2.2
      have hOW : BEdges.Has W (.slice au (Sy.nf es).length cu) (Sy.nf es) := H3.out.2.1.has.below hb
      have h9 := ordered_any H1.out.2.2.2.2 _ _ backward_at (.slice au (Sy.nf es).length cu) (Sy.nf es) W (by have := Sy.nf_len es; have := HM.out.1; omega) (by omega) hOW
      rw [← hLL] at h9
      exact h9
    have hTb : ∀ W u os B, Below w3.heap.size w3 W → InOrder Sy.turn (Sy.nf es) os → BEdges.Own W B u os → Calls Tryd.prog 28 #[.int .i64 q, u, .func (.func 31) #[] #[]] W fun r w' => ∃ bs bb, r = .returned (.agg #[.slice (some ⟨bs, 0, none⟩) L L, .slice (some ⟨bb, 0, none⟩) (q + 1) (q + 1)]) ∧ Tb w' w.heap.size bs bb q (Sy.nf ((Sy.nf es).map Sy.turn)) ∧ Below W.heap.size W w' := fun W u os B hb hI hO => by
      have hLL := H3.out.2.2.2.2
      have hlo := hI.1.length_eq
      have het := inOrder_turn hI
      have h9 := tableOf_any _ _ backward_at q u os W (by omega) (by omega) hO.has (by
        rw [het]
        intro e he
        rw [Sy.nf_mem] at he
        obtain ⟨x, hx, rfl⟩ := List.mem_map.1 he
        exact ⟨(hnr x hx).2.2.1, (hnr x hx).2.2.2⟩) (by rw [het]; exact nf_rows _)
      rw [het, hlo, ← hLL] at h9
      refine h9.mono fun r w' ⟨bs, bb, hr, h1, h2⟩ => ⟨bs, bb, hr, ⟨(Blk.of_arr h1).base ?_, (Blk.of_arr h2).base ?_⟩, h1.bl⟩
      · have := H3.out.1.size; have := hb.size; omega
      · have := H3.out.1.size; have := hb.size; omega
    have HT : Hid _ := And.intro hTf (And.intro hOr hTb)
    clear hTf hOr hTb hnr
    go_upto_region 4 with fail
    rw [← H3.out.2.2.2.1]
    clear y0 y1 y2 y3 z0 z1 z2 z3
    obtain ⟨x0, x1, x2, x3⟩ := four_cells H3.out.2.2.1
    go_region_held3 (fun w' => (w'.cell? ⟨w.heap.size, 0, none⟩ = some (.int .i64 q) ∧ w'.cell? ⟨w.heap.size, 1, none⟩ = some (.int .i64 k) ∧ w'.cell? ⟨w.heap.size, 2, none⟩ = some (.int .i64 s) ∧ w'.cell? ⟨w.heap.size, 3, none⟩ = some (.slice au L cu)) ∧ Hid (Below w3.heap.size w3 w')) (first | exact rg_up4' (by assumption) hba | exact rg_up4' (by assumption) hbb | exact rg_up4' (by assumption) hbc | exact rg_up4' (by assumption) ((Below.refl _ _).alloc (Nat.le_refl _) _) | exact ⟨⟨x0, x1, x2, x3⟩, ((Below.refl _ _).drew : Below w3.heap.size w3 w3.drew)⟩ | go_keep)
      ((first
        | (go_at_call_of 28 (Value.slice au L cu); refine (HT.out.1 _ (rg_b (by assumption))).mono ?_; rintro r wa ⟨bs, bb, rfl, hTa, hba⟩)
        | (go_at_call 30; refine (HT.out.2.1 _ (rg_b (by assumption))).mono ?_; rintro r wb ⟨u5, os, rfl, hIo, hOb, hbb⟩)
        | (go_at_call_of 28 u5; refine (HT.out.2.2 _ _ os _ (rg_b (by assumption)) hIo (by first | exact hOb | exact trow_at hOb fun b hb => hba.block _ (hOb.lt b hb).2)).mono ?_; rintro r wc ⟨cs, cb, rfl, hTc, hbc⟩)
        | fail))
    have hal : Below wc.heap.size wc (wc.alloc (.cells #[.int .i64 q, .int .i64 k, .int .i64 s, .slice (some ⟨bs, 0, none⟩) L L, .slice (some ⟨bb, 0, none⟩) (q + 1) (q + 1), .slice (some ⟨cs, 0, none⟩) L L, .slice (some ⟨cb, 0, none⟩) (q + 1) (q + 1)] 32)) := (Below.refl _ _).alloc (Nat.le_refl _) _
    have hbx := heap_alloc_new wc (.cells #[.int .i64 q, .int .i64 k, .int .i64 s, .slice (some ⟨bs, 0, none⟩) L L, .slice (some ⟨bb, 0, none⟩) (q + 1) (q + 1), .slice (some ⟨cs, 0, none⟩) L L, .slice (some ⟨cb, 0, none⟩) (q + 1) (q + 1)] 32)
    have hba' := below_of_drew3 hba
    have hsz : w.heap.size ≤ wc.heap.size := by have := H3.out.1.size; have := hba'.size; have := hbb.size; have := hbc.size; omega
    have hbw : Below w.heap.size w (wc.alloc (.cells #[.int .i64 q, .int .i64 k, .int .i64 s, .slice (some ⟨bs, 0, none⟩) L L, .slice (some ⟨bb, 0, none⟩) (q + 1) (q + 1), .slice (some ⟨cs, 0, none⟩) L L, .slice (some ⟨cb, 0, none⟩) (q + 1) (q + 1)] 32)) :=
      (((H3.out.1.trans (hba'.mono H3.out.1.size)).trans (hbb.mono (by have := H3.out.1.size; have := hba'.size; omega))).trans (hbc.mono (by have := H3.out.1.size; have := hba'.size; have := hbb.size; omega))).trans (hal.mono hsz)
    have hGr : Gr (wc.alloc (.cells #[.int .i64 q, .int .i64 k, .int .i64 s, .slice (some ⟨bs, 0, none⟩) L L, .slice (some ⟨bb, 0, none⟩) (q + 1) (q + 1), .slice (some ⟨cs, 0, none⟩) L L, .slice (some ⟨cb, 0, none⟩) (q + 1) (q + 1)] 32)) w.heap.size wc.heap.size bs bb cs cb q k s es :=
      ⟨by rw [← H3.out.2.2.2.2]; exact hbx, hsz, ((hTa.below hbb).below hbc).below hal, hTc.below hal, HQ.out.1⟩
    have HF : Hid _ := And.intro hGr hbw
    clear hal hbx hba' hbw hGr hba hbb hbc hTa hTc hOb hIo x0 x1 x2 x3
    rename_i hS9
    clear hS9
    go_wp2_with fail
    go_ret2
    exact ⟨_, _, _, _, _, q, rfl, rfl, HF.out.1, HF.out.2⟩
theorem new_ok {M : Nat} (hS : SortOk M) (n k s : Int) (v : Value) (es : List Sy.Ed) (a : Addr) (w : World) (hA : Sent w 13 a) (hv : BEdges.Has w v es) (hM : es.length ≤ M) (hm : es.length ≤ 100000) (hq : Sy.right n k s es = true) :
    Calls Tryd.prog 16 #[sysV n k s v] w fun r w' => ∃ (g bs bb cs cb m : Nat), n = (m : Int) ∧ r = .returned (.tuple #[.pointer (some ⟨g, 0, none⟩), .nilIface]) ∧ Gr w' w.heap.size g bs bb cs cb m k s es ∧ Below w.heap.size w w' :=
  (new_any hS n k s v es a w hA hv hM hm).mono fun r w' h => by unfold NewAt at h; rw [if_pos hq] at h; exact h
theorem new_bad {M : Nat} (hS : SortOk M) (n k s : Int) (v : Value) (es : List Sy.Ed) (a : Addr) (w : World) (hA : Sent w 13 a) (hv : BEdges.Has w v es) (hM : es.length ≤ M) (hm : es.length ≤ 100000) (hq : Sy.right n k s es = false) :
    Calls Tryd.prog 16 #[sysV n k s v] w fun r w' => ∃ x, r = .returned (.tuple #[.pointer none, x]) ∧ Chain w' 0 0 a [sysB] x ∧ Below w.heap.size w w' :=
  (new_any hS n k s v es a w hA hv hM hm).mono fun r w' h => by unfold NewAt at h; rw [if_neg (by rw [hq]; simp)] at h; exact h
end Go.Proofs.YtmfcfiiggmkbpaaDoor
/- Contract of the law's alive: a first call whose answer the document fixes. -/
namespace Go.Proofs.YtmfcfiiggmkbpaaDoor
open Go.RowKit Go.Maps
attribute [local go_sem ↓] Go.wp_at_zero Go.wp_at_succ
def esA : List Sy.Ed := [(0, 1, 1), (1, 0, 0), (2, 1, 0)]
theorem esA_right : Sy.right ((3 : Nat) : Int) 2 0 esA = true := by decide
theorem esA_out : (Sy.rowOf 3 (Sy.nf esA) 0).length = 1 := by decide
theorem esA_in : (Sy.rowOf 3 (Sy.nf ((Sy.nf esA).map Sy.turn)) 0).length = 2 := by decide
theorem esA_deg : Sy.degTo (Sy.nf esA) 3 = 1 := by decide
theorem esA_rea {p : Int} (h : Sy.Rea esA 0 p) : p = 0 ∨ p = 1 := by
  induction h with
  | start => exact .inl rfl
  | step e he _ ih =>
    simp only [esA, List.mem_cons, List.not_mem_nil, or_false] at he
    rcases he with rfl | rfl | rfl
    · exact .inr rfl
    · exact .inl rfl
    · exact .inl rfl
theorem esA_marks {ms : List Bool} (hl : ms.length = 3) (h : ∀ p : Nat, p < 3 → (ms[p]? = some true ↔ Sy.Rea esA 0 p)) : (Sy.marked ms).length = 2 := by
  match ms, hl with
  | [a, b, c], _ =>
    have ha : a = true := by have := (h 0 (by omega)).2 .start; simpa using this
    have hb : b = true := by have := (h 1 (by omega)).2 (.step (0, 1, 1) (by simp [esA]) .start); simpa using this
    have hc : c = false := by
      cases c with
      | false => rfl
      | true =>
        rcases esA_rea ((h 2 (by omega)).1 rfl) with e | e <;> omega
    subst ha hb hc
    decide
theorem esA_has (w : World) : BEdges.Has (w.alloc (.cells #[.int .i64 0, .int .i64 1, .int .i64 1, .int .i64 1, .int .i64 0, .int .i64 0, .int .i64 2, .int .i64 1, .int .i64 0] 49)) (.slice (some ⟨w.heap.size, 0, none⟩) 3 3) esA := by
  refine ⟨some ⟨w.heap.size, 0, none⟩, 3, rfl, fun j u hj => ⟨_, rfl, ?_⟩⟩
  rw [addz]
  refine cell0_of (heap_alloc_new w _) ?_
  rw [← Array.getElem?_toList]
  exact hj
set_option maxRecDepth 100000 in
set_option maxHeartbeats 4000000 in
theorem pAlive (a : Addr) (w : World) (h : Sent w 13 a) : PAlive w := fun W hb => by
  have hA := h.below hb
  clear h hb
  obtain ⟨w1, hw1⟩ : ∃ w1, w1 = W.alloc (.cells #[.int .i64 0, .int .i64 1, .int .i64 1, .int .i64 1, .int .i64 0, .int .i64 0, .int .i64 2, .int .i64 1, .int .i64 0] 49) := ⟨_, rfl⟩
  have hb1 : Below W.heap.size W w1 := by rw [hw1]; exact (Below.refl _ _).alloc (Nat.le_refl _) _
  have hv := esA_has W
  rw [← hw1] at hv
  have hN := new_ok sort12 ((3 : Nat) : Int) 2 0 (.slice (some ⟨W.heap.size, 0, none⟩) 3 3) esA a w1 (hA.below hb1) hv (by decide) (by decide) esA_right
  unfold sysV at hN
  have HN : Hid _ := And.intro hN (And.intro hb1 hw1)
  clear hN hb1 hw1 hv hA
  go_enter Tryd.func7, Tryd.ntmps7
  go_wp2_with fail
  rw [← HN.out.2.2]
  refine Calls.mono HN.out.1 ?_
  rintro r w2 ⟨g, bs, bb, cs, cb, m, hm, rfl, hG, hb2⟩
  obtain rfl : m = 3 := by omega
  have hbw := HN.out.2.1.trans (hb2.mono HN.out.2.1.size)
  have H2 : Hid _ := And.intro hG hbw
  clear hG hb2 hm hbw HN
  go_wp2_with fail
  refine Calls.mono (out_any 0 _ H2.out.1) ?_
  rintro r w3 ⟨u3, rfl, hO3, hb3⟩
  obtain ⟨a3, c3, rfl⟩ := row_shape hO3
  rw [esA_out]
  have hG3 := H2.out.1.below hb3
  have H3 : Hid _ := And.intro hG3 (H2.out.2.trans (hb3.mono H2.out.2.size))
  clear hG3 hb3 hO3 H2
  go_wp2_with fail
  refine Calls.mono (in_any 0 _ H3.out.1) ?_
  rintro r w4 ⟨u4, rfl, hO4, hb4⟩
  obtain ⟨a4, c4, rfl⟩ := row_shape hO4
  rw [esA_in]
  have hG4 := H3.out.1.below hb4
  have H4 : Hid _ := And.intro hG4 (H3.out.2.trans (hb4.mono H3.out.2.size))
  clear hG4 hb4 hO4 H3
  go_wp2_with fail
  refine Calls.mono (reach_any _ H4.out.1) ?_
  rintro r w5 ⟨u5, ms, rfl, hO5, hl5, hm5, hb5⟩
  obtain ⟨a5, c5, rfl⟩ := row_shape hO5
  rw [esA_marks hl5 hm5]
  have hG5 := H4.out.1.below hb5
  have H5 : Hid _ := And.intro hG5 (H4.out.2.trans (hb5.mono H4.out.2.size))
  clear hG5 hb5 hO5 H4 hl5 hm5
  go_wp2_with fail
  refine Calls.mono (degree_any _ H5.out.1) ?_
  rintro r w6 ⟨rfl, hb6⟩
  rw [esA_deg]
  have H6 : Hid _ := H5.out.2.trans (hb6.mono H5.out.2.size)
  clear hb6 H5
  go_wp2_with fail
  go_ret
  exact ⟨rfl, H6.out⟩
end Go.Proofs.YtmfcfiiggmkbpaaDoor
/- Contracts of the book's SameSystem, Lent and Stays. -/
namespace Go.Proofs.YtmfcfiiggmkbpaaDoor
open Go.RowKit Go.Maps
attribute [local go_sem ↓] Go.wp_at_zero Go.wp_at_succ
set_option maxRecDepth 100000 in
set_option maxHeartbeats 2000000 in
theorem sameSystem_b (n k s : Int) (va vb : Value) (es : List Sy.Ed) (w : World) (hn : es.length ≤ 1000000) (hA : BEdges.Has w va es) (hB : BEdges.Has w vb es) :
    Calls Tryd.prog 9 #[sysV n k s va, sysV n k s vb] w fun e w' => e = .returned (.bool true) ∧ Below w.heap.size w w' := by
  obtain ⟨w1, hw1⟩ : ∃ w1, w1 = (w.alloc (.cells #[.int .i64 n, .int .i64 k, .int .i64 s, va] 24)).alloc (.cells #[.int .i64 n, .int .i64 k, .int .i64 s, vb] 24) := ⟨_, rfl⟩
  have hb1 : Below w.heap.size w w1 := by rw [hw1]; exact ((Below.refl _ _).alloc (Nat.le_refl _) _).alloc (by simp) _
  have H1 : Hid _ := And.intro (BEdges.same_b va vb es w1 (by omega) (hA.below hb1) (hB.below hb1)) (And.intro hb1 hw1)
  obtain ⟨ao, cap, rfl, _⟩ := hA
  obtain ⟨bo, cbp, rfl, _⟩ := hB
  unfold sysV
  have nn : ¬ w.heap.size + 1 = w.heap.size := by omega
  clear hb1 hw1
  go_enter Tryd.func9, Tryd.ntmps9
  go_wp2_with fail
  rw [← H1.out.2.2]
  refine Calls.mono H1.out.1 ?_
  rintro e w2 ⟨rfl, hb2⟩
  have H2 : Hid _ := H1.out.2.1.trans (hb2.mono H1.out.2.1.size)
  clear hb2
  go_wp2_with fail
  go_ret
  exact ⟨rfl, H2.out⟩
/-- The marks behind what is lent. -/
def mk3 : List Sy.Ed := [(-7, 0, 0), (-7, 1, 0), (-7, 2, 0)]
/-- A list with room behind it, in which the marks stand. -/
def LentE (w : World) (B : Nat) (u : Value) (es : List Sy.Ed) : Prop := ∃ g cap, u = .slice (some ⟨g, 0, none⟩) es.length cap ∧ es.length + 3 ≤ cap ∧ BEdges.Own w B (.slice (some ⟨g, 0, none⟩) (es.length + 3) cap) (es ++ mk3)
theorem LentE.below {w w' : World} {B : Nat} {u : Value} {es : List Sy.Ed} (h : LentE w B u es) (hb : Below w.heap.size w w') : LentE w' B u es := by
  obtain ⟨g, cap, h1, h2, h3⟩ := h
  exact ⟨g, cap, h1, h2, trow_at h3 fun b hb' => hb.block b (h3.lt b hb').2⟩
theorem LentE.hasE {w : World} {B : Nat} {u : Value} {es : List Sy.Ed} (h : LentE w B u es) : HasE w u es := by
  obtain ⟨g, cap, rfl, h2, h3⟩ := h
  have h4 := HasE.of_own h3
  have h5 := hasE_take h4 es.length (by rw [List.length_append]; omega)
  rw [List.take_left' rfl] at h5
  exact h5
end Go.Proofs.YtmfcfiiggmkbpaaDoor
/- GraphReached as a call. -/
namespace Go.Proofs.YtmfcfiiggmkbpaaDoor
open Go.RowKit Go.Maps
attribute [local go_sem ↓] Go.wp_at_zero Go.wp_at_succ
/-- The marks, and the list that they are set from. -/
structure RdAt (w wr : World) (gi : Nat) (u : Value) (zs : List Int) (bs : List Bool) : Prop where
  inn : Arr 4 w wr gi (bC bs)
  lst : OwnI wr (gi + 1) u zs
theorem RdAt.mark {w wr : World} {gi : Nat} {u : Value} {zs : List Int} {bs : List Bool} (h : RdAt w wr gi u zs bs) (q : Nat) : RdAt w (wr.setCell ⟨gi, q, none⟩ (.bool true)) gi u zs (bs.set q true) := by
  refine ⟨by rw [← bC_set]; exact h.inn.set q _, trow_at h.lst fun b hb => (Kept.setCell wr gi q (.bool true)).block b (h.lst.lt b hb).2 fun e => ?_⟩
  have := (h.lst.lt b hb).1
  omega
set_option maxRecDepth 100000 in
set_option maxHeartbeats 4000000 in
theorem lawReached_out (n k s : Int) (v : Value) (es : List Sy.Ed) (w : World) (hA : PAlive w) (hv : HasE w v es) (hlen : 300 < es.length ∨ 60 < n) :
    Calls Tryd.prog 6 #[sysV n k s v] w fun r w' => r = .returned (.bool true) ∧ Below w.heap.size w w' := by
  obtain ⟨ao, cap, rfl, hcap, hH⟩ := hv
  obtain ⟨L, hL⟩ : ∃ L, L = es.length := ⟨_, rfl⟩
  rw [← hL] at hcap hlen ⊢
  have HA : Hid (PAlive w) := hA
  have hb0 : ∀ o, Below w.heap.size w (w.alloc o) := fun o => (Below.refl _ _).alloc (Nat.le_refl _) _
  have HB : Hid (∀ o, Below w.heap.size w (w.alloc o)) := hb0
  unfold sysV
  clear hA hH hcap hb0 hL
  by_cases h1 : 300 < L
  · have q1 : (300 : Int) < (L : Int) := by omega
    clear hlen
    go_enter Tryd.func6, Tryd.ntmps6
    go_wp2_with (go_at_call 7; refine Calls.mono (HA.out _ (HB.out _)) ?_; rintro r w1 ⟨rfl, hb1⟩; have hb2 := bel9 hb1 (HB.out _))
    go_ret
    exact ⟨rfl, hb2⟩
  · have q1 : ¬ (300 : Int) < (L : Int) := by omega
    have q2 : (60 : Int) < n := by omega
    clear hlen
    go_enter Tryd.func6, Tryd.ntmps6
    go_wp2_with (go_at_call 7; refine Calls.mono (HA.out _ (HB.out _)) ?_; rintro r w1 ⟨rfl, hb1⟩; have hb2 := bel9 hb1 (HB.out _))
    go_ret
    exact ⟨rfl, hb2⟩
set_option maxRecDepth 100000 in
set_option maxHeartbeats 4000000 in
theorem lawReached_bad (hS : SortOk 1000000) (n k s : Int) (v : Value) (es : List Sy.Ed) (e : Addr) (w : World) (hA : PAlive w) (hE : Sent w 13 e) (hv : HasE w v es) (hlen : es.length ≤ 300) (hn : n ≤ 60) (hq : Sy.right n k s es = false) :
    Calls Tryd.prog 6 #[sysV n k s v] w fun r w' => r = .returned (.bool true) ∧ Below w.heap.size w w' := by
  have hN := fun W (hb : Below w.heap.size w W) => new_bad hS n k s v es e W (hE.below hb) (by obtain ⟨_, _, _, _, h⟩ := hv; exact h.below hb) (by omega) (by omega) hq
  obtain ⟨ao, cap, rfl, hcap, hH⟩ := hv
  obtain ⟨L, hL⟩ : ∃ L, L = es.length := ⟨_, rfl⟩
  rw [← hL] at hcap hlen hN ⊢
  have HA : Hid _ := And.intro hA hN
  have hb0 : ∀ o, Below w.heap.size w (w.alloc o) := fun o => (Below.refl _ _).alloc (Nat.le_refl _) _
  have HB : Hid (∀ o, Below w.heap.size w (w.alloc o)) := hb0
  unfold sysV at HA ⊢
  have q1 : ¬ (300 : Int) < (L : Int) := by omega
  have q2 : ¬ (60 : Int) < n := by omega
  clear hA hH hcap hb0 hL hN hE hq
  go_enter Tryd.func6, Tryd.ntmps6
  go_wp2_with fail
  refine Calls.mono (HA.out.2 _ (HB.out _)) ?_
  rintro r w1 ⟨x, rfl, hC, hb1⟩
  have hb2 := bel9 hb1 (HB.out _)
  obtain ⟨bx, ux, hx1, _, _⟩ := hC
  have H1 : Hid _ := hb2
  subst hx1
  clear hb1 hb2
  go_wp2_with fail
  refine Calls.mono (HA.out.1 _ H1.out) ?_
  rintro r w2 ⟨rfl, hb2⟩
  have H2 : Hid _ := bel9 hb2 H1.out
  clear hb2
  go_wp2_with fail
  go_ret
  exact ⟨rfl, H2.out⟩
set_option maxRecDepth 100000 in
set_option maxHeartbeats 16000000 in
theorem lawReached_in (hS : SortOk 1000000) (n : Nat) (k s : Int) (v : Value) (es : List Sy.Ed) (e : Addr) (w : World) (hA : PAlive w) (hE : Sent w 13 e) (hv : HasE w v es) (hlen : es.length ≤ 300) (hn : n ≤ 60) (hq : Sy.right n k s es = true) :
    Calls Tryd.prog 6 #[sysV n k s v] w fun r w' => r = .returned (.bool true) ∧ Below w.heap.size w w' := by
  obtain ⟨i0, hi0, hz0, hz1, hz2⟩ := info_parts Tryd.infoI4
  have hvs := hv
  obtain ⟨ao, cap, rfl, hcap, hH⟩ := hvs
  obtain ⟨L, hL⟩ : ∃ L, L = es.length := ⟨_, rfl⟩
  rw [← hL] at hcap hlen ⊢
  obtain ⟨w1, hw1⟩ : ∃ w1, w1 = w.alloc (.cells #[.int .i64 n, .int .i64 k, .int .i64 s, .slice ao L cap] 24) := ⟨_, rfl⟩
  have hb1 : Below w.heap.size w w1 := by rw [hw1]; exact (Below.refl _ _).alloc (Nat.le_refl _) _
  have hg1 : w1.heap[w.heap.size]? = some (.cells #[.int .i64 n, .int .i64 k, .int .i64 s, .slice ao L cap] 24 (0, 0)) := by rw [hw1]; exact heap_alloc_new w _
  have hN := new_ok hS n k s (.slice ao L cap) es e w1 (hE.below hb1) (by rw [hL]; obtain ⟨_, _, _, _, h⟩ := hv; exact h.below hb1) (by omega) (by omega) hq
  unfold sysV at hN ⊢
  have HV : Hid (BEdges.Has w (.slice ao L cap) es ∧ L = es.length ∧ PAlive w ∧ Sent w 13 e ∧ Sy.right n k s es = true) := (by obtain ⟨_, _, _, _, h⟩ := hv; rw [hL]; exact ⟨h, rfl, hA, hE, hq⟩)
  have H1 : Hid _ := And.intro hw1 (And.intro hb1 (And.intro hg1 hN))
  obtain ⟨x0, x1, x2, x3⟩ := four_cells hg1
  have q1 : ¬ (300 : Int) < (L : Int) := by omega
  have q2 : ¬ (60 : Int) < (n : Int) := by omega
  clear hA hE hv hH hcap hL hw1 hb1 hg1 hq hN
  go_enter Tryd.func6, Tryd.ntmps6
  go_upto_region 1 with fail
  rw [← H1.out.1]
  go_wp2_with fail
  refine Calls.mono H1.out.2.2.2 ?_
  rintro r w2 ⟨g, bs, bb, cs, cb, m, hnm, rfl, hG2, hb2⟩
  obtain rfl : m = n := by omega
  have hg2 := res_up9 hb2 H1.out.2.2.1
  have hb02 := bel9 hb2 H1.out.2.1
  have H2 : Hid _ := And.intro hG2 (And.intro hb02 hg2)
  clear x0 x1 x2 x3 hnm
  obtain ⟨x0, x1, x2, x3⟩ := four_cells hg2
  by_cases h0 : m = 0
  · have z1 : ((m : Int) == 0) = true := by simp [h0]
    clear h0 hG2 hb02 hg2 hb2
    go_wp2_with fail
    refine Calls.mono (HV.out.2.2.1 _ H2.out.2.1) ?_
    rintro r w3 ⟨rfl, hb3⟩
    have H3 : Hid _ := bel9 hb3 H2.out.2.1
    clear hb3
    go_wp2_with fail
    go_ret
    exact ⟨rfl, H3.out⟩
  · have z1 : ((m : Int) == 0) = false := by simp; omega
    have hmk := makeB m (by omega) w2
    have hA0 := arr_new 4 (.bool false) rfl m w2
    obtain ⟨w3, hw3⟩ : ∃ w3, w3 = w2.alloc (.cells (madeV (.bool false) m) 4) := ⟨_, rfl⟩
    rw [← hw3] at hA0 hmk
    rw [bC_rep] at hA0
    have hs3 : w3.heap.size = w2.heap.size + 1 := by rw [hw3]; simp
    have hRe := reach_any w3 (hG2.below hA0.bl)
    obtain ⟨gi, hgi⟩ : ∃ gi, gi = w2.heap.size := ⟨_, rfl⟩
    rw [← hgi] at hA0 hmk
    have H3 : Hid _ := And.intro hRe (And.intro hA0 (And.intro hw3 (And.intro hs3 (And.intro hgi h0))))
    clear h0 hG2 hb02 hg2 hb2 hA0 hw3 hRe hs3 hgi
    go_wp2_with fail
    refine Calls.mono H3.out.1 ?_
    rintro r w4 ⟨u, ms, rfl, hO4, hml, hms, hb4⟩
    have hMk : Sy.Mk m k s es ms := ⟨HV.out.2.2.2.2, by have := H3.out.2.2.2.2.2; omega, hml, hms⟩
    obtain ⟨au, cu, hu⟩ := row_shape hO4
    obtain ⟨P, hP⟩ : ∃ P, P = (Sy.marked ms).length := ⟨_, rfl⟩
    rw [← hP] at hu
    subst hu
    have hPm : P ≤ 60 := by
      have h1 := Sy.marked_len ms
      have h2 : ms.count true ≤ ms.length := List.count_le_length
      omega
    have hR0 : RdAt w2 w4 gi (.slice au P cu) (Sy.marked ms) (Sy.sets m (Sy.marked ms) 0) := ⟨by rw [Sy.sets_zero]; exact H3.out.2.1.below hb4, row_base hO4 (by have := H3.out.2.2.2.1; have := H3.out.2.2.2.2.1; omega)⟩
    have H4 : Hid _ := And.intro hMk (And.intro hP hR0)
    clear hMk hP hR0 hO4 hml hms hb4 x0 x1 x2 x3 hmk z1
    go_wp2_with fail
    go_loopg [44] P (fun q tv wr => ∃ j : Nat, q = P - j ∧ j ≤ P ∧ tv = .int .i64 j ∧ RdAt w2 wr gi (.slice au P cu) (Sy.marked ms) (Sy.sets m (Sy.marked ms) j))
    case atStart => exact ⟨0, rfl, Nat.zero_le _, rfl, H4.out.2.2⟩
    case round =>
      obtain ⟨j, rfl, hj, rfl, hR⟩ := hrel
      obtain ⟨wq, rfl⟩ : ∃ wq, wq = wr := ⟨_, rfl⟩
      have hg4 := res_up9 hR.inn.bl H2.out.2.2
      obtain ⟨x0, x1, x2, x3⟩ := four_cells hg4
      by_cases hjp : j < P
      · obtain ⟨z, hz⟩ : ∃ z, (Sy.marked ms)[j]? = some z := ⟨(Sy.marked ms)[j]'(by have := H4.out.2.1; omega), List.getElem?_eq_getElem _⟩
        obtain ⟨p, rfl, hpl, hpm, _⟩ := Sy.marked_at hz
        have hpn : p < m := by rw [← H4.out.1.len]; exact hpl
        obtain ⟨ga, rfl, cz⟩ := own_num hR.lst hz
        have cf := hR.inn.free p
        obtain ⟨b, hb⟩ : ∃ b, (Sy.sets m (Sy.marked ms) j)[p]? = some b := ⟨_, Sy.sets_at hpn⟩
        have cb := hR.inn.cell (bC_at hb)
        have k0 : (0 : Int) ≤ (j : Int) := by omega
        have k1 : (j : Int) < (P : Int) := by omega
        have k2 : (0 : Int) ≤ (p : Int) := by omega
        have k3 : (p : Int) < (m : Int) := by omega
        have k4 : ¬ (p : Int) < 0 := by omega
        have k5 : ¬ (m : Int) ≤ (p : Int) := by omega
        have hnx : RdAt w2 (wq.setCell ⟨gi, p, none⟩ (.bool true)) gi (.slice (some ⟨ga, 0, none⟩) P cu) (Sy.marked ms) (Sy.sets m (Sy.marked ms) (j + 1)) := by
          have h1 := hR.mark p
          rw [Sy.sets_step hz hpn] at h1
          exact h1
        have HX : Hid _ := hnx
        clear hnx hR hg4 hz hpl hpm hb
        go_wp2_with fail
        go_roundg (P - (j + 1))
        case measure => omega
        case rel => exact ⟨j + 1, rfl, by omega, by go_num, HX.out⟩
      · have k1 : ¬ (j : Int) < (P : Int) := by omega
        have hI : Arr 4 w2 wq gi (bC ms) := by
          have h1 := hR.inn
          rw [Sy.sets_full H4.out.1.len (show j = (Sy.marked ms).length by have := H4.out.2.1; omega)] at h1
          exact h1
        have hb0q := bel9 hI.bl H2.out.2.1
        have hCu := cut_any wq (H2.out.1.below hI.bl)
        unfold sysV at hCu
        have H5 : Hid _ := And.intro hI (And.intro hb0q (And.intro hg4 (And.intro (HV.out.1.below hb0q) hCu)))
        clear hI hb0q hCu hR hg4
        go_wp2_with fail
        go_loopg [8] L (fun q tv wr => ∃ j2 : Nat, q = L - j2 ∧ j2 ≤ L ∧ tv = .int .i64 j2 ∧ wr = wq)
        case atStart => exact ⟨0, rfl, Nat.zero_le _, rfl, rfl⟩
        case round =>
          obtain ⟨j2, rfl, hj2, rfl, hwr⟩ := hrel
          subst hwr
          by_cases hjl : j2 < L
          · obtain ⟨z, hz⟩ : ∃ z, es[j2]? = some z := ⟨es[j2]'(by have := HV.out.2.1; omega), List.getElem?_eq_getElem _⟩
            obtain ⟨a, rfl, c0, _, c2⟩ := edge_at H5.out.2.2.2.1 hz
            obtain ⟨pa, pb, ea, eb, han, hbn, hab⟩ := H4.out.1.ends (List.mem_of_getElem? hz)
            rw [ea] at c0
            rw [eb] at c2
            obtain ⟨ba, hba⟩ : ∃ b, ms[pa]? = some b := ⟨ms[pa]'(by rw [H4.out.1.len]; exact han), List.getElem?_eq_getElem _⟩
            have d0 := H5.out.1.cell (bC_at hba)
            have k0 : (0 : Int) ≤ (j2 : Int) := by omega
            have k2 : (j2 : Int) < (L : Int) := by omega
            have k3 : (0 : Int) ≤ (pa : Int) := by omega
            have k4 : (pa : Int) < (m : Int) := by omega
            have k5 : (0 : Int) ≤ (pb : Int) := by omega
            have k6 : (pb : Int) < (m : Int) := by omega
            cases ba with
            | true =>
              have d1 := H5.out.1.cell (bC_at (hab hba))
              clear hz ea eb hab hba
              go_wp2_with fail
              go_roundg (L - (j2 + 1))
              case measure => omega
              case rel => exact ⟨j2 + 1, rfl, by omega, by go_num, rfl⟩
            | false =>
              clear hz ea eb hab hba
              go_wp2_with fail
              go_roundg (L - (j2 + 1))
              case measure => omega
              case rel => exact ⟨j2 + 1, rfl, by omega, by go_num, rfl⟩
          · have k2 : ¬ (j2 : Int) < (L : Int) := by omega
            clear hj2 hjl
            go_wp2_with fail
            refine Calls.mono H5.out.2.2.2.2 ?_
            rintro r w6 ⟨ms2, u2, va2, rfl, hml2, hms2, hOu, hOv, hb6⟩
            obtain rfl : ms = ms2 := H4.out.1.same hml2 hms2
            obtain ⟨au2, cu2, hu2⟩ := row_shape hOu
            obtain ⟨av, cv, hv2⟩ := row_shape hOv
            rw [Sy.ranks_len, hml2] at hv2
            obtain ⟨P2, hP2⟩ : ∃ P2, P2 = (Sy.cutE ms (Sy.nf es)).length := ⟨_, rfl⟩
            rw [← hP2] at hu2
            subst hu2
            subst hv2
            have hcut := H4.out.1.cut
            obtain ⟨ct, hct⟩ : ∃ ct : Nat, ct = ms.count true := ⟨_, rfl⟩
            obtain ⟨st, hst⟩ : ∃ st, st = Sy.startOf m ms s := ⟨_, rfl⟩
            rw [← hct, ← hst] at hcut
            rw [← hct, ← hst]
            obtain ⟨w7, hw7⟩ : ∃ w7, w7 = w6.alloc (.cells #[.int .i64 ct, .int .i64 k, .int .i64 st, .slice au2 P2 cu2] 24) := ⟨_, rfl⟩
            have hb7 : Below w6.heap.size w6 w7 := by rw [hw7]; exact (Below.refl _ _).alloc (Nat.le_refl _) _
            have hg7 : w7.heap[w6.heap.size]? = some (.cells #[.int .i64 ct, .int .i64 k, .int .i64 st, .slice au2 P2 cu2] 24 (0, 0)) := by rw [hw7]; exact heap_alloc_new w6 _
            have hbq7 := bel9 hb7 hb6
            have hb07 := bel9 hbq7 H5.out.2.1
            have hlen2 : (Sy.cutE ms (Sy.nf es)).length ≤ 300 := by
              have h1 := Sy.cutE_len ms (Sy.nf es)
              have h2 := Sy.nf_len es
              have h3 := HV.out.2.1
              omega
            have hN2 := new_ok hS ct k st (.slice au2 P2 cu2) (Sy.cutE ms (Sy.nf es)) e w7 (HV.out.2.2.2.1.below hb07) ((BEdges.Own.has hOu).below hb7) (by omega) (by omega) hcut
            unfold sysV at hN2
            have H7 : Hid _ := And.intro hw7 (And.intro hb07 (And.intro (H5.out.1.below hbq7) (And.intro (res_up9 hbq7 H5.out.2.2.1) (And.intro hg7 (And.intro (trow_at (w' := w7) hOv fun b e => hb7.block b (hOv.lt b e).2) (And.intro hN2 (And.intro hct hst)))))))
            obtain ⟨c0, c1, c2, c3⟩ := four_cells hg7
            clear hw7 hb7 hg7 hbq7 hb07 hlen2 hN2 hOu hOv hb6 hml2 hms2 hct hst hcut hP2
            go_upto_region 20 with fail
            rw [← H7.out.1]
            go_wp2_with fail
            refine Calls.mono H7.out.2.2.2.2.2.2.1 ?_
            rintro r w8 ⟨g8, bs8, bb8, cs8, cb8, m8, hm8, rfl, hG8, hb8⟩
            obtain rfl : ct = m8 := by omega
            obtain ⟨t, ht, htm, hmt⟩ := H4.out.1.start
            have hI8 := H7.out.2.2.1.below hb8
            have hgx := res_up9 hb8 H7.out.2.2.2.1
            have hgy := res_up9 hb8 H7.out.2.2.2.2.1
            have hOv8 := trow_at (w' := w8) H7.out.2.2.2.2.2.1 fun b e => hb8.block b (H7.out.2.2.2.2.2.1.lt b e).2
            have hst2 : (Sy.ranks ms)[t]? = some st := by
              rw [Sy.rk_at (by rw [H4.out.1.len]; exact htm), H7.out.2.2.2.2.2.2.2.2]
              unfold Sy.startOf
              rw [if_pos H4.out.1.pos, ht]
            obtain ⟨ga, hga, cs⟩ := own_num hOv8 hst2
            subst hga
            have ci := hI8.cell (bC_at hmt)
            clear x0 x1 x2 x3 c0 c1 c2 c3
            obtain ⟨x0, x1, x2, x3⟩ := four_cells hgx
            obtain ⟨y0, y1, y2, y3⟩ := four_cells hgy
            rw [ht] at x2
            have k3 : (0 : Int) ≤ (t : Int) := by omega
            have k4 : (t : Int) < (m : Int) := by omega
            have hRe8 := fun W (h : Below w8.heap.size w8 W) => reach_any W (hG8.below h)
            have HR8 : Hid _ := hRe8
            have H8 : Hid _ := And.intro (bel9 hb8 H7.out.2.1) (And.intro hI8 (And.intro hgx (And.intro hgy hOv8)))
            clear hb8 hI8 hgx hgy hOv8 hst2 hmt htm hG8 hm8 x1 x3 y1 y3 hRe8
            have z1 : ((m : Int) != (m : Int)) = false := by simp
            have z2 : (st != st) = false := by simp
            have z3 : ((ct : Int) != (ct : Int)) = false := by simp
            go_upto_region 21 with fail
            go_region_held3 (fun w' => ((w'.cell? ⟨w.heap.size, 0, none⟩ = some (.int .i64 m) ∧ w'.cell? ⟨w.heap.size, 2, none⟩ = some (.int .i64 t) ∧ w'.cell? ⟨w6.heap.size, 0, none⟩ = some (.int .i64 ct)) ∧ (w'.cell? ⟨w6.heap.size, 2, none⟩ = some (.int .i64 st) ∧ w'.cell? ⟨gi, t, none⟩ = some (.bool true) ∧ w'.cell? ⟨ga, t, none⟩ = some (.int .i64 st))) ∧ Hid (Below w8.heap.size w8 w')) (first | exact rg_up6 hb9 (by assumption) | exact ⟨⟨⟨x0, x2, y0⟩, ⟨y2, ci, cs⟩⟩, ((Below.refl _ _).drew : Below w8.heap.size w8 w8.drew)⟩ | go_keep)
              ((first
                | (go_at_call 13; refine (HR8.out _ (rg_b (by assumption))).mono ?_; rintro r w9 ⟨u9, ms9, rfl, hO9, hml9, hms9, hb9⟩; obtain ⟨au9, cu9, hu9⟩ := row_shape hO9; rw [show (Sy.marked ms9).length = ct by (rw [H7.out.2.2.2.2.2.2.2.1] at hml9 hms9 ⊢; rw [H7.out.2.2.2.2.2.2.2.2] at hms9; exact H4.out.1.full hml9 hms9)] at hu9; subst hu9)
                | fail))
            have hb89 : Below w8.heap.size w8 w9 := rg_b (by assumption)
            have hgx := res_up9 hb89 H8.out.2.2.1
            have hgy := res_up9 hb89 H8.out.2.2.2.1
            have H9 : Hid _ := And.intro (bel9 hb89 H8.out.1) (And.intro (H8.out.2.1.below hb89) (And.intro hgx (And.intro hgy (trow_at (w' := w9) H8.out.2.2.2.2 fun b e => hb89.block b (H8.out.2.2.2.2.lt b e).2))))
            clear x0 x2 y0 y2 cs ci k3 k4 hb9 hO9 hml9 hms9 hb89 hgx hgy
            go_wp2_with fail
            go_loopg [13, 14] m (fun q cv pv wr => ∃ p : Nat, q = m - p ∧ p ≤ m ∧ cv = .int .i64 ((ms.take p).count true : Nat) ∧ pv = .int .i64 p ∧ Below w9.heap.size w9 wr)
            case atStart => exact ⟨0, rfl, Nat.zero_le _, by simp, rfl, Below.refl _ _⟩
            case round =>
              obtain ⟨p, rfl, hp, rfl, rfl, hb⟩ := hrel
              obtain ⟨wp, rfl⟩ : ∃ wp, wp = wr := ⟨_, rfl⟩
              obtain ⟨x0, x1, x2, x3⟩ := four_cells (res_up9 hb H9.out.2.2.1)
              have hHP : Hid (Below w9.heap.size w9 wp) := hb
              by_cases hpm : p < m
              · obtain ⟨b, hbp⟩ : ∃ b, ms[p]? = some b := ⟨ms[p]'(by rw [H4.out.1.len]; exact hpm), List.getElem?_eq_getElem _⟩
                have ci := (H9.out.2.1.below hb).cell (bC_at hbp)
                have hrk := Sy.rk_at (bs := ms) (i := p) (by rw [H4.out.1.len]; exact hpm)
                rw [Sy.rk_val (by rw [H4.out.1.len]; exact hpm)] at hrk
                obtain ⟨gq, hgq, cq⟩ := own_num (trow_at (w' := wp) H9.out.2.2.2.2 fun b e => hb.block b (H9.out.2.2.2.2.lt b e).2) hrk
                have hct := Sy.count_take hbp
                injection hgq with hgq
                injection hgq with hgq
                subst hgq
                have k0 : (0 : Int) ≤ (p : Int) := by omega
                have k3 : (p : Int) < (m : Int) := by omega
                cases b with
                | true =>
                  rw [if_pos hbp] at cq
                  rw [if_pos rfl] at hct
                  obtain ⟨c, hc⟩ : ∃ c, c = (ms.take p).count true := ⟨_, rfl⟩
                  rw [← hc] at cq hct
                  rw [← hc]
                  have hcl : c ≤ 60 := by
                    have h1 : (ms.take p).count true ≤ (ms.take p).length := List.count_le_length
                    rw [List.length_take] at h1
                    omega
                  have k5 : decide ((0 : Int) ≤ (c : Int)) = true := decide_eq_true (by omega)
                  have k6 : ((c : Int) != (c : Int)) = false := by simp
                  have HC : Hid _ := hct
                  clear hbp hrk hct hb hc
                  go_upto_region 27 with fail
                  go_quiet (fail)
                  rename Nat => q5
                  go_wp2_with fail
                  go_roundg (m - (p + 1))
                  case measure => omega
                  case rel => exact ⟨p + 1, rfl, by omega, by rw [HC.out]; go_num, by go_num, below_drewN hHP.out _⟩
                | false =>
                  rw [if_neg (by rw [hbp]; simp)] at cq
                  rw [if_neg (by simp)] at hct
                  have HC : Hid _ := hct
                  clear hbp hrk hct hb
                  go_upto_region 27 with fail
                  go_quiet (fail)
                  rename Nat => q5
                  go_wp2_with fail
                  go_roundg (m - (p + 1))
                  case measure => omega
                  case rel => exact ⟨p + 1, rfl, by omega, by rw [HC.out]; go_num, by go_num, below_drewN hHP.out _⟩
              · have k3 : ¬ (p : Int) < (m : Int) := by omega
                have hcm : (ms.take p).count true = ct := by
                  rw [H7.out.2.2.2.2.2.2.2.1, List.take_of_length_le (by rw [H4.out.1.len]; omega)]
                rw [hcm]
                clear hb hcm
                go_wp2_with fail
                refine Calls.mono (HV.out.2.2.1 _ (bel9 hHP.out H9.out.1)) ?_
                rintro r w10 ⟨rfl, hb10⟩
                obtain ⟨y0, y1, y2, y3⟩ := four_cells (res_up9 (bel9 hb10 hHP.out) H9.out.2.2.2.1)
                have H10 : Hid _ := bel9 hb10 (bel9 hHP.out H9.out.1)
                have k4 : ((ct : Int) == (ct : Int)) = true := by simp
                clear hb10 x0 x1 x2 x3 y1 y2 y3
                go_wp2_with fail
                go_ret
                exact ⟨rfl, H10.out⟩
theorem lawReached_any (hS : SortOk 1000000) (n k s : Int) (v : Value) (es : List Sy.Ed) (e : Addr) (w : World) (hA : PAlive w) (hE : Sent w 13 e) (hv : HasE w v es) :
    Calls Tryd.prog 6 #[sysV n k s v] w fun r w' => r = .returned (.bool true) ∧ Below w.heap.size w w' := by
  by_cases h : 300 < es.length ∨ 60 < n
  · exact lawReached_out n k s v es w hA hv h
  · cases hq : Sy.right n k s es with
    | false => exact lawReached_bad hS n k s v es e w hA hE hv (by omega) (by omega) hq
    | true =>
      obtain ⟨m, rfl⟩ : ∃ m : Nat, n = (m : Int) := ⟨n.toNat, by have := (right_parts hq).1; omega⟩
      exact lawReached_in hS m k s v es e w hA hE hv (by omega) (by omega) hq
end Go.Proofs.YtmfcfiiggmkbpaaDoor
