/- Texts of this claim, joined: SyNew, RoOf, RoLoop, SyEq, RoIter, RoAll, RoRows, RoDHand. -/
import Derived.Test.YtpmanmoljlhogaaGreatDoorPart10
import Derived.Test.YtpmanmoljlhogaaGreatDoorPart5
import Derived.Test.YtpmanmoljlhogaaGreatDoorPart4
import Derived.Deep.RegionHeld3
import Derived.RangeFuncNested
import Derived.RangeFuncBound
import Derived.RangeFuncCalls
import Derived.RangeFuncLeaves
import Derived.RangeFuncBox
import Derived.RangeFuncWrites
import Derived.Test.YtpmanmoljlhogaaGreatDoorPart0
import Derived.Deep.LoopGhost
import Derived.Deep.QuietTactic
import Derived.BigQuiet
import Derived.WalkSmall
import Derived.Shelf.Abstract
import Derived.Shelf.RegionOpen
import Derived.WalkKit
import Derived.OwnWalkIn
import Derived.TacticsInMore
import Derived.LoopNIn
import Derived.LoopIn
import Derived.Maps.AppendAt
import Derived.Test.YtpmanmoljlhogaaGreatDoorPart3
import Derived.Test.YtpmanmoljlhogaaGreatDoorPart9
/- Contract of the program's New: a graph of the system's one form. -/
namespace Go.Proofs.YtpmanmoljlhogaaGreatDoor
open Go.RowKit Go.Maps
attribute [local go_sem ↓] Go.wp_at_zero Go.wp_at_succ
/-- In the order of the ends, each once: the one form of the edges turned round. -/
theorem inOrder_turn {es os : List Sy.Ed} (h : InOrder Sy.turn (Sy.nf es) os) : os.map Sy.turn = Sy.nf ((Sy.nf es).map Sy.turn) := by
  refine Sy.nf_of ?_ fun x => ?_
  · have hnd : os.Nodup := by
      rw [h.1.nodup_iff]
      have hs := Sy.nf_str es
      generalize Sy.nf es = l at hs
      induction l with
      | nil => exact List.nodup_nil
      | cons a r ih =>
        refine List.nodup_cons.2 ⟨fun ha => ?_, ih hs.tail⟩
        have h1 := hs.head a ha
        rw [Sy.lt_irrefl] at h1
        cases h1
    have hp := h.2
    clear h
    induction os with
    | nil => trivial
    | cons a r ih =>
      obtain ⟨h1, h2⟩ := List.pairwise_cons.1 hp
      obtain ⟨h3, h4⟩ := List.nodup_cons.1 hnd
      rw [List.map_cons]
      refine Sy.Str.cons (ih h4 h2) fun x hx => ?_
      obtain ⟨b, hb, rfl⟩ := List.mem_map.1 hx
      have h5 := h1 b hb
      cases h6 : Sy.lt (Sy.turn a) (Sy.turn b) with
      | true => rfl
      | false =>
        have h7 := congrArg Sy.turn (Sy.eq_of_not h6 h5)
        rw [turn_turn, turn_turn] at h7
        rw [h7] at h3
        exact absurd hb h3
  · rw [List.mem_map, List.mem_map]
    constructor
    · rintro ⟨a, ha, rfl⟩; exact ⟨a, h.1.mem_iff.1 ha, rfl⟩
    · rintro ⟨a, ha, rfl⟩; exact ⟨a, h.1.mem_iff.2 ha, rfl⟩
theorem rg_up4' {w2 wa wb : World} {a0 a1 a2 a3 : Addr} {x0 x1 x2 x3 : Value} (h : (wa.cell? a0 = some x0 ∧ wa.cell? a1 = some x1 ∧ wa.cell? a2 = some x2 ∧ wa.cell? a3 = some x3) ∧ Hid (Below w2.heap.size w2 wa)) (hb : Below wa.heap.size wa wb) : (wb.cell? a0 = some x0 ∧ wb.cell? a1 = some x1 ∧ wb.cell? a2 = some x2 ∧ wb.cell? a3 = some x3) ∧ Hid (Below w2.heap.size w2 wb) := rg_up4 hb h
/-- What New answers. -/
def NewAt (a : Addr) (n k s : Int) (es : List Sy.Ed) (w : World) (r : Ending) (w' : World) : Prop :=
  if Sy.right n k s es = true then ∃ (g bs bb cs cb m : Nat), n = (m : Int) ∧ r = .returned (.tuple #[.pointer (some ⟨g, 0, none⟩), .nilIface]) ∧ Gr w' w.heap.size g bs bb cs cb m k s es ∧ Below w.heap.size w w'
  else ∃ x, r = .returned (.tuple #[.pointer none, x]) ∧ Chain w' 0 0 a [sysB] x ∧ Below w.heap.size w w'
set_option maxRecDepth 100000 in
set_option maxHeartbeats 8000000 in
theorem new_any {M : Nat} (hS : SortOk M) (n k s : Int) (v : Value) (es : List Sy.Ed) (a : Addr) (w : World) (hA : Sent w 14 a) (hv : BEdges.Has w v es) (hM : es.length ≤ M) (hm : es.length ≤ 100000) :
    Calls Tryz.prog 95 #[sysV n k s v] w (NewAt a n k s es w) := by
  obtain ⟨w1, hw1⟩ : ∃ w1, w1 = w.alloc (.cells #[.int .i64 n, .int .i64 k, .int .i64 s, v] 24) := ⟨_, rfl⟩
  have hb1 : Below w.heap.size w w1 := by rw [hw1]; exact (Below.refl _ _).alloc (Nat.le_refl _) _
  have hg1 : w1.heap[w.heap.size]? = some (.cells #[.int .i64 n, .int .i64 k, .int .i64 s, v] 24 (0, 0)) := by rw [hw1]; exact heap_alloc_new w _
  have hN := normal_any hS n k s v es a w1 (hA.below hb1) (hv.below hb1) hM (by omega)
  obtain ⟨ao, cap, rfl, _⟩ := hv
  obtain ⟨m0, hm0⟩ : ∃ m0, m0 = es.length := ⟨_, rfl⟩
  rw [← hm0] at hN hg1 hw1 ⊢
  unfold sysV at hN ⊢
  have H1 : Hid _ := And.intro hN (And.intro hb1 (And.intro hg1 (And.intro hw1 hS)))
  have HM : Hid _ := And.intro hM hm
  cases hq : Sy.right n k s es with
  | false =>
    rw [hq] at H1
    unfold NewAt
    rw [hq]
    clear hN hb1 hg1 hw1 hS hA hq hm0 hM hm
    go_enter Tryz.func95, Tryz.ntmps95
    go_wp2_with fail
    rw [← H1.out.2.2.2.1]
    refine Calls.mono H1.out.1 ?_
    rintro r w2 ⟨x, u, rfl, hx, _, hb2⟩
    have hch : Chain w2 0 0 a [sysB] x := by simpa [SErr] using hx
    obtain ⟨T, y, rfl⟩ := hch.iface
    have hg2 := (hb2.block _ (t_lt H1.out.2.2.1)).trans H1.out.2.2.1
    obtain ⟨y0, y1, y2, y3⟩ := four_cells hg2
    have z0 := blk_free hg2 0
    have z1 := blk_free hg2 1
    have z2 := blk_free hg2 2
    have z3 := blk_free hg2 3
    have hbw := H1.out.2.1.trans (hb2.mono H1.out.2.1.size)
    have H2 : Hid _ := And.intro hch (And.intro hbw hg2)
    clear hb2 hg2 hbw hch hx
    go_wp2_with fail
    have hbf := four_below H2.out.2.1 (b := w.heap.size) (Nat.le_refl _) (.int .i64 0) (.int .i64 0) (.int .i64 0) (.slice none 0 0)
    have hcf := chain_st4 H2.out.1 H2.out.2.2 (.int .i64 0) (.int .i64 0) (.int .i64 0) (.slice none 0 0)
    unfold st4 at hcf
    go_ret2
    exact ⟨_, rfl, hcf, hbf⟩
  | true =>
    rw [hq] at H1
    have hrp := right_parts hq
    obtain ⟨q, rfl⟩ : ∃ q : Nat, n = (q : Int) := ⟨n.toNat, by omega⟩
    have HQ : Hid _ := And.intro hq hrp
    unfold NewAt
    rw [hq]
    clear hN hb1 hg1 hw1 hS hA hq hm0 hM hm hrp
    go_enter Tryz.func95, Tryz.ntmps95
    go_wp2_with fail
    rw [← H1.out.2.2.2.1]
    refine Calls.mono H1.out.1 ?_
    rintro r w2 ⟨x, u, rfl, hx, hO, hb2⟩
    have hO := hO trivial
    obtain rfl : x = .nilIface := by simpa [SErr] using hx
    obtain ⟨au, cu, rfl⟩ := row_shape hO
    have hg2 := (hb2.block _ (t_lt H1.out.2.2.1)).trans H1.out.2.2.1
    obtain ⟨y0, y1, y2, y3⟩ := four_cells hg2
    have z0 := blk_free hg2 0
    have z1 := blk_free hg2 1
    have z2 := blk_free hg2 2
    have z3 := blk_free hg2 3
    have hbw := H1.out.2.1.trans (hb2.mono H1.out.2.1.size)
    obtain ⟨L, hL⟩ : ∃ L, L = (Sy.nf es).length := ⟨_, rfl⟩
    obtain ⟨w3, hw3⟩ : ∃ w3, w3 = (((w2.setCell ⟨w.heap.size, 0, none⟩ (.int .i64 q)).setCell ⟨w.heap.size, 1, none⟩ (.int .i64 k)).setCell ⟨w.heap.size, 2, none⟩ (.int .i64 s)).setCell ⟨w.heap.size, 3, none⟩ (.slice au L cu) := ⟨_, rfl⟩
    rw [← hL]
    have hg3 : w3.heap[w.heap.size]? = some (.cells #[.int .i64 q, .int .i64 k, .int .i64 s, .slice au L cu] 24 (0, 0)) := by rw [hw3]; exact four_set hg2
    have hb3 : Below w.heap.size w w3 := by rw [hw3]; exact four_below hbw (Nat.le_refl _) _ _ _ _
    have hO3 : BEdges.Own w3 w.heap.size (.slice au (Sy.nf es).length cu) (Sy.nf es) := by
      rw [hw3]
      refine row_base (trow_at hO fun b hb => ?_) H1.out.2.1.size
      have n1 : b ≠ w.heap.size := fun e => own_bk hO hg2 (by decide) (e ▸ hb)
      rw [set_other _ _ _ _ _ n1, set_other _ _ _ _ _ n1, set_other _ _ _ _ _ n1, set_other _ _ _ _ _ n1]
    have H3 : Hid _ := And.intro hb3 (And.intro hO3 (And.intro hg3 (And.intro hw3 hL)))
    clear hO hb2 hg2 hbw hx hg3 hb3 hO3 hw3 hL
    have hle : L ≤ 10000 := by have := HQ.out.2.2.2.1; have := Sy.nf_len es; have := H3.out.2.2.2.2; omega
    have hqn : q ≤ 1000 := by have := HQ.out.2.1; omega
    have hnr : ∀ e ∈ Sy.nf es, 0 ≤ e.1 ∧ e.1 < (q : Int) ∧ 0 ≤ e.2.2 ∧ e.2.2 < (q : Int) := fun e he => by
      have := HQ.out.2.2.2.2.2.2 e ((Sy.nf_mem es e).1 he)
      exact ⟨this.1, this.2.1, this.2.2.1, this.2.2.2.1⟩
    have hTf : ∀ W, Below w3.heap.size w3 W → Calls Tryz.prog 130 #[.int .i64 q, .slice au L cu, .func (.func 131) #[] #[]] W fun r w' => ∃ bs bb, r = .returned (.agg #[.slice (some ⟨bs, 0, none⟩) L L, .slice (some ⟨bb, 0, none⟩) (q + 1) (q + 1)]) ∧ Tb w' w.heap.size bs bb q (Sy.nf es) ∧ Below W.heap.size W w' := fun W hb => by
      have hLL := H3.out.2.2.2.2
      have hOW : BEdges.Has W (.slice au (Sy.nf es).length cu) (Sy.nf es) := H3.out.2.1.has.below hb
      have h9 := tableOf_any _ _ forward_at q (.slice au (Sy.nf es).length cu) (Sy.nf es) W (by omega) (by omega) hOW (by rw [List.map_id']; exact fun e he => ⟨(hnr e he).1, (hnr e he).2.1⟩) (by rw [List.map_id']; exact nf_rows es)
      rw [List.map_id'] at h9
      rw [← hLL] at h9
      refine h9.mono fun r w' ⟨bs, bb, hr, h1, h2⟩ => ⟨bs, bb, hr, ⟨(Blk.of_arr h1).base ?_, (Blk.of_arr h2).base ?_⟩, h1.bl⟩
      · have := H3.out.1.size; have := hb.size; omega
      · have := H3.out.1.size; have := hb.size; omega
    have hOr : ∀ W, Below w3.heap.size w3 W → Calls Tryz.prog 132 #[.slice au L cu, .func (.func 133) #[] #[]] W fun r w' => ∃ u os, r = .returned u ∧ InOrder Sy.turn (Sy.nf es) os ∧ BEdges.Own w' W.heap.size u os ∧ Below W.heap.size W w' := fun W hb => by
      have hLL := H3.out.2.2.2.2
      have hOW : BEdges.Has W (.slice au (Sy.nf es).length cu) (Sy.nf es) := H3.out.2.1.has.below hb
      have h9 := ordered_any H1.out.2.2.2.2 _ _ backward_at (.slice au (Sy.nf es).length cu) (Sy.nf es) W (by have := Sy.nf_len es; have := HM.out.1; omega) (by omega) hOW
      rw [← hLL] at h9
      exact h9
    have hTb : ∀ W u os B, Below w3.heap.size w3 W → InOrder Sy.turn (Sy.nf es) os → BEdges.Own W B u os → Calls Tryz.prog 130 #[.int .i64 q, u, .func (.func 133) #[] #[]] W fun r w' => ∃ bs bb, r = .returned (.agg #[.slice (some ⟨bs, 0, none⟩) L L, .slice (some ⟨bb, 0, none⟩) (q + 1) (q + 1)]) ∧ Tb w' w.heap.size bs bb q (Sy.nf ((Sy.nf es).map Sy.turn)) ∧ Below W.heap.size W w' := fun W u os B hb hI hO => by
      have hLL := H3.out.2.2.2.2
      have hlo := hI.1.length_eq
      have het := inOrder_turn hI
      have h9 := tableOf_any _ _ backward_at q u os W (by omega) (by omega) hO.has (by
        rw [het]
        intro e he
        rw [Sy.nf_mem] at he
        obtain ⟨x, hx, rfl⟩ := List.mem_map.1 he
        exact ⟨(hnr x hx).2.2.1, (hnr x hx).2.2.2⟩) (by rw [het]; exact nf_rows _)
      rw [het, hlo, ← hLL] at h9
      refine h9.mono fun r w' ⟨bs, bb, hr, h1, h2⟩ => ⟨bs, bb, hr, ⟨(Blk.of_arr h1).base ?_, (Blk.of_arr h2).base ?_⟩, h1.bl⟩
      · have := H3.out.1.size; have := hb.size; omega
      · have := H3.out.1.size; have := hb.size; omega
    have HT : Hid _ := And.intro hTf (And.intro hOr hTb)
    clear hTf hOr hTb hnr
    go_upto_region 4 with fail
    rw [← H3.out.2.2.2.1]
    clear y0 y1 y2 y3 z0 z1 z2 z3
    obtain ⟨x0, x1, x2, x3⟩ := four_cells H3.out.2.2.1
    go_region_held3 (fun w' => (w'.cell? ⟨w.heap.size, 0, none⟩ = some (.int .i64 q) ∧ w'.cell? ⟨w.heap.size, 1, none⟩ = some (.int .i64 k) ∧ w'.cell? ⟨w.heap.size, 2, none⟩ = some (.int .i64 s) ∧ w'.cell? ⟨w.heap.size, 3, none⟩ = some (.slice au L cu)) ∧ Hid (Below w3.heap.size w3 w')) (first | exact rg_up4' (by assumption) hba | exact rg_up4' (by assumption) hbb | exact rg_up4' (by assumption) hbc | exact rg_up4' (by assumption) ((Below.refl _ _).alloc (Nat.le_refl _) _) | exact ⟨⟨x0, x1, x2, x3⟩, ((Below.refl _ _).drew : Below w3.heap.size w3 w3.drew)⟩ | go_keep)
      ((first
        | (go_at_call_of 130 (Value.slice au L cu); refine (HT.out.1 _ (rg_b (by assumption))).mono ?_; rintro r wa ⟨bs, bb, rfl, hTa, hba⟩)
        | (go_at_call 132; refine (HT.out.2.1 _ (rg_b (by assumption))).mono ?_; rintro r wb ⟨u5, os, rfl, hIo, hOb, hbb⟩)
        | (go_at_call_of 130 u5; refine (HT.out.2.2 _ _ os _ (rg_b (by assumption)) hIo (by first | exact hOb | exact trow_at hOb fun b hb => hba.block _ (hOb.lt b hb).2)).mono ?_; rintro r wc ⟨cs, cb, rfl, hTc, hbc⟩)
        | fail))
    have hal : Below wc.heap.size wc (wc.alloc (.cells #[.int .i64 q, .int .i64 k, .int .i64 s, .slice (some ⟨bs, 0, none⟩) L L, .slice (some ⟨bb, 0, none⟩) (q + 1) (q + 1), .slice (some ⟨cs, 0, none⟩) L L, .slice (some ⟨cb, 0, none⟩) (q + 1) (q + 1)] 184)) := (Below.refl _ _).alloc (Nat.le_refl _) _
    have hbx := heap_alloc_new wc (.cells #[.int .i64 q, .int .i64 k, .int .i64 s, .slice (some ⟨bs, 0, none⟩) L L, .slice (some ⟨bb, 0, none⟩) (q + 1) (q + 1), .slice (some ⟨cs, 0, none⟩) L L, .slice (some ⟨cb, 0, none⟩) (q + 1) (q + 1)] 184)
    have hba' := below_of_drew3 hba
    have hsz : w.heap.size ≤ wc.heap.size := by have := H3.out.1.size; have := hba'.size; have := hbb.size; have := hbc.size; omega
    have hbw : Below w.heap.size w (wc.alloc (.cells #[.int .i64 q, .int .i64 k, .int .i64 s, .slice (some ⟨bs, 0, none⟩) L L, .slice (some ⟨bb, 0, none⟩) (q + 1) (q + 1), .slice (some ⟨cs, 0, none⟩) L L, .slice (some ⟨cb, 0, none⟩) (q + 1) (q + 1)] 184)) :=
      (((H3.out.1.trans (hba'.mono H3.out.1.size)).trans (hbb.mono (by have := H3.out.1.size; have := hba'.size; omega))).trans (hbc.mono (by have := H3.out.1.size; have := hba'.size; have := hbb.size; omega))).trans (hal.mono hsz)
    have hGr : Gr (wc.alloc (.cells #[.int .i64 q, .int .i64 k, .int .i64 s, .slice (some ⟨bs, 0, none⟩) L L, .slice (some ⟨bb, 0, none⟩) (q + 1) (q + 1), .slice (some ⟨cs, 0, none⟩) L L, .slice (some ⟨cb, 0, none⟩) (q + 1) (q + 1)] 184)) w.heap.size wc.heap.size bs bb cs cb q k s es :=
      ⟨by rw [← H3.out.2.2.2.2]; exact hbx, hsz, ((hTa.below hbb).below hbc).below hal, hTc.below hal, HQ.out.1⟩
    have HF : Hid _ := And.intro hGr hbw
    clear hal hbx hba' hbw hGr hba hbb hbc hTa hTc hOb hIo x0 x1 x2 x3
    rename_i hS9
    clear hS9
    go_wp2_with fail
    go_ret2
    exact ⟨_, _, _, _, _, q, rfl, rfl, HF.out.1, HF.out.2⟩
theorem new_ok {M : Nat} (hS : SortOk M) (n k s : Int) (v : Value) (es : List Sy.Ed) (a : Addr) (w : World) (hA : Sent w 14 a) (hv : BEdges.Has w v es) (hM : es.length ≤ M) (hm : es.length ≤ 100000) (hq : Sy.right n k s es = true) :
    Calls Tryz.prog 95 #[sysV n k s v] w fun r w' => ∃ (g bs bb cs cb m : Nat), n = (m : Int) ∧ r = .returned (.tuple #[.pointer (some ⟨g, 0, none⟩), .nilIface]) ∧ Gr w' w.heap.size g bs bb cs cb m k s es ∧ Below w.heap.size w w' :=
  (new_any hS n k s v es a w hA hv hM hm).mono fun r w' h => by unfold NewAt at h; rw [if_pos hq] at h; exact h
theorem new_bad {M : Nat} (hS : SortOk M) (n k s : Int) (v : Value) (es : List Sy.Ed) (a : Addr) (w : World) (hA : Sent w 14 a) (hv : BEdges.Has w v es) (hM : es.length ≤ M) (hm : es.length ≤ 100000) (hq : Sy.right n k s es = false) :
    Calls Tryz.prog 95 #[sysV n k s v] w fun r w' => ∃ x, r = .returned (.tuple #[.pointer none, x]) ∧ Chain w' 0 0 a [sysB] x ∧ Below w.heap.size w w' :=
  (new_any hS n k s v es a w hA hv hM hm).mono fun r w' h => by unfold NewAt at h; rw [if_neg (by rw [hq]; simp)] at h; exact h
end Go.Proofs.YtpmanmoljlhogaaGreatDoor
/- Contract of the program's roundsOf: the rows of steps, and the function that tells the rounds. -/
namespace Go.Proofs.YtpmanmoljlhogaaGreatDoor
open Go.RowKit Go.Maps
attribute [local go_sem ↓] Go.wp_at_zero Go.wp_at_succ
theorem bel6 {w W w8 : World} (hb : Below W.heap.size W w8) (h : Below w.heap.size w W) : Below w.heap.size w w8 := h.trans (hb.mono h.size)
theorem res_up6 {W w8 : World} {b : Nat} {o : Obj} (hb : Below W.heap.size W w8) (h : W.heap[b]? = some o) : w8.heap[b]? = some o := (hb.block b (t_lt h)).trans h
def rndB : ByteArray := ⟨#[114, 111, 117, 110, 100, 115]⟩
theorem rfault_any (T : TypeId) (u : Value) (w : World) (a : Addr) (ls : List ByteArray) (h : Chain w 0 0 a ls (.iface T u)) : Calls Tryz.prog 35 #[.iface T u] w fun r w' => ∃ b, r = .returned (.iface 76 (.pointer (some ⟨b, 0, none⟩))) ∧ Chain w' 0 0 a (rndB :: ls) (.iface 76 (.pointer (some ⟨b, 0, none⟩))) ∧ Below w.heap.size w w' := by
  have HC : Hid (Chain w 0 0 a ls (.iface T u)) := h
  clear h
  go_enter Tryz.func35, Tryz.ntmps35
  go_wp2
  go_ret
  have hb : Below w.heap.size w (w.alloc (.cells #[.string rndB, .int .i64 0, .int .i64 0, .iface T u] 79)) := (Below.refl _ _).alloc (Nat.le_refl _) _
  exact ⟨_, rfl, ⟨_, _, rfl, heap_alloc_new w _, HC.out.below hb⟩, hb⟩
theorem setCell_other {w : World} {b g o : Nat} (x : Value) (h : b ≠ g) : (w.setCell ⟨g, o, none⟩ x).heap[b]? = w.heap[b]? := by
  simp only [World.setCell]
  rw [Array.getElem?_modify, if_neg (fun e => h e.symm)]
theorem cell_block {w w' : World} {b o : Nat} (h : w'.heap[b]? = w.heap[b]?) : w'.cell? ⟨b, o, none⟩ = w.cell? ⟨b, o, none⟩ := World.cell?_of_block (a := ⟨b, o, none⟩) h
/-- Rows being filled. -/
structure StAt (w wr : World) (gs n i : Nat) (us : List Value) (out : Nat → List BSteps.El) : Prop where
  arr : Arr 114 w wr gs us
  len : us.length = n
  row : ∀ j, j < i → ∃ u, us[j]? = some u ∧ BSteps.Own wr w.heap.size u (out j)
theorem StAt.step {w wr w4 : World} {gs n i : Nat} {us : List Value} {out : Nat → List BSteps.El} (h : StAt w wr gs n i us out) (hi : i < n) (hb : Below wr.heap.size wr w4) {u : Value} (hO : BSteps.Own w4 wr.heap.size u (out i)) : StAt w (w4.setCell ⟨gs, i, none⟩ u) gs n (i + 1) (us.set i u) out := by
  have hA4 := h.arr.below hb
  obtain ⟨cs9, hc9, _⟩ := hA4.ids
  have keep : ∀ {x : Value} {zs : List BSteps.El} {B : Nat}, BSteps.Own w4 B x zs → BSteps.Own (w4.setCell ⟨gs, i, none⟩ u) B x zs := fun hx => own_up hx (Kept.setCell w4 gs i u) fun b hb2 e => own_bk hx hc9 (by decide) (by rw [← e]; exact hb2)
  refine ⟨hA4.set i u, by rw [List.length_set]; exact h.len, fun j hj => ?_⟩
  rcases Nat.lt_or_ge j i with hji | hji
  · obtain ⟨x, hx, hOx⟩ := h.row j hji
    refine ⟨x, by rw [List.getElem?_set_ne (by omega)]; exact hx, keep (trow_at hOx fun b hb2 => hb.block b (hOx.lt b hb2).2)⟩
  · obtain rfl : j = i := by omega
    exact ⟨u, by rw [List.getElem?_set_self (by have := h.len; omega)], keep (row_base hO h.arr.bl.size)⟩
theorem StAt.done {w wr : World} {gs n : Nat} {us : List Value} {out : Nat → List BSteps.El} (h : StAt w wr gs n n us out) : Stp wr gs n out :=
  ⟨fun i hi => by
    obtain ⟨u, hu, hO⟩ := h.row i hi
    obtain ⟨a, c, rfl⟩ := row_shape hO
    exact ⟨a, c, h.arr.cell hu, hO.has⟩⟩
theorem Tryz.infoRS : (Tryz.prog.info? 114).map (fun i => (i.zero, i.size, i.bytes)) = some (some (.slice none 0 0), 1, 24) := by kernel_rfl
theorem makeRS (n : Nat) (hn : n ≤ 1000000) (w : World) : (Instr.makeSlice 32 (.int .i64 (n : Int)) (.int .i64 (n : Int))).run Tryz.prog w = .ok (.slice (some ⟨w.heap.size, 0, none⟩) n n) (w.alloc (.cells (madeV (.slice none 0 0) n) 114)) := make_of _ _ _ 24 Tryz.underlying32 Tryz.infoRS n hn (by decide) w
/-- The steps of a system's states. -/
def outOf (m : Nat) (es : List Sy.Ed) (i : Nat) : List BSteps.El := Sy.rowOf m (Sy.nf es) i
/-- What roundsOf answers: the function with what it has taken along. -/
structure OfAt (w w' : World) (b1 b2 gs m : Nat) (es : List Sy.Ed) : Prop where
  bl : Below w.heap.size w w'
  l1 : b1 < w'.heap.size
  l2 : b2 < w'.heap.size
  c1 : w'.cell? ⟨b1, 0, none⟩ = some (.int .i64 m)
  c2 : w'.cell? ⟨b2, 0, none⟩ = some (.slice (some ⟨gs, 0, none⟩) m m)
  st : Stp w' gs m (outOf m es)
def roundsV (b1 b2 : Nat) : Value := .func (.func 97) #[] #[.pointer (some ⟨b1, 0, none⟩), .pointer (some ⟨b2, 0, none⟩)]
set_option maxRecDepth 100000 in
set_option maxHeartbeats 8000000 in
set_option linter.unusedSimpArgs false in
theorem roundsOf_ok (hS : SortOk 1000000) (m : Nat) (k s : Int) (v : Value) (es : List Sy.Ed) (a : Addr) (w : World) (hA : Sent w 14 a) (hv : BEdges.Has w v es) (hm : es.length ≤ 100000) (hq : Sy.right m k s es = true) :
    Calls Tryz.prog 34 #[sysV m k s v] w fun r w' => ∃ b1 b2 gs, r = .returned (.tuple #[roundsV b1 b2, .nilIface]) ∧ OfAt w w' b1 b2 gs m es := by
  have hv0 := hv
  obtain ⟨ao, cap, rfl, _⟩ := hv0
  obtain ⟨L, hL⟩ : ∃ L, L = es.length := ⟨_, rfl⟩
  obtain ⟨w1, hw1⟩ : ∃ w1, w1 = w.alloc (.cells #[.int .i64 m, .int .i64 k, .int .i64 s, .slice ao L cap] 24) := ⟨_, rfl⟩
  have hb1 : Below w.heap.size w w1 := by rw [hw1]; exact (Below.refl _ _).alloc (Nat.le_refl _) _
  have hg1 : w1.heap[w.heap.size]? = some (.cells #[.int .i64 m, .int .i64 k, .int .i64 s, .slice ao L cap] 24 (0, 0)) := by rw [hw1]; exact heap_alloc_new w _
  have hN := new_ok hS m k s _ es a w1 (hA.below hb1) (hv.below hb1) (by omega) hm hq
  rw [← hL] at hN ⊢
  unfold sysV at hN ⊢
  have hm1 : m ≤ 1000 := by have := (right_parts hq).1; omega
  have H1 : Hid _ := And.intro hw1 (And.intro hb1 (And.intro hg1 hN))
  obtain ⟨x0, x1, x2, x3⟩ := four_cells hg1
  clear hA hv hm hq hw1 hb1 hg1 hN hL
  go_enter Tryz.func34, Tryz.ntmps34
  go_upto_region 1 with fail
  rw [← H1.out.1]
  go_wp2_with fail
  refine Calls.mono H1.out.2.2.2 ?_
  rintro r w2 ⟨g, bs, bb, cs, cb, m', hm', rfl, hG2, hb2⟩
  obtain rfl : m = m' := by omega
  clear hm' x0 x1 x2 x3
  have hg2 := res_up6 hb2 H1.out.2.2.1
  obtain ⟨x0, x1, x2, x3⟩ := four_cells hg2
  have hmk := makeRS m (by omega) w2
  obtain ⟨w3, hw3⟩ : ∃ w3, w3 = (w2.alloc (.cells (madeV (.slice none 0 0) m) 114)).alloc (.cells #[.slice (some ⟨w2.heap.size, 0, none⟩) m m] 32) := ⟨_, rfl⟩
  have hb3 : Below w2.heap.size w2 w3 := by rw [hw3]; exact ((Below.refl _ _).alloc (Nat.le_refl _) _).alloc (by simp) _
  have hbx : w3.heap[w2.heap.size + 1]? = some (.cells #[.slice (some ⟨w2.heap.size, 0, none⟩) m m] 32 (0, 0)) := by
    rw [hw3]
    have h := heap_alloc_new (w2.alloc (.cells (madeV (.slice none 0 0) m) 114)) (.cells #[.slice (some ⟨w2.heap.size, 0, none⟩) m m] 32)
    rw [World.size_alloc] at h
    exact h
  have hA3 : Arr 114 w2 w3 w2.heap.size (List.replicate m (.slice none 0 0)) := by
    rw [hw3]
    exact (arr_new 114 (.slice none 0 0) rfl m w2).below ((Below.refl _ _).alloc (Nat.le_refl _) _)
  have H3 : Hid _ := And.intro hw3 (And.intro hb3 (And.intro hbx (And.intro hA3 (And.intro hG2 (And.intro hg2 (bel6 hb2 H1.out.2.1))))))
  have e1 : (w2.alloc (.cells (madeV (.slice none 0 0) m) 114)).heap.size = w2.heap.size + 1 := by simp
  clear hw3 hb3 hbx hA3 hG2 hg2 hb2
  go_upto_region 5 with fail
  rw [← H3.out.1]
  have y0 : w3.cell? ⟨w2.heap.size + 1, 0, none⟩ = some (.slice (some ⟨w2.heap.size, 0, none⟩) m m) := cell0_of H3.out.2.2.1 rfl
  clear hmk x0 x1 x2 x3 e1
  go_wp2_with fail
  clear y0
  go_loopg [21] m (fun q iv wr => ∃ (i : Nat) (us : List Value), q = m - i ∧ i ≤ m ∧ iv = .int .i64 i ∧ StAt w2 wr w2.heap.size m i us (outOf m es) ∧ wr.heap[w2.heap.size + 1]? = some (.cells #[.slice (some ⟨w2.heap.size, 0, none⟩) m m] 32 (0, 0)))
  case atStart => exact ⟨0, _, rfl, Nat.zero_le _, rfl, ⟨H3.out.2.2.2.1, by simp, fun j hj => by omega⟩, H3.out.2.2.1⟩
  case round =>
    obtain ⟨i, us, rfl, hi, rfl, hT, hbx⟩ := hrel
    obtain ⟨w4, rfl⟩ : ∃ w4, w4 = wr := ⟨_, rfl⟩
    by_cases hlt : i < m
    · have p0 : (0 : Int) ≤ (i : Int) := by omega
      have p1 : (i : Int) < (m : Int) := by omega
      have y0 : w4.cell? ⟨w2.heap.size + 1, 0, none⟩ = some (.slice (some ⟨w2.heap.size, 0, none⟩) m m) := cell0_of hbx rfl
      have hO := out_any (i : Int) w4.drew (H3.out.2.2.2.2.1.below (bel6 (Below.refl _ _).drew hT.arr.bl))
      obtain ⟨ux, hux⟩ : ∃ ux, us[i]? = some ux := ⟨us[i]'(by have := hT.len; omega), List.getElem?_eq_getElem _⟩
      have HT : Hid _ := And.intro hT (And.intro hbx (And.intro hO hux))
      clear hT hbx hO hux
      go_upto_region 8 with fail
      refine wp_region_held_drew (S := (fun w' => w'.cell? ⟨w2.heap.size + 1, 0, none⟩ = some (.slice (some ⟨w2.heap.size, 0, none⟩) m m) ∧ Hid (w'.heap[w2.heap.size + 1]? = some (.cells #[.slice (some ⟨w2.heap.size, 0, none⟩) m m] 32 (0, 0))))) (by kernel_rfl) ?_ (fun hHeld => ?_)
      · exact ⟨y0, HT.out.2.1⟩
      refine wpAnyH_take (i := 0) (oi := _) (v := ?_) rfl (by kernel_rfl) (by kernel_rfl) (by kernel_rfl) (fun _ _ _ h => h) (Or.inl ⟨by rfl, ?_⟩) (by assumption) ?_
      rotate_left
      · (intro w hSw; (try dsimp only at hSw); go_simp; (try with_reducible rfl))
      (try simp only [List.getElem_toArray, List.getElem_cons_succ, List.getElem_cons_zero, Act.put, List.setIfInBounds_toArray, List.set_cons_zero, List.set_cons_succ])
      refine wpAnyH_take (i := 1) (oi := _) (v := ?_) rfl (by kernel_rfl) (by kernel_rfl) (by kernel_rfl) (fun _ _ _ h => h) (Or.inl ⟨by rfl, ?_⟩) (by assumption) ?_
      rotate_left
      · (intro w hSw; (try dsimp only at hSw); go_simp; (try with_reducible rfl))
      (try simp only [List.getElem_toArray, List.getElem_cons_succ, List.getElem_cons_zero, Act.put, List.setIfInBounds_toArray, List.set_cons_zero, List.set_cons_succ])
      refine wpAnyH_take (i := 2) (oi := _) (v := ?_) rfl (by kernel_rfl) (by kernel_rfl) (by kernel_rfl) (fun _ _ _ h => h) (Or.inl ⟨by rfl, ?_⟩) (by assumption) ?_
      rotate_left
      · (intro w hSw; (try dsimp only at hSw); go_simp; (try with_reducible rfl))
      (try simp only [List.getElem_toArray, List.getElem_cons_succ, List.getElem_cons_zero, Act.put, List.setIfInBounds_toArray, List.set_cons_zero, List.set_cons_succ])
      refine wpAnyH_take (i := 3) (oi := _) (v := ?_) rfl (by kernel_rfl) (by kernel_rfl) (by kernel_rfl) (fun _ _ _ h => h) (Or.inl ⟨by rfl, ?_⟩) (by assumption) ?_
      rotate_left
      · (intro w hSw; (try dsimp only at hSw); go_simp; (try with_reducible rfl))
      (try simp only [List.getElem_toArray, List.getElem_cons_succ, List.getElem_cons_zero, Act.put, List.setIfInBounds_toArray, List.set_cons_zero, List.set_cons_succ])
      refine wpAnyH_ready (rs := [4]) (by kernel_rfl) (by simp) ?_
      refine AllReadyH.cons (o := _) rfl (fun K hK => ?_) ?_
      · (go_simp; go_at_call 96; refine Calls.mono HT.out.2.2.1 ?_; rintro r w5 ⟨u, rfl, hO5, hb5⟩; obtain ⟨au, cu, hu⟩ := row_shape hO5; have hb45 := bel6 hb5 (Below.refl w4.heap.size w4).drew; have H5 : Hid _ := And.intro hO5 (And.intro hb45 (HT.out.1.arr.below hb45)); generalize hLg : List.length _ = Lu at hu; subst hu; clear hO5 hb5 hLg; have cx := H5.out.2.2.cell HT.out.2.2.2; have cf := H5.out.2.2.free i)
        (try go_wp2_with fail)
        refine hK.out _ _ ?_ (fun hHeld => ?_)
        · exact ⟨cell_up y0 hb45, res_up6 hb45 HT.out.2.1⟩
        clear hK K
        (try simp only [List.getElem_toArray, List.getElem_cons_succ, List.getElem_cons_zero, Act.put, List.setIfInBounds_toArray, List.set_cons_zero, List.set_cons_succ])
        clear hb45
        refine wpAnyH_take (i := 5) (oi := _) (v := ?_) rfl (by kernel_rfl) (by kernel_rfl) (by kernel_rfl) (fun _ _ _ h => h) (Or.inl ⟨by rfl, ?_⟩) (by assumption) ?_
        rotate_left
        · (intro w hSw; (try dsimp only at hSw); go_simp; (try with_reducible rfl))
        (try simp only [List.getElem_toArray, List.getElem_cons_succ, List.getElem_cons_zero, Act.put, List.setIfInBounds_toArray, List.set_cons_zero, List.set_cons_succ])
        refine wpAnyH_ready (rs := [6]) (by kernel_rfl) (by simp) ?_
        refine AllReadyH.cons (o := _) rfl (fun K hK => ?_) ?_
        · (go_simp)
          (try go_wp2_with fail)
          refine hK.out _ _ ?_ (fun hHeld => ?_)
          · exact ⟨(cell_block (setCell_other _ (show w2.heap.size + 1 ≠ w2.heap.size by omega))).trans hHeld.1, (setCell_other _ (show w2.heap.size + 1 ≠ w2.heap.size by omega)).trans hHeld.2.out⟩
          clear hK K
          (try simp only [List.getElem_toArray, List.getElem_cons_succ, List.getElem_cons_zero, Act.put, List.setIfInBounds_toArray, List.set_cons_zero, List.set_cons_succ])
          refine wpAnyH_done (by kernel_rfl) ?_ _
          (try go_simp)
          have H6 : Hid _ := hHeld.2.out
          go_wp2_with fail
          go_roundg (m - (i + 1))
          case measure => omega
          case rel => exact ⟨i + 1, _, rfl, by omega, by go_num, HT.out.1.step hlt H5.out.2.1 H5.out.1, H6.out⟩
        exact AllReadyH.nil
      exact AllReadyH.nil
    · obtain rfl : i = m := by omega
      have p1 : ¬ (i : Int) < (i : Int) := by omega
      have HT : Hid _ := And.intro hT hbx
      clear hT hbx
      go_wp2_with fail
      go_ret2
      have hg := res_up6 HT.out.1.arr.bl H3.out.2.2.2.2.2.1
      exact ⟨_, _, rfl, _, ⟨bel6 HT.out.1.arr.bl H3.out.2.2.2.2.2.2, t_lt hg, t_lt HT.out.2, cell0_of hg rfl, cell0_of HT.out.2 rfl, HT.out.1.done⟩⟩
set_option maxRecDepth 100000 in
set_option maxHeartbeats 4000000 in
theorem roundsOf_bad (hS : SortOk 1000000) (n k s : Int) (v : Value) (es : List Sy.Ed) (a : Addr) (w : World) (hA : Sent w 14 a) (hv : BEdges.Has w v es) (hm : es.length ≤ 100000) (hq : Sy.right n k s es = false) :
    Calls Tryz.prog 34 #[sysV n k s v] w fun r w' => ∃ T u, r = .returned (.tuple #[.nilFunc, .iface T u]) ∧ Chain w' 0 0 a [sysB] (.iface T u) ∧ Below w.heap.size w w' := by
  have hv0 := hv
  obtain ⟨ao, cap, rfl, _⟩ := hv0
  obtain ⟨L, hL⟩ : ∃ L, L = es.length := ⟨_, rfl⟩
  obtain ⟨w1, hw1⟩ : ∃ w1, w1 = w.alloc (.cells #[.int .i64 n, .int .i64 k, .int .i64 s, .slice ao L cap] 24) := ⟨_, rfl⟩
  have hb1 : Below w.heap.size w w1 := by rw [hw1]; exact (Below.refl _ _).alloc (Nat.le_refl _) _
  have hg1 : w1.heap[w.heap.size]? = some (.cells #[.int .i64 n, .int .i64 k, .int .i64 s, .slice ao L cap] 24 (0, 0)) := by rw [hw1]; exact heap_alloc_new w _
  have hN := new_bad hS n k s _ es a w1 (hA.below hb1) (hv.below hb1) (by omega) hm hq
  rw [← hL] at hN ⊢
  unfold sysV at hN ⊢
  have H1 : Hid _ := And.intro hw1 (And.intro hb1 hN)
  obtain ⟨x0, x1, x2, x3⟩ := four_cells hg1
  clear hA hv hm hq hw1 hb1 hg1 hN hL
  go_enter Tryz.func34, Tryz.ntmps34
  go_upto_region 1 with fail
  rw [← H1.out.1]
  go_wp2_with fail
  refine Calls.mono H1.out.2.2 ?_
  rintro r w2 ⟨x, rfl, hC, hb2⟩
  obtain ⟨T, u, rfl⟩ := hC.iface
  have H2 : Hid _ := And.intro hC (bel6 hb2 H1.out.2.1)
  clear hC hb2
  go_wp2_with fail
  go_ret2
  exact ⟨_, _, rfl, H2.out.1, H2.out.2⟩
end Go.Proofs.YtpmanmoljlhogaaGreatDoor
/- A loop over a function that tells its body what the memory holds of what it hands over. Nothing of the program is in it. -/
namespace Go.Proofs.YtpmanmoljlhogaaGreatDoor
open Go.RowKit
/-- The function that is ranged over: with each thing that it hands over stands what the memory holds of it (Good). -/
def Tells {α : Type} (F : Fence) (n : Nat) (P : Program) (g : Nat) (lb : Array Value) (encs : α → Array Value) (Kp : World → World → Prop) (Good : List α → α → World → Prop) (S Sp : List α → Prop) (w : World) : Prop :=
  ∀ (l : Nat) (J Jx : List α → World → Prop) (W : World), Below w.heap.size w W → AbidesFrom W.heap.size J → AbidesFrom W.heap.size Jx →
    (∀ pre x W1, J pre W1 → Good pre x W1 → YieldAt F (n - 1) P l (encs x) W1 fun e W' =>
      (e = .returned (.bool true) ∧ J (pre ++ [x]) W' ∧ Kp W1 W') ∨ (e = .returned (.bool false) ∧ Jx (pre ++ [x]) W')) →
    J [] W →
    CallsIn F n P g (#[.func (.yield l) #[] #[]] ++ lb) W fun e W' => (∃ v, e = .returned v) ∧ ((∃ xs, S xs ∧ J xs W') ∨ (∃ pre, Sp pre ∧ Jx pre W'))
section
variable {F : Fence} {n : Nat} {P : Program}
/-- The record of a loop. -/
def rec5 (fn : FuncId) (a : Act) (ps : Array Tmp) (assign body : Code) (d : Nat) (st : LoopState) (pe : Option Code) : Loop := { state := st, pending := pe, fn, tmps := a.tmps, params := ps, assign, body, defers := d }
theorem loop_tells {α : Type} {g : Operand} {ps : Array Tmp} {assign body : Code} {Q : Exit → Act → World → Prop} {a : Act} {w : World}
    (hro : F.round = none) (h1 : 1 ≤ n) {gf : Nat} {lb : Array Value} (hg : a.eval g = .func (.func gf) #[] lb) (hFg : F.fn gf) (eg : ∀ args w, (callFunc gf args).run P w = .ok (.enter gf args) w)
    {encs : α → Array Value} {Kp : World → World → Prop} {Good : List α → α → World → Prop} {S Sp : List α → Prop} {w0 : World} (hseq : Tells F (n - 1) P gf lb encs Kp Good S Sp w0)
    (hKt : ∀ {A B C : World}, Kp A B → Kp B C → Kp A C) (hKb : ∀ (W : World) (l : Nat) (o o' : Obj), w.heap.size ≤ l → W.heap[l]? = some o → o.isCells = false → o.isWalk = false → Kp W (W.putObj l o'))
    (hGb : ∀ pre x (W : World) (l : Nat) (o o' : Obj), w.heap.size ≤ l → W.heap[l]? = some o → o.isCells = false → Good pre x W → Good pre x (W.putObj l o'))
    (hb0 : Below w0.heap.size w0 w) (hps : ∀ x, (encs x).size = ps.size)
    (I : List α → World → Prop) (Ix : Code → List α → World → Prop) (hI : OwnFrom w.heap.size I) (hIx : ∀ c, OwnFrom w.heap.size (Ix c)) (h0 : I [] w) (a₁ : α → Act)
    (hassign : ∀ (l : Nat) (x : α) (W : World) (K : Act → World → Prop), K (a₁ x) W →
      assign.wpIn (F.inRound l) (n - 1 - 1) P (Exit.then K (fun _ _ _ => False)) { tmps := (ps.zip (encs x)).foldl (fun t (p, v) => t.setIfInBounds p v) a.tmps, defers := [] } W)
    (hbody : ∀ (l : Nat) (pre : List α) (x : α) (W : World), I pre W → Good pre x W → body.wpIn (F.inRound l) (n - 1 - 1) P (ownPostG w.heap.size Kp I Ix (pre ++ [x]) W) (a₁ x) W)
    (hdone : ∀ (D : Nat) (xs : List α) (W : World), w.heap.size ≤ D → S xs → I xs W → W.heap[D]? = some (.deferred (some [])) → Q .normal { a with defers := { target := .collected D, args := #[] } :: a.defers } W)
    (hstop : ∀ (D : Nat) (c : Code) (pre : List α) (W : World), w.heap.size ≤ D → Sp pre → Ix c pre W → W.heap[D]? = some (.deferred (some [])) → c.wpIn F n P Q { a with defers := { target := .collected D, args := #[] } :: a.defers } W) :
    (Code.rangeFunc g ps assign body).wpIn F n P Q a w := by
  refine wpIn_rangeFunc fun fn hfn => ?_
  rw [hro]
  have eL : w.heap.size < w.heap.size + 1 := Nat.lt_succ_self _
  let R5 := rec5 fn a ps assign body w.heap.size
  obtain ⟨W1, hW1⟩ : ∃ W1, W1 = (w.alloc (.deferred (some []))).alloc (.loop (R5 .ready none)) := ⟨_, rfl⟩
  have hz : W1.heap.size = w.heap.size + 2 := by rw [hW1]; simp
  have hL1 : W1.heap[w.heap.size + 1]? = some (.loop (R5 .ready none)) := by
    have h := World.alloc_heap_new (w.alloc (.deferred (some []))) (.loop (R5 .ready none))
    rw [World.size_alloc] at h
    rw [hW1]
    exact h
  have hK1 : W1.heap[w.heap.size]? = some (.deferred (some [])) := by
    rw [hW1]
    exact (Below.heap_alloc _ _ _ (by simp)).trans (World.alloc_heap_new w _)
  have hI1 : I [] W1 := by rw [hW1]; exact hI.alloc _ (hI.alloc _ h0)
  have hb1 : Below w0.heap.size w0 W1 := by
    rw [hW1]
    exact hb0.trans ((((Below.refl _ w).alloc (Nat.le_refl _) _).alloc (by simp) _).mono hb0.size)
  refine ⟨w.heap.size + 1, [{ target := .collected w.heap.size, args := #[] }], W1, { target := .fn (.func gf) lb, args := #[.func (.yield (w.heap.size + 1)) #[] #[]] }, W1, gf, #[.func (.yield (w.heap.size + 1)) #[] #[]] ++ lb, W1, by rw [hW1]; exact run_enterLoop_outer _ _ _ _ _, by simp only [resolve, hg]; simp [go_sem], fun f' hf' => by simp [Target.leads] at hf'; subst hf'; exact hFg, by simp [invoke, go_sem, eg], fun _ => h1, ?_⟩
  have turn : ∀ {A : World} {row : Option Nat}, (∀ r, row = some r → W1.heap.size ≤ r ∧ ∃ o : Obj, A.heap[r]? = some o ∧ o.isWalk = true) → ∀ r, row = some r → w.heap.size ≤ r ∧ ∃ o : Obj, A.heap[r]? = some o ∧ o.isCells = false := fun hr r e => by
    obtain ⟨hB, o, ho, hw⟩ := hr r e
    exact ⟨by omega, o, ho, Obj.not_cells_of_walk hw⟩
  have hcall := hseq (w.heap.size + 1)
    (fun pre W => I pre W ∧ W.heap[w.heap.size + 1]? = some (.loop (R5 .ready none)) ∧ W.heap[w.heap.size]? = some (.deferred (some [])))
    (fun pre W => ∃ c, Ix c pre W ∧ W.heap[w.heap.size + 1]? = some (.loop (R5 .done (some c))) ∧ W.heap[w.heap.size]? = some (.deferred (some [])))
    W1 hb1
    (fun s A B row hs hg' hr => ⟨hI s A B row hs.1 hg' (turn hr), (grownBy_keeps hg' (fun r e => (hr r e).2) hs.2.1 rfl).trans hs.2.1, (grownBy_keeps hg' (fun r e => (hr r e).2) hs.2.2 rfl).trans hs.2.2⟩)
    (fun s A B row hs hg' hr => by
      obtain ⟨c, hc, hl, hk⟩ := hs
      exact ⟨c, hIx c s A B row hc hg' (turn hr), (grownBy_keeps hg' (fun r e => (hr r e).2) hl rfl).trans hl, (grownBy_keeps hg' (fun r e => (hr r e).2) hk rfl).trans hk⟩)
    ?_ ⟨hI1, hL1, hK1⟩
  · refine hcall.mono ?_
    rintro e W2 ⟨⟨v, rfl⟩, (⟨xs, hS, hi, hl, hk⟩ | ⟨pre, hSp, c, hi, hl, hk⟩)⟩
    · exact ⟨none, _, run_endLoop (P := P) hl (by simp [R5, rec5]), hdone _ xs _ (Nat.le_refl _) hS (hI.putObj _ hi (by omega) hl rfl) ((World.putObj_heap_other (by omega)).trans hk)⟩
    · exact ⟨some c, _, run_endLoop (P := P) hl (by simp [R5, rec5]), hstop _ c pre _ (Nat.le_refl _) hSp ((hIx c).putObj _ hi (by omega) hl rfl) ((World.putObj_heap_other (by omega)).trans hk)⟩
  · rintro pre x W ⟨hi, hl, hk⟩ hG
    have hlt : w.heap.size + 1 < W.heap.size := (Array.getElem?_eq_some_iff.1 hl).1
    refine ⟨fn, _, assign, body, run_yield (P := P) (args := encs x) hl (hps x), roundIn_of_wpIn hfn (hassign _ x W _ ⟨_, run_beginRound hl rfl, ?_⟩)⟩
    obtain ⟨V, hV⟩ : ∃ V, V = W.putObj (w.heap.size + 1) (.loop (R5 .busy none)) := ⟨_, rfl⟩
    show Code.wpIn _ _ _ _ _ _ (W.putObj (w.heap.size + 1) (.loop (R5 .busy none)))
    rw [← hV]
    have hl2 : V.heap[w.heap.size + 1]? = some (.loop (R5 .busy none)) := by rw [hV]; exact World.putObj_heap_same hlt
    have hk2 : V.heap[w.heap.size]? = some (.deferred (some [])) := by rw [hV]; exact (World.putObj_heap_other (by omega)).trans hk
    have hw2 : Kp W V := by rw [hV]; exact hKb _ _ _ _ (by omega) hl rfl rfl
    have hi2 : I pre V := by rw [hV]; exact hI.putObj _ hi (by omega) hl rfl
    have hG2 : Good pre x V := by rw [hV]; exact hGb _ _ _ _ _ _ (by omega) hl rfl hG
    have ends : ∀ (jump : Option Code) (W3 : World), KeepsFrom w.heap.size V W3 →
        (Instr.endRound (w.heap.size + 1) jump).run P W3 = .ok (.bool jump.isNone) (W3.putObj (w.heap.size + 1) (.loop (R5 (if jump.isNone then .ready else .done) jump))) ∧ W3.heap[w.heap.size + 1]? = some (.loop (R5 .busy none)) ∧
        (W3.putObj (w.heap.size + 1) (.loop (R5 (if jump.isNone then .ready else .done) jump))).heap[w.heap.size + 1]? = some (.loop (R5 (if jump.isNone then .ready else .done) jump)) ∧
        (W3.putObj (w.heap.size + 1) (.loop (R5 (if jump.isNone then .ready else .done) jump))).heap[w.heap.size]? = some (.deferred (some [])) := fun jump W3 hk3 => by
      have hl3 := hk3.same _ _ (by omega) hl2 rfl
      exact ⟨run_endRound (P := P) jump hl3, hl3, World.putObj_heap_same (Array.getElem?_eq_some_iff.1 hl3).1, (World.putObj_heap_other (by omega)).trans (hk3.same _ _ (Nat.le_refl _) hk2 rfl)⟩
    refine wpIn_mono (hbody _ pre x V hi2 hG2) ?_
    have left : ∀ (c : Code) (W3 : World), KeepsFrom w.heap.size V W3 → Ix c (pre ++ [x]) W3 → ∃ v W4, (Instr.endRound (w.heap.size + 1) (some c)).run P W3 = .ok v W4 ∧ ((Ending.returned v = .returned (.bool true) ∧ (I (pre ++ [x]) W4 ∧ W4.heap[w.heap.size + 1]? = some (.loop (R5 .ready none)) ∧ W4.heap[w.heap.size]? = some (.deferred (some []))) ∧ Kp W W4) ∨ (Ending.returned v = .returned (.bool false) ∧ ∃ c, Ix c (pre ++ [x]) W4 ∧ W4.heap[w.heap.size + 1]? = some (.loop (R5 .done (some c))) ∧ W4.heap[w.heap.size]? = some (.deferred (some [])))) := fun c W3 hk3 hx3 => by
      obtain ⟨hr, hl3, hl4, hk4⟩ := ends (some c) W3 hk3
      exact ⟨_, _, hr, .inr ⟨rfl, c, (hIx _).putObj _ hx3 (by omega) hl3 rfl, hl4, hk4⟩⟩
    rintro e a3 W3 hp
    cases e with
    | normal =>
      obtain ⟨hk3, hkp3, hi3⟩ := hp
      obtain ⟨hr, hl3, hl4, hk4⟩ := ends none W3 hk3
      exact ⟨_, _, hr, .inl ⟨rfl, ⟨hI.putObj _ hi3 (by omega) hl3 rfl, hl4, hk4⟩, hKt (hKt hw2 hkp3) (hKb _ _ _ _ (by omega) hl3 rfl rfl)⟩⟩
    | ret => exact left .ret W3 hp.1 hp.2
    | exit id => exact left (.exit id) W3 hp.1 hp.2
    | goto t => exact left (.goto t) W3 hp.1 hp.2
    | panic ch => exact hp.elim
    | outgrown => exact hp.elim
end
end Go.Proofs.YtpmanmoljlhogaaGreatDoor
/- Contract of slices.Equal of numbers. -/
namespace Go.Proofs.YtpmanmoljlhogaaGreatDoor
open Go.RowKit Go.Maps
theorem take_both5 {α : Type} {a b : List α} {j : Nat} {x : α} (ha : a[j]? = some x) (hb : b[j]? = some x) (h : a.take j = b.take j) : a.take (j + 1) = b.take (j + 1) := by
  rw [take_succ_of ha, take_succ_of hb, h]
theorem eq_len5 {α : Type} {a b : List α} {n : Nat} (ha : a.length = n) (hb : b.length = n) (h : a.take n = b.take n) : a = b := by
  rw [List.take_of_length_le (by omega), List.take_of_length_le (by omega)] at h
  exact h
set_option maxRecDepth 100000 in
set_option maxHeartbeats 1000000 in
theorem slEqual_any (va vb : Value) (za zb : List Int) (w : World) (hn : za.length ≤ 1000000000000000) (hm : zb.length ≤ 1000000000000000) (hA : HasI w va za) (hB : HasI w vb zb) :
    Calls Tryz.prog 88 #[va, vb] w fun e w' => e = .returned (.bool (za == zb)) ∧ Below w.heap.size w w' := by
  obtain ⟨ao, cap, rfl, hcA⟩ := hA
  obtain ⟨ao', cap', rfl, hcB⟩ := hB
  by_cases hlen : za.length = zb.length
  · obtain ⟨n, hN⟩ : ∃ n, n = za.length := ⟨_, rfl⟩
    have HH : Hid _ := And.intro hcA (And.intro hcB (And.intro hN (hN.trans hlen)))
    rw [← hlen, ← hN]
    rw [← hN] at hn
    clear hcA hcB hN hlen hm
    have q : ((n : Int) != (n : Int)) = false := by simp
    go_enter Tryz.func88, Tryz.ntmps88
    go_wp2
    go_loopg [13] n (fun g i wr => ∃ j m : Nat, g = n - j ∧ j ≤ n ∧ i = .int .i64 j ∧ za.take j = zb.take j ∧ wr = w.drewN m)
    case atStart => exact ⟨0, 0, rfl, Nat.zero_le _, rfl, rfl, rfl⟩
    case round =>
      obtain ⟨j, m, rfl, hj, rfl, heq, rfl⟩ := hrel
      have HQ : Hid _ := heq
      clear heq
      by_cases hlt : j < n
      · obtain ⟨x, hx⟩ : ∃ z, za[j]? = some z := ⟨za[j]'(by have := HH.out.2.2.1; omega), List.getElem?_eq_getElem _⟩
        obtain ⟨y, hy⟩ : ∃ z, zb[j]? = some z := ⟨zb[j]'(by have := HH.out.2.2.2; omega), List.getElem?_eq_getElem _⟩
        obtain ⟨a, rfl, c0⟩ := HH.out.1 j x hx
        obtain ⟨b, rfl, d0⟩ := HH.out.2.1 j y hy
        have q0 : (0 : Int) ≤ (j : Int) := by omega
        have q1 : (j : Int) < (n : Int) := by omega
        by_cases hxy : x = y
        · subst hxy
          have HT : Hid _ := take_both5 hx hy HQ.out
          clear hx hy
          go_wp2_with fail
          go_quiet (fail)
          go_wp2
          go_roundg (n - (j + 1))
          case measure => omega
          case rel => exact ⟨j + 1, _, rfl, by omega, by go_num, HT.out, by first | rfl | exact World.drewN_drewN _ _ _⟩
        · have e1 : (x == y) = false := by simpa using hxy
          have HF : Hid ((za == zb) = false) := (by
            rw [beq_eq_false_iff_ne]
            rintro rfl
            rw [hx] at hy
            exact hxy (Option.some.inj hy) : (za == zb) = false)
          clear hx hy hxy
          go_wp2_with fail
          go_quiet (fail)
          go_wp2
          go_ret
          exact ⟨by rw [HF.out]; rfl, by first | exact below_drewN (below_drewN (Below.refl _ _) _) _ | exact below_drewN (Below.refl _ _) _⟩
      · obtain rfl : j = n := by omega
        have q1 : ¬ (j : Int) < (j : Int) := by omega
        have HF : Hid ((za == zb) = true) := (by
          rw [beq_iff_eq]
          exact eq_len5 HH.out.2.2.1.symm HH.out.2.2.2.symm HQ.out : (za == zb) = true)
        go_wp2
        go_ret
        exact ⟨by rw [HF.out]; rfl, below_drewN (Below.refl _ _) _⟩
  · have q : ((za.length : Int) != (zb.length : Int)) = true := by rw [bne_iff_ne]; omega
    have HF : Hid ((za == zb) = false) := (by rw [beq_eq_false_iff_ne]; rintro rfl; exact hlen rfl : (za == zb) = false)
    clear hcA hcB hlen
    go_enter Tryz.func88, Tryz.ntmps88
    go_wp2
    go_ret
    exact ⟨by rw [HF.out]; rfl, Below.refl _ _⟩
end Go.Proofs.YtpmanmoljlhogaaGreatDoor
/- The function that roundsOf answers tells the rounds, one behind the other. -/
namespace Go.Proofs.YtpmanmoljlhogaaGreatDoor
open Go.RowKit Go.Maps Go.Shelf
attribute [local go_sem] Oper.semAt_some
/-- What a round of a loop over the rounds leaves as it was: all below n0, and lists of numbers from n1 on. -/
structure KpR (n0 n1 : Nat) (W W' : World) : Prop where
  bl : Below n0 W W'
  ints : ∀ (b : Nat) (cs : Array Value), n1 ≤ b → W.heap[b]? = some (.cells cs 3 (0, 0)) → W'.heap[b]? = some (.cells cs 3 (0, 0))
theorem KpR.trans {n0 n1 : Nat} {A B C : World} (h : KpR n0 n1 A B) (k : KpR n0 n1 B C) : KpR n0 n1 A C := ⟨h.bl.trans k.bl, fun b cs hb hc => k.ints b cs hb (h.ints b cs hb hc)⟩
/-- What is handed over: the round, and the block of its classes. -/
abbrev Rd : Type := Nat × Nat
def rdV (m : Nat) (x : Rd) : Array Value := #[.int .i64 x.1, .slice (some ⟨x.2, 0, none⟩) m m]
structure GoodR (n1 m : Nat) (out : Nat → List Ro.St) (pre : List Rd) (x : Rd) (W : World) : Prop where
  num : x.1 = pre.length
  small : x.1 < max m 1
  up : ∀ y ∈ pre, y.2 < x.2
  gu : n1 ≤ x.2
  blk : ∃ cs : Array Value, W.heap[x.2]? = some (.cells cs 3 (0, 0)) ∧ cs.toList = natC (Ro.rnd m out x.1)
/-- What the function reads stands as long as all below n0 does. -/
def Reads (n0 b1 b2 gs m : Nat) (out : Nat → List Ro.St) (w : World) : Prop := ∀ W, Below n0 w W → W.cell? ⟨b1, 0, none⟩ = some (.int .i64 m) ∧ W.cell? ⟨b2, 0, none⟩ = some (.slice (some ⟨gs, 0, none⟩) m m) ∧ Stp W gs m out ∧ Pow W
theorem Reads.of {w w' : World} {b1 b2 gs m : Nat} {es : List Sy.Ed} (h : OfAt w w' b1 b2 gs m es) (hP : Pow w') : Reads w'.heap.size b1 b2 gs m (outOf m es) w' := fun _ hb =>
  ⟨cell_up h.c1 hb, cell_up h.c2 hb, h.st.below hb, hP.below hb⟩
theorem Reads.on {n0 b1 b2 gs m : Nat} {out : Nat → List Ro.St} {w w' : World} (h : Reads n0 b1 b2 gs m out w) (hb : Below n0 w w') : Reads n0 b1 b2 gs m out w' := fun W hW => h W (hb.trans hW)
theorem grown_of_below {w w' : World} (h : Below w.heap.size w w') : w.grownBy w' none := ⟨h.os, h.tape, h.output, h.size, fun k hk _ => h.block k hk⟩
theorem hasI_blk {W : World} {g m : Nat} {c : List Nat} {cs : Array Value} (hm : c.length = m) (hb : W.heap[g]? = some (.cells cs 3 (0, 0))) (hc : cs.toList = natC c) : HasI W (.slice (some ⟨g, 0, none⟩) m m) (natI c) :=
  ⟨_, m, by rw [show (natI c).length = m by simp [natI, hm]], fun i z hz => ⟨_, rfl, by
    rw [addz]
    refine cell0_of hb ?_
    rw [← Array.getElem?_toList, hc, ← iC_nat]
    unfold iC
    rw [List.getElem?_map, hz]; rfl⟩⟩
theorem natI_inj {a b : List Nat} (h : natI a = natI b) : a = b := by
  unfold natI at h
  exact List.map_inj_right (fun x y e => by omega) |>.1 h
/-- Between two rounds. -/
structure ItAt (w wr : World) (n0 m : Nat) (out : Nat → List Ro.St) (J : List Rd → World → Prop) (pre : List Rd) (k g : Nat) : Prop where
  len : pre.length = k
  j : J pre wr
  bl : Below n0 w wr
  up : ∀ y ∈ pre, y.2 < g
  gu : w.heap.size ≤ g
  blk : ∃ cs : Array Value, wr.heap[g]? = some (.cells cs 3 (0, 0)) ∧ cs.toList = natC (Ro.rnd m out k)
  ch : ∀ j, j < k → Ro.rnd m out (j + 1) ≠ Ro.rnd m out j
set_option maxRecDepth 100000 in
set_option maxHeartbeats 4000000 in
theorem rounds_tell (n : Nat) (n0 b1 b2 gs m : Nat) (out : Nat → List Ro.St) (w : World) (hn0 : n0 ≤ w.heap.size) (hm : m ≤ 1000) (hF : Fit m out) (hR : Reads n0 b1 b2 gs m out w) :
    Tells Fence.wide n Tryz.prog 97 #[.pointer (some ⟨b1, 0, none⟩), .pointer (some ⟨b2, 0, none⟩)] (rdV m) (KpR n0 w.heap.size) (GoodR w.heap.size m out) (fun xs => ∃ R, Ro.Last m out R ∧ xs.length = R + 1) (fun pre => ∃ R, Ro.Last m out R ∧ pre.length ≤ R + 1) w := by
  intro l J Jx W hW hJ hJx hY h0
  have hrd := hR W (hW.mono hn0)
  have c1 := hrd.1
  have hmk := makeI m (by omega) W
  have HH : Hid _ := And.intro hW (And.intro hJ (And.intro hJx (And.intro hY (And.intro h0 (And.intro hF (And.intro hR hrd))))))
  clear hW hJ hJx hY h0 hF hR hrd
  refine callsIn_of_wp Tryz.func97 rfl trivial ?_ rfl
  simp only [Tryz.ntmps97, List.size_toArray, List.length_cons, List.length_nil, Nat.reduceAdd, Nat.reduceSub, Array.replicate_succ, Array.replicate_zero, List.push_toArray, List.append_toArray, List.nil_append, List.cons_append]
  gi_wp2
  clear hmk c1
  gi_loopw [4, 5] (fun cv iv wr => ∃ (k g : Nat) (pre : List Rd), cv = .slice (some ⟨g, 0, none⟩) m m ∧ iv = .int .i64 k ∧ ItAt w wr n0 m out J pre k g) (fun _ iv _ => 1001 - (intOf iv).toNat)
  case atStart =>
    refine ⟨0, W.heap.size, [], rfl, rfl, rfl, ?_, ?_, fun y hy => by simp at hy, HH.out.1.size, ?_, fun j hj => by omega⟩
    · exact HH.out.2.1 _ _ _ none HH.out.2.2.2.2.1 (World.grownBy_alloc W _ none) (fun r e => by cases e)
    · exact (HH.out.1.mono hn0).trans (((Below.refl _ W).alloc (Nat.le_refl _) _).mono (Nat.le_trans hn0 HH.out.1.size))
    · obtain ⟨_, ⟨cs, hc, hx⟩, _⟩ := arr_new 3 (.int .i64 0) rfl m W
      exact ⟨cs, hc, by rw [hx]; simp [natC, Ro.rnd]⟩
  case round =>
    obtain ⟨k, g, pre, rfl, rfl, hI⟩ := hrel
    have hk := Ro.changes_lt hI.ch
    obtain ⟨fn, tmps, assign, body, hy, hRd⟩ := HH.out.2.2.2.1 pre (k, g) wr hI.j ⟨hI.len.symm, hk, hI.up, hI.gu, hI.blk⟩
    dsimp only [rdV] at hy
    have HI : Hid (ItAt w wr n0 m out J pre k g) := hI
    have hk1 : k ≤ 1000 := by omega
    clear hI
    gi_wp2
    refine ⟨fun h => (by cases h), hRd.mono ?_⟩
    rintro e W3 (⟨rfl, hJ3, hk3⟩ | ⟨rfl, hJx3⟩)
    · have hb3 := HI.out.bl.trans hk3.bl
      obtain ⟨cs, hcs, hcl⟩ := HI.out.blk
      have hcs3 := hk3.ints g cs HI.out.gu hcs
      obtain ⟨r1, r2, r3, r4⟩ := HH.out.2.2.2.2.2.2.1 W3 hb3
      have hcI := hasI_blk (Ro.rnd_len m out k) hcs3 hcl
      have hP := parted_any gs m out (Ro.rnd m out k) _ W3 hm (Ro.rnd_len m out k) (fun u hu => Ro.rnd_lt hu) HH.out.2.2.2.2.2.1 r3 hcI r4
      have H3 : Hid _ := And.intro hJ3 (And.intro hb3 (And.intro hcI (And.intro hP hcs3)))
      have c2 := r2
      clear hJ3 hk3 hb3 hcs hcs3 r1 r2 r3 r4 hcI hP hRd hy
      gi_wp2
      refine ⟨trivial, fun h => (by cases h), (callsIn_wide.2 H3.out.2.2.2.1).mono ?_⟩
      rintro e W4 ⟨g2, rfl, hA4⟩
      have hb34 := hA4.bl
      have hcI4 : HasI W4 (.slice (some ⟨g2, 0, none⟩) m m) (natI (Ro.rnd m out (k + 1))) := by
        obtain ⟨cs4, hc4, hx4⟩ := hA4.ids
        exact hasI_blk (Ro.rnd_len m out (k + 1)) hc4 hx4
      have hl4 : ∀ j, (natI (Ro.rnd m out j)).length = m := fun j => by simp [natI, Ro.rnd_len]
      have hE := slEqual_any _ _ _ _ W4 (by rw [hl4]; omega) (by rw [hl4]; omega) hcI4 (H3.out.2.2.1.below hb34)
      have H4 : Hid _ := And.intro hA4 hE
      clear hA4 hE hb34 hcI4 hl4
      by_cases he : Ro.rnd m out (k + 1) = Ro.rnd m out k
      · have e1 : (natI (Ro.rnd m out (k + 1)) == natI (Ro.rnd m out k)) = true := by rw [he]; simp
        rw [e1] at H4
        have HE : Hid _ := he
        clear he e1
        gi_wp2
        refine ⟨trivial, fun h => (by cases h), (callsIn_wide.2 H4.out.2).mono ?_⟩
        rintro e W5 ⟨rfl, hb5⟩
        have H5 : Hid (Below W3.heap.size W3 W5) := bel6 hb5 H4.out.1.bl
        clear hb5
        gi_wp2
        refine bodyPost_ret (results_none rfl _ _ _) rfl ?_
        exact ⟨⟨_, rfl⟩, .inl ⟨pre ++ [(k, g)], ⟨k, ⟨HE.out, HI.out.ch⟩, by simp [HI.out.len]⟩, HH.out.2.1 _ _ _ none H3.out.1 (grown_of_below H5.out) (fun r e => by cases e)⟩⟩
      · have e1 : (natI (Ro.rnd m out (k + 1)) == natI (Ro.rnd m out k)) = false := by simpa using fun e => he (natI_inj e)
        rw [e1] at H4
        have HE : Hid _ := he
        clear he e1
        gi_wp2
        refine ⟨trivial, fun h => (by cases h), (callsIn_wide.2 H4.out.2).mono ?_⟩
        rintro e W5 ⟨rfl, hb5⟩
        have H5 : Hid (Below W3.heap.size W3 W5 ∧ Below W4.heap.size W4 W5) := ⟨bel6 hb5 H4.out.1.bl, hb5⟩
        clear hb5
        gi_wp2
        go_roundw
        case rel =>
          refine ⟨k + 1, g2, pre ++ [(k, g)], rfl, by go_num, by simp [HI.out.len], HH.out.2.1 _ _ _ none H3.out.1 (grown_of_below H5.out.1) (fun r e => by cases e), H3.out.2.1.trans (H5.out.1.mono (Nat.le_trans hn0 H3.out.2.1.size)), fun y hy => ?_, ?_, ?_, fun j hj => ?_⟩
          · have hg3 := t_lt H3.out.2.2.2.2
            have hg4 := H4.out.1.gu
            rcases List.mem_append.1 hy with hy | hy
            · have := HI.out.up y hy; omega
            · rw [List.mem_singleton.1 hy]; show g < g2; omega
          · exact Nat.le_trans H3.out.2.1.size H4.out.1.gu
          · obtain ⟨cs4, hc4, hx4⟩ := H4.out.1.ids
            exact ⟨cs4, res_up6 H5.out.2 hc4, hx4⟩
          · rcases Nat.lt_or_ge j k with h1 | h1
            · exact HI.out.ch j h1
            · obtain rfl : j = k := by omega
              exact HE.out
        case measure => simp [intOf]; omega
    · have HJ : Hid _ := hJx3
      clear hJx3 hRd hy
      gi_wp2
      go_end0
      obtain ⟨R, hR⟩ := Ro.exists_last m out
      exact ⟨⟨_, rfl⟩, .inr ⟨_, ⟨R, hR, by have := hR.ge HI.out.ch; simp [HI.out.len]; omega⟩, HJ.out⟩⟩
end Go.Proofs.YtpmanmoljlhogaaGreatDoor
/- Contract of the program's All: the classes of all rounds. -/
namespace Go.Proofs.YtpmanmoljlhogaaGreatDoor
open Go.RowKit Go.Maps Go.Shelf
attribute [local go_sem] Oper.semAt_some
/-- The rounds' classes in memory, one behind the other. -/
structure RwAt (W : World) (B m : Nat) (out : Nat → List Ro.St) (pre : List Rd) : Prop where
  row : ∀ (j : Nat) (x : Rd), pre[j]? = some x → x.1 = j ∧ B ≤ x.2 ∧ ∃ cs : Array Value, W.heap[x.2]? = some (.cells cs 3 (0, 0)) ∧ cs.toList = natC (Ro.rnd m out j)
  up : pre.Pairwise fun y x => y.2 < x.2
theorem RwAt.nil (W : World) (B m : Nat) (out : Nat → List Ro.St) : RwAt W B m out [] := ⟨fun j x h => by simp at h, .nil⟩
theorem RwAt.keep {W W' : World} {B m : Nat} {out : Nat → List Ro.St} {pre : List Rd} (h : RwAt W B m out pre) (hk : ∀ (b : Nat) (cs : Array Value), B ≤ b → W.heap[b]? = some (.cells cs 3 (0, 0)) → W'.heap[b]? = some (.cells cs 3 (0, 0))) : RwAt W' B m out pre :=
  ⟨fun j x hx => by obtain ⟨h1, h2, cs, h3, h4⟩ := h.row j x hx; exact ⟨h1, h2, cs, hk _ _ h2 h3, h4⟩, h.up⟩
theorem RwAt.snoc {W : World} {B m : Nat} {out : Nat → List Ro.St} {pre : List Rd} {x : Rd} (h : RwAt W B m out pre) (hG : GoodR B m out pre x W) : RwAt W B m out (pre ++ [x]) := by
  refine ⟨fun j y hy => ?_, ?_⟩
  · rcases Nat.lt_or_ge j pre.length with hj | hj
    · rw [List.getElem?_append_left hj] at hy
      exact h.row j y hy
    · rw [List.getElem?_append_right hj] at hy
      have hj0 : j - pre.length = 0 := by have := (List.getElem?_eq_some_iff.1 hy).1; simp at this; omega
      rw [hj0] at hy
      simp at hy
      subst hy
      have e : j = pre.length := by omega
      obtain ⟨cs, h3, h4⟩ := hG.blk
      exact ⟨by rw [hG.num, e], hG.gu, cs, h3, by rw [e, ← hG.num]; exact h4⟩
  · exact List.pairwise_append.2 ⟨h.up, List.pairwise_singleton _ _, fun y hy z hz => by rw [List.mem_singleton.1 hz]; exact hG.up y hy⟩
theorem rw_own (B m : Nat) (out : Nat → List Ro.St) : Own (fun pre W => RwAt W B m out pre) := fun s W W' row hs hg hr => hs.keep fun b cs _ hc => by
  have h1 : some b ≠ row := fun e => by
    obtain ⟨o, ho, hoc⟩ := hr b e.symm
    rw [hc] at ho
    cases ho
    cases hoc
  exact (hg.block b (t_lt hc) h1).trans hc
theorem good_put {n1 m : Nat} {out : Nat → List Ro.St} (pre : List Rd) (x : Rd) (W : World) (l : Nat) (o o' : Obj) (hl : W.heap[l]? = some o) (ho : o.isCells = false) (h : GoodR n1 m out pre x W) : GoodR n1 m out pre x (W.putObj l o') := by
  obtain ⟨cs, h3, h4⟩ := h.blk
  have hne : x.2 ≠ l := fun e => by rw [← e, h3] at hl; cases hl; cases ho
  exact ⟨h.num, h.small, h.up, h.gu, cs, (World.putObj_heap_other hne).trans h3, h4⟩
theorem kpr_put {n0 n1 : Nat} {w : World} (hn0 : n0 ≤ w.heap.size) (W : World) (l : Nat) (o o' : Obj) (hw : w.heap.size ≤ l) (hl : W.heap[l]? = some o) (ho : o.isCells = false) (hk : o.isWalk = false) : KpR n0 n1 W (W.putObj l o') :=
  ⟨belowK_b hn0 W l o o' hw hl ho hk, fun b cs _ hc => by
    have hne : b ≠ l := fun e => by rw [← e, hc] at hl; cases hl; cases ho
    exact (World.putObj_heap_other hne).trans hc⟩
theorem RwAt.base {W : World} {B B' m : Nat} {out : Nat → List Ro.St} {pre : List Rd} (h : RwAt W B m out pre) (hb : B' ≤ B) : RwAt W B' m out pre := ⟨fun j x hx => by obtain ⟨h1, h2, h3⟩ := h.row j x hx; exact ⟨h1, by omega, h3⟩, h.up⟩
theorem app_ints {W w1 : World} {n B : Nat} {t e : TypeId} {v v' : Value} {k : Nat} {xs : List Value} {tmp : Obj} (hv : Boxed W B t v) (ht : t ≠ 3) (hrow : W.ownsRow n e 1 v k xs) (he : e ≠ 3) (hgrow : (W.alloc tmp).grownBy w1 v.ownBlock) (b : Nat) (cs : Array Value) (hc : W.heap[b]? = some (.cells cs 3 (0, 0))) : (w1.setCell ⟨B, 0, none⟩ v').heap[b]? = some (.cells cs 3 (0, 0)) := by
  have hne : b ≠ B := fun e9 => by
    have h1 : W.heap[B]? = some (.cells #[v] t (0, 0)) := hv
    rw [← e9, hc] at h1
    injection h1 with h1
    injection h1 with _ h2
    exact ht h2.symm
  rw [setCell_other _ hne]
  exact ((grown_alloc hgrow).block b (t_lt hc) fun hb => own_bk hrow hc he hb).trans hc
/-- A list of lists that was answered. -/
def hdr (m : Nat) (x : Rd) : Value := .slice (some ⟨x.2, 0, none⟩) m m
def OwnRs (W : World) (B m : Nat) (v : Value) (xs : List Rd) : Prop := W.ownsRow B 57 1 v xs.length (xs.map (hdr m))
theorem Tryz.infoRI : (Tryz.prog.info? 57).map (fun i => (i.zero, i.size, i.bytes)) = some (some (.slice none 0 0), 1, 24) := by kernel_rfl
theorem steps_fit {m : Nat} {k s : Int} {es : List Sy.Ed} (hq : Sy.right m k s es = true) : Fit m (outOf m es) := fun i hi => by
  have hp := right_parts hq
  have h1 := rowOf_len m (Sy.nf es) i
  have h2 := Sy.nf_len es
  refine ⟨by unfold outOf; omega, fun z hz => ?_⟩
  unfold outOf Sy.rowOf at hz
  rw [if_pos ⟨by omega, by omega⟩] at hz
  unfold Sy.steps at hz
  obtain ⟨e, he, rfl⟩ := List.mem_map.1 hz
  have h3 := hp.2.2.2.2.2 e ((Sy.nf_mem es e).1 (List.mem_filter.1 he).1)
  show (0 ≤ e.2.1 ∧ e.2.1 ≤ 300) ∧ 0 ≤ e.2.2 ∧ e.2.2 < (m : Int)
  omega
set_option maxRecDepth 100000 in
set_option maxHeartbeats 4000000 in
theorem all_ok (hS : SortOk 1000000) (m : Nat) (k s : Int) (v : Value) (es : List Sy.Ed) (a : Addr) (w : World) (hA : Sent w 14 a) (hP : Pow w) (hv : BEdges.Has w v es) (hm : es.length ≤ 100000) (hq : Sy.right m k s es = true) :
    Calls Tryz.prog 12 #[sysV m k s v] w fun r w' => ∃ u xs R, r = .returned (.tuple #[u, .nilIface]) ∧ Ro.Last m (outOf m es) R ∧ xs.length = R + 1 ∧ OwnRs w' w.heap.size m u xs ∧ RwAt w' w.heap.size m (outOf m es) xs ∧ Below w.heap.size w w' := by
  obtain ⟨i0, hi0, hz0, hz1, hz2⟩ := info_parts Tryz.infoRI
  have hv0 := hv
  obtain ⟨ao, cap, rfl, _⟩ := hv0
  obtain ⟨L, hL⟩ : ∃ L, L = es.length := ⟨_, rfl⟩
  obtain ⟨w1, hw1⟩ : ∃ w1, w1 = w.alloc (.cells #[.int .i64 m, .int .i64 k, .int .i64 s, .slice ao L cap] 24) := ⟨_, rfl⟩
  have hb1 : Below w.heap.size w w1 := by rw [hw1]; exact (Below.refl _ _).alloc (Nat.le_refl _) _
  have hg1 : w1.heap[w.heap.size]? = some (.cells #[.int .i64 m, .int .i64 k, .int .i64 s, .slice ao L cap] 24 (0, 0)) := by rw [hw1]; exact heap_alloc_new w _
  have hN := roundsOf_ok hS m k s _ es a w1 (hA.below hb1) (hv.below hb1) hm hq
  rw [← hL] at hN ⊢
  unfold sysV at hN ⊢
  have hm1 : m ≤ 1000 := by have := (right_parts hq).1; omega
  have hF := steps_fit hq
  obtain ⟨out, hout⟩ : ∃ out, out = outOf m es := ⟨_, rfl⟩
  have H1 : Hid _ := And.intro hw1 (And.intro hb1 (And.intro hN (And.intro hP (And.intro hF hout))))
  obtain ⟨x0, x1, x2, x3⟩ := four_cells hg1
  clear hA hv hm hq hw1 hb1 hg1 hN hL hP hF hout
  refine (callsIn_wide (n := 3)).1 ?_
  refine callsIn_of_wp_marks Tryz.func12 rfl trivial ?_ rfl
  simp only [Tryz.ntmps12, List.size_toArray, List.length_cons, List.length_nil, Nat.reduceAdd, Nat.reduceSub, Array.replicate_succ, Array.replicate_zero, List.push_toArray, List.append_toArray, List.nil_append, List.cons_append]
  gi_upto_region 1 with fail
  rw [← H1.out.1]
  gi_wp2
  refine ⟨trivial, (callsIn_wide.2 H1.out.2.2.1).mono ?_⟩
  rintro r w2 ⟨b1, b2, gs, rfl, hO2⟩
  unfold roundsV
  have hP2 := H1.out.2.2.2.1.below (bel6 hO2.bl H1.out.2.1)
  have hRd := Reads.of hO2 hP2
  have hb02 := bel6 hO2.bl H1.out.2.1
  have H2 : Hid _ := And.intro hRd hb02
  clear hO2 hP2 hRd hb02 x0 x1 x2 x3
  gi_wp2
  obtain ⟨w3, hw3⟩ : ∃ w3, w3 = w2.alloc (.cells #[.slice none 0 0] 28) := ⟨_, rfl⟩
  have hz3 : w3.heap.size = w2.heap.size + 1 := by rw [hw3]; simp
  have hb3 : Below w2.heap.size w2 w3 := by rw [hw3]; exact (Below.refl _ _).alloc (Nat.le_refl _) _
  have hbx : Boxed w3 w2.heap.size 28 (.slice none 0 0) := by rw [hw3]; exact Boxed.new w2 28 (.slice none 0 0)
  rw [← hw3]
  have hF := H1.out.2.2.2.2.1
  have hR := H2.out.1
  rw [← H1.out.2.2.2.2.2] at hF hR
  refine loop_tells rfl (by omega) (gf := 97) (lb := #[.pointer (some ⟨b1, 0, none⟩), .pointer (some ⟨b2, 0, none⟩)]) rfl trivial (enters_of Tryz.func97 (by kernel_rfl) rfl)
    (rounds_tell 2 w2.heap.size b1 b2 gs m out w3 (by omega) hm1 hF (hR.on hb3)) (fun h k => h.trans k) (kpr_put (by omega)) (fun pre x W l o o' _ hl ho h => good_put pre x W l o o' hl ho h) (Below.refl _ _) (fun _ => rfl)
    (fun pre W => (∃ v, Boxed W w2.heap.size 28 v ∧ W.ownsRow w2.heap.size 57 1 v pre.length (pre.map (hdr m)) ∧ True) ∧ RwAt W w3.heap.size m out pre ∧ Below w2.heap.size w2 W)
    (fun _ _ _ => False)
    (OwnFrom.and (Own.from (holdsRow_own w2.heap.size w2.heap.size 28 57 1 (fun pre : List Rd => pre.length) (fun pre => pre.map (hdr m)) (fun _ _ => True)) _) (OwnFrom.and (Own.from (rw_own _ _ _) _) (ownFrom_below (Nat.le_refl _) (by omega))))
    (fun _ _ _ _ _ hs _ _ => hs)
    ⟨⟨_, hbx, World.ownsRow_nil _ _ _ _, trivial⟩, RwAt.nil _ _ _ _, hb3⟩
    (fun x => { tmps := #[(.agg #[.int .i64 m, .int .i64 k, .int .i64 s, .slice ao L cap]), .pointer (some ⟨w.heap.size, 0, none⟩), .slice none 0 0, .nilIface, (.func (.func 97) #[] #[.pointer (some ⟨b1, 0, none⟩), .pointer (some ⟨b2, 0, none⟩)]), .nilIface, .pointer (some ⟨w2.heap.size, 0, none⟩), undef, (.slice (some ⟨x.2, 0, none⟩) m m), .tuple #[(.func (.func 97) #[] #[.pointer (some ⟨b1, 0, none⟩), .pointer (some ⟨b2, 0, none⟩)]), .nilIface], (.agg #[.int .i64 m, .int .i64 k, .int .i64 s, .slice ao L cap]), .tuple #[(.func (.func 97) #[] #[.pointer (some ⟨b1, 0, none⟩), .pointer (some ⟨b2, 0, none⟩)]), .nilIface], (.func (.func 97) #[] #[.pointer (some ⟨b1, 0, none⟩), .pointer (some ⟨b2, 0, none⟩)]), .nilIface, .nilIface, .bool false, undef, undef, (.func (.func 97) #[] #[.pointer (some ⟨b1, 0, none⟩), .pointer (some ⟨b2, 0, none⟩)]), .int .i64 x.1, (.slice (some ⟨x.2, 0, none⟩) m m), undef, undef, undef, undef, undef], defers := [] }) ?assign ?body ?done ?stop
  case assign =>
    intro l x W K hK
    unfold rdV
    gi_wp2
    exact hK
  case body =>
    rintro l pre x W ⟨⟨v, hv, hrow, _⟩, hRw, hB⟩ hG
    have hc := hv.cell
    have hpl : pre.length ≤ 1000 := by have := hG.num; have := hG.small; omega
    have hml : pre.length + 1 ≤ maxLen := by unfold maxLen; omega
    have hby : (pre.length + 1) * 24 ≤ 140737488355328 := by omega
    have hle : w2.heap.size ≤ (W.alloc (.cells #[.slice (some ⟨x.2, 0, none⟩) m m] 57)).heap.size := by have := hB.size; simp; omega
    have HG : Hid _ := And.intro hRw hG
    clear hRw hG
    gi_wp2_with (gi_at_builtin; refine wpListIn_append_own _ rfl _ _ 28 rfl w2.heap.size 57 i0 (.slice none 0 0) 1 24 Tryz.underlying28 hi0 hz0 hz1 hz2 rfl (by decide) _ _ _ rfl (hrow.alloc _) ⟨W.heap.size, 0, none⟩ 1 1 [.slice (some ⟨x.2, 0, none⟩) m m] rfl rfl (cell_one_new _ _ _) (by simp [Value.oneCell']) hml hby hle ?_; intro v' w4 hown' hgrow _; obtain ⟨g', cap', rfl⟩ := ownsRow_succ hown'; obtain ⟨hv1, hv2, hr2, hk2, hb2⟩ := hv.appended (by decide) hrow hB.size (Nat.le_refl _) hown' hgrow; have hc1 := hv1.cell; have hf1 := hv1.frozen; have hii := app_ints (v' := .slice (some ⟨g', 0, none⟩) (pre.length + 1) cap') hv (by decide) hrow (by decide) hgrow)
    exact ⟨hk2.from _, ⟨hb2, fun b cs _ hc => hii b cs hc⟩, ⟨_, hv2, by simpa [hdr] using hr2, trivial⟩, (HG.out.1.snoc HG.out.2).keep fun b cs _ hc => hii b cs hc, hB.trans hb2⟩
  case done =>
    rintro D xs W hD ⟨R, hRl, hxl⟩ ⟨⟨v, hv, hrow, _⟩, hRw, hB⟩ hK
    have hc := hv.cell
    gi_wp2
    refine ⟨by simp, .inl ⟨_, _, rfl, run_takeDeferred hK, ?_⟩⟩
    refine ⟨_, results_tmp2 rfl _ _ _, v, xs, R, rfl, by rw [← H1.out.2.2.2.2.2]; exact hRl, hxl, ?_, ?_, ?_⟩
    · exact row_base (ownsRow_putObj hrow _ hK rfl) H2.out.2.size
    · rw [← H1.out.2.2.2.2.2]
      refine ((hRw.keep fun b cs _ hc => ?_).base (Nat.le_trans H2.out.2.size (by omega)))
      have hne : b ≠ D := fun e => by rw [← e, hc] at hK; cases hK
      exact (World.putObj_heap_other hne).trans hc
    · exact bel6 (hB.trans (belowK_b (w := w2) (Nat.le_refl _) W D _ _ (by omega) hK rfl rfl)) H2.out.2
  case stop =>
    rintro D c pre W _ _ h _
    exact h.elim
end Go.Proofs.YtpmanmoljlhogaaGreatDoor
/- The rounds as rows that a book takes. -/
namespace Go.Proofs.YtpmanmoljlhogaaGreatDoor
open Go.RowKit Go.Maps
theorem natC_iC (l : List Nat) : natC l = iC (natI l) := by simp [natC, iC, natI]
/-- The lists of all rounds. -/
def roundsD (m : Nat) (out : Nat → List Ro.St) (R : Nat) : List (List Int) := (List.range (R + 1)).map fun j => natI (Ro.rnd m out j)
theorem roundsD_len (m : Nat) (out : Nat → List Ro.St) (R : Nat) : (roundsD m out R).length = R + 1 := by simp [roundsD]
theorem roundsD_at {m R k : Nat} {out : Nat → List Ro.St} {r : List Int} (h : (roundsD m out R)[k]? = some r) : k < R + 1 ∧ r = natI (Ro.rnd m out k) := by
  have hk := (List.getElem?_eq_some_iff.1 h).1
  rw [roundsD_len] at hk
  unfold roundsD at h
  rw [List.getElem?_map, List.getElem?_range hk] at h
  exact ⟨hk, (Option.some.inj h).symm⟩
theorem natI_len (l : List Nat) : (natI l).length = l.length := by simp [natI]
theorem rows_rounds {W : World} {B m R : Nat} {out : Nat → List Ro.St} {u : Value} {xs : List Rd} (hm : m ≤ 1000) (hl : xs.length = R + 1) (hO : OwnRs W B m u xs) (hR : RwAt W B m out xs) : WIR.RowsRows W B u (roundsD m out R) := by
  refine ⟨xs.map (hdr m), ?_, fun k r hk => ?_, fun i j a x b hi hj hne ha hx => ?_⟩
  · rw [roundsD_len, ← hl]
    exact hO
  · obtain ⟨hkl, rfl⟩ := roundsD_at hk
    obtain ⟨x, hx⟩ : ∃ x, xs[k]? = some x := ⟨xs[k]'(by omega), List.getElem?_eq_getElem _⟩
    obtain ⟨_, h2, cs, h3, h4⟩ := hR.row k x hx
    refine ⟨hdr m x, by rw [List.getElem?_map, hx]; rfl, ?_⟩
    exact own_blkI h3 (by rw [h4, natC_iC]) h2 (by rw [natI_len, Ro.rnd_len]) (by omega)
  · rw [List.getElem?_map] at hi hj
    cases h1 : xs[i]? with
    | none => rw [h1] at hi; cases hi
    | some y =>
      cases h2 : xs[j]? with
      | none => rw [h2] at hj; cases hj
      | some z =>
        rw [h1] at hi
        rw [h2] at hj
        simp only [Option.map_some, Option.some.injEq] at hi hj
        subst hi; subst hj
        simp only [hdr, Value.ownBlock, Option.some.injEq] at ha hx
        obtain ⟨hil, rfl⟩ := List.getElem?_eq_some_iff.1 h1
        obtain ⟨hjl, rfl⟩ := List.getElem?_eq_some_iff.1 h2
        have hp := List.pairwise_iff_getElem.1 hR.up
        rcases Nat.lt_or_gt_of_ne hne with h3 | h3
        · have := hp i j hil hjl h3; omega
        · have := hp j i hjl hil h3; omega
end Go.Proofs.YtpmanmoljlhogaaGreatDoor
/- Contracts of what the document tells of a system that is none, and of the law's Light. -/
namespace Go.Proofs.YtpmanmoljlhogaaGreatDoor
open Go.RowKit Go.Maps
attribute [local go_sem ↓] Go.wp_at_zero Go.wp_at_succ
def rndB1 : ByteArray := ⟨#[114, 111, 117, 110, 100, 115, 32]⟩
def rndB2 : ByteArray := ⟨#[114, 111, 117, 110, 100, 115, 32, 115, 121, 115, 116, 101, 109, 32]⟩
theorem rnd_join1 : joinS ⟨#[]⟩ [rndB] = rndB1 := by decide
theorem rnd_join2 : joinS ⟨#[]⟩ [rndB, sysB] = rndB2 := by decide
/-- The document's error at a call of this layer. -/
def hndV (ok : Bool) : Value := if ok then .agg #[.int .i64 0, .int .i64 0, .int .i64 0, .string ⟨#[]⟩] else .agg #[.int .i64 14, .int .i64 0, .int .i64 0, .string rndB2]
set_option maxHeartbeats 1000000 in
theorem badRnd (k : Int) (w : World) : Calls Tryz.prog 18 #[.string ⟨#[114, 111, 117, 110, 100, 115]⟩, .int .i64 k] w fun e w' => e = .returned (.agg #[.int .i64 k, .int .i64 0, .int .i64 0, .string rndB1]) ∧ Below w.heap.size w w' := by
  have zs : (⟨#[114, 111, 117, 110, 100, 115]⟩ ++ ⟨#[32]⟩ : ByteArray) = rndB1 := by decide
  go_enter Tryz.func18, Tryz.ntmps18
  go_wp2
  exact bodyPost_ret (v := .agg #[.int .i64 k, .int .i64 0, .int .i64 0, .string rndB1]) (by simp [results, Tryz.results18, go_sem]) rfl ⟨rfl, (Below.refl _ _).alloc (Nat.le_refl _) _⟩
set_option maxRecDepth 100000 in
set_option maxHeartbeats 2000000 in
theorem on_rnd (ok : Bool) (w : World) : Calls Tryz.prog 29 #[.string ⟨#[114, 111, 117, 110, 100, 115]⟩, chkV ok] w fun e w' => e = .returned (hndV ok) ∧ Below w.heap.size w w' := by
  cases ok with
  | true =>
    show Calls Tryz.prog 29 #[.string ⟨#[114, 111, 117, 110, 100, 115]⟩, .agg #[.int .i64 0, .int .i64 0, .int .i64 0, .string ⟨#[]⟩]] w fun e w' => e = .returned (.agg #[.int .i64 0, .int .i64 0, .int .i64 0, .string ⟨#[]⟩]) ∧ Below w.heap.size w w'
    go_enter Tryz.func29, Tryz.ntmps29
    go_wp2
    refine bodyPost_ret (v := .agg #[.int .i64 0, .int .i64 0, .int .i64 0, .string ⟨#[]⟩]) (by simp [results, Tryz.results29, go_sem]) rfl ⟨rfl, ?_⟩
    first
      | exact ((Below.refl _ _).alloc (Nat.le_refl _) _).alloc (by simp) _
      | exact four_below (((Below.refl _ _).alloc (Nat.le_refl _) _).alloc (by simp) _) (by simp) _ _ _ _
  | false =>
    have zs : (⟨#[114, 111, 117, 110, 100, 115]⟩ ++ ⟨#[32]⟩ : ByteArray) = rndB1 := by decide
    have zt : rndB1 ++ sysB1 = rndB2 := by decide
    show Calls Tryz.prog 29 #[.string ⟨#[114, 111, 117, 110, 100, 115]⟩, .agg #[.int .i64 14, .int .i64 0, .int .i64 0, .string sysB1]] w fun e w' => e = .returned (.agg #[.int .i64 14, .int .i64 0, .int .i64 0, .string rndB2]) ∧ Below w.heap.size w w'
    go_enter Tryz.func29, Tryz.ntmps29
    go_wp2
    refine bodyPost_ret (v := .agg #[.int .i64 14, .int .i64 0, .int .i64 0, .string rndB2]) (by simp [results, Tryz.results29, go_sem]) rfl ⟨rfl, ?_⟩
    first
      | exact ((Below.refl _ _).alloc (Nat.le_refl _) _).alloc (by simp) _
      | exact (((Below.refl _ _).alloc (Nat.le_refl _) _).alloc (by simp) _).setCell (by simp) _
      | exact four_below (((((Below.refl _ _).alloc (Nat.le_refl _) _).alloc (by simp) _)).setCell (by simp) _) (by simp) _ _ _ _
set_option maxRecDepth 100000 in
set_option maxHeartbeats 2000000 in
theorem handed_rnd (n k s : Int) (v : Value) (es : List Sy.Ed) (w : World) (hv : BEdges.Has w v es) :
    Calls Tryz.prog 10 #[.string ⟨#[114, 111, 117, 110, 100, 115]⟩, sysV n k s v] w fun e w' => e = .returned (hndV (Sy.right n k s es)) ∧ Below w.heap.size w w' := by
  obtain ⟨w1, hw1⟩ : ∃ w1, w1 = (w.alloc (.cells #[.int .i64 n, .int .i64 k, .int .i64 s, v] 24)).alloc (.cells #[.int .i64 0, .int .i64 0, .int .i64 0, .string ⟨#[]⟩] 42) := ⟨_, rfl⟩
  have hb1 : Below w.heap.size w w1 := by rw [hw1]; exact ((Below.refl _ _).alloc (Nat.le_refl _) _).alloc (by simp) _
  have hR := refCheck_any n k s v es w1 (hv.below hb1)
  have hg : w1.heap[w.heap.size + 1]? = some (.cells #[.int .i64 0, .int .i64 0, .int .i64 0, .string ⟨#[]⟩] 42 (0, 0)) := by rw [hw1]; exact two_alloc w _ _
  obtain ⟨ok, hok⟩ : ∃ ok, ok = Sy.right n k s es := ⟨_, rfl⟩
  rw [← hok] at hR ⊢
  have H1 : Hid _ := And.intro hR (And.intro hb1 (And.intro hg hw1))
  obtain ⟨ao, cap, rfl, _⟩ := hv
  clear hR hb1 hg hw1 hok
  unfold sysV at H1 ⊢
  go_enter Tryz.func10, Tryz.ntmps10
  go_wp2_with fail
  rw [← H1.out.2.2.2]
  refine Calls.mono H1.out.1 ?_
  rintro e w2 ⟨rfl, hb2⟩
  have H2 : Hid (Below w1.heap.size w1 w2) := hb2
  clear hb2
  go_wp2_with fail
  refine Calls.mono (on_rnd ok w2) ?_
  rintro e w3 ⟨rfl, hb3⟩
  have hb13 := bel6 hb3 H2.out
  have hg2 := (hb13.block _ (t_lt H1.out.2.2.1)).trans H1.out.2.2.1
  obtain ⟨y0, y1, y2, y3⟩ := four_cells hg2
  have z0 := blk_free hg2 0
  have z1 := blk_free hg2 1
  have z2 := blk_free hg2 2
  have z3 := blk_free hg2 3
  have H3 : Hid _ := And.intro (bel6 hb13 H1.out.2.1) hg2
  clear hb3 hb13 hg2
  cases ok with
  | true =>
    rw [show hndV true = .agg #[.int .i64 0, .int .i64 0, .int .i64 0, .string ⟨#[]⟩] from rfl]
    go_wp2_with fail
    have hgf := four_set (a0 := .int .i64 0) (a1 := .int .i64 0) (a2 := .int .i64 0) (a3 := .string ⟨#[]⟩) H3.out.2
    have hbf := four_below H3.out.1 (b := w.heap.size + 1) (by omega) (.int .i64 0) (.int .i64 0) (.int .i64 0) (.string ⟨#[]⟩)
    generalize ((((w3.setCell ⟨w.heap.size + 1, 0, none⟩ (.int .i64 0)).setCell ⟨w.heap.size + 1, 1, none⟩ (.int .i64 0)).setCell ⟨w.heap.size + 1, 2, none⟩ (.int .i64 0)).setCell ⟨w.heap.size + 1, 3, none⟩ (.string ⟨#[]⟩)) = wf at hgf hbf ⊢
    obtain ⟨c0, c1, c2, c3⟩ := four_cells hgf
    exact bodyPost_ret (v := .agg #[.int .i64 0, .int .i64 0, .int .i64 0, .string ⟨#[]⟩]) (by simp [results, Tryz.results10, go_sem, c0, c1, c2, c3]) rfl ⟨rfl, hbf⟩
  | false =>
    rw [show hndV false = .agg #[.int .i64 14, .int .i64 0, .int .i64 0, .string rndB2] from rfl]
    go_wp2_with fail
    have hgf := four_set (a0 := .int .i64 14) (a1 := .int .i64 0) (a2 := .int .i64 0) (a3 := .string rndB2) H3.out.2
    have hbf := four_below H3.out.1 (b := w.heap.size + 1) (by omega) (.int .i64 14) (.int .i64 0) (.int .i64 0) (.string rndB2)
    generalize ((((w3.setCell ⟨w.heap.size + 1, 0, none⟩ (.int .i64 14)).setCell ⟨w.heap.size + 1, 1, none⟩ (.int .i64 0)).setCell ⟨w.heap.size + 1, 2, none⟩ (.int .i64 0)).setCell ⟨w.heap.size + 1, 3, none⟩ (.string rndB2)) = wf at hgf hbf ⊢
    obtain ⟨c0, c1, c2, c3⟩ := four_cells hgf
    exact bodyPost_ret (v := .agg #[.int .i64 14, .int .i64 0, .int .i64 0, .string rndB2]) (by simp [results, Tryz.results10, go_sem, c0, c1, c2, c3]) rfl ⟨rfl, hbf⟩
/-- Is a system light? -/
def lightB (n : Int) (m : Nat) (ok : Bool) : Bool := decide (n ≤ 200) && decide (m ≤ 1500) || !ok && decide (m ≤ 11000)
set_option maxRecDepth 100000 in
set_option maxHeartbeats 2000000 in
theorem light_any (n k s : Int) (v : Value) (es : List Sy.Ed) (w : World) (hv : BEdges.Has w v es) :
    Calls Tryz.prog 8 #[sysV n k s v] w fun e w' => e = .returned (.bool (lightB n es.length (Sy.right n k s es))) ∧ Below w.heap.size w w' := by
  obtain ⟨w1, hw1⟩ : ∃ w1, w1 = w.alloc (.cells #[.int .i64 n, .int .i64 k, .int .i64 s, v] 24) := ⟨_, rfl⟩
  have hb1 : Below w.heap.size w w1 := by rw [hw1]; exact (Below.refl _ _).alloc (Nat.le_refl _) _
  have hg1 : w1.heap[w.heap.size]? = some (.cells #[.int .i64 n, .int .i64 k, .int .i64 s, v] 24 (0, 0)) := by rw [hw1]; exact heap_alloc_new w _
  have hR := right_any n k s v es w1 (hv.below hb1)
  obtain ⟨ok, hok⟩ : ∃ ok, ok = Sy.right n k s es := ⟨_, rfl⟩
  obtain ⟨m, hm⟩ : ∃ m, m = es.length := ⟨_, rfl⟩
  obtain ⟨ao, cap, rfl, _⟩ := hv
  rw [← hok] at hR ⊢
  rw [← hm] at hR hw1 hg1 ⊢
  have H1 : Hid _ := And.intro hR (And.intro hb1 (And.intro hw1 hg1))
  obtain ⟨x0, x1, x2, x3⟩ := four_cells hg1
  clear hR hb1 hw1 hok hm hg1
  unfold sysV at H1 ⊢
  by_cases h1 : n ≤ 200
  · by_cases h2 : m ≤ 1500
    · have e1 : decide (n ≤ 200) = true := decide_eq_true h1
      have e2 : decide (m ≤ 1500) = true := decide_eq_true h2
      have e3 : decide ((m : Int) ≤ 1500) = true := by simp; omega
      have e4 : lightB n m ok = true := by unfold lightB; rw [e1, e2]; rfl
      rw [e4]
      clear h1 h2 e4
      go_enter Tryz.func8, Tryz.ntmps8
      go_upto_region 1 with fail
      rw [← H1.out.2.2.1]
      go_wp2_with fail
      go_ret
      exact ⟨rfl, H1.out.2.1⟩
    · have e1 : decide (n ≤ 200) = true := decide_eq_true h1
      have e2 : decide (m ≤ 1500) = false := decide_eq_false h2
      have e3 : decide ((m : Int) ≤ 1500) = false := by simp; omega
      cases ok with
      | true =>
        have e4 : lightB n m true = false := by unfold lightB; rw [e1, e2]; rfl
        rw [e4]
        clear h1 h2 e4
        go_enter Tryz.func8, Tryz.ntmps8
        go_upto_region 1 with fail
        rw [← H1.out.2.2.1]
        go_wp2_with fail
        refine Calls.mono H1.out.1 ?_
        rintro r w2 ⟨rfl, hb2⟩
        have HB : Hid (Below w1.heap.size w1 w2) := hb2
        clear hb2
        go_wp2_with fail
        go_ret
        exact ⟨rfl, bel6 HB.out H1.out.2.1⟩
      | false =>
        have e4 : lightB n m false = decide ((m : Int) ≤ 11000) := by unfold lightB; rw [e1, e2]; simp; omega
        rw [e4]
        clear h1 h2 e4
        go_enter Tryz.func8, Tryz.ntmps8
        go_upto_region 1 with fail
        rw [← H1.out.2.2.1]
        go_wp2_with fail
        refine Calls.mono H1.out.1 ?_
        rintro r w2 ⟨rfl, hb2⟩
        obtain ⟨y0, y1, y2, y3⟩ := four_cells (res_up6 hb2 H1.out.2.2.2)
        have HB : Hid (Below w1.heap.size w1 w2) := hb2
        clear hb2
        go_wp2_with fail
        go_ret
        exact ⟨rfl, bel6 HB.out H1.out.2.1⟩
  · have e1 : decide (n ≤ 200) = false := decide_eq_false h1
    have e2 : decide (m ≤ 1500) = decide (m ≤ 1500) := rfl
    have h2 : True := trivial
    cases ok with
    | true =>
      have e4 : lightB n m true = false := by unfold lightB; rw [e1]; simp
      rw [e4]
      clear h1 h2 e4
      go_enter Tryz.func8, Tryz.ntmps8
      go_upto_region 1 with fail
      rw [← H1.out.2.2.1]
      go_wp2_with fail
      refine Calls.mono H1.out.1 ?_
      rintro r w2 ⟨rfl, hb2⟩
      have HB : Hid (Below w1.heap.size w1 w2) := hb2
      clear hb2
      go_wp2_with fail
      go_ret
      exact ⟨rfl, bel6 HB.out H1.out.2.1⟩
    | false =>
      have e4 : lightB n m false = decide ((m : Int) ≤ 11000) := by unfold lightB; rw [e1]; simp; omega
      rw [e4]
      clear h1 h2 e4
      go_enter Tryz.func8, Tryz.ntmps8
      go_upto_region 1 with fail
      rw [← H1.out.2.2.1]
      go_wp2_with fail
      refine Calls.mono H1.out.1 ?_
      rintro r w2 ⟨rfl, hb2⟩
      obtain ⟨y0, y1, y2, y3⟩ := four_cells (res_up6 hb2 H1.out.2.2.2)
      have HB : Hid (Below w1.heap.size w1 w2) := hb2
      clear hb2
      go_wp2_with fail
      go_ret
      exact ⟨rfl, bel6 HB.out H1.out.2.1⟩
end Go.Proofs.YtpmanmoljlhogaaGreatDoor
