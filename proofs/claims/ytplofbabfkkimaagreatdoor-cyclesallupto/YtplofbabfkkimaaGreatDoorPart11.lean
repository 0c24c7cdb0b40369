/- Texts of this claim, joined: SyNew, TsCol, SoInts, SyRch, SyEdg, TsTop, SyOutI, TsOrd, TsThy. -/
import Derived.Test.YtplofbabfkkimaaGreatDoorPart8
import Derived.Test.YtplofbabfkkimaaGreatDoorPart0
import Derived.Test.YtplofbabfkkimaaGreatDoorPart10
import Derived.Test.YtplofbabfkkimaaGreatDoorPart7
import Derived.Deep.RegionHeld3
import Derived.Test.YtplofbabfkkimaaGreatDoorPart2
import Derived.Sort.OwnSortedInts
import Derived.Deep.AppendLies
import Derived.Maps.AppendAt
/- Contract of the program's New: a graph of the system's one form. -/
namespace Go.Proofs.YtplofbabfkkimaaGreatDoor
open Go.RowKit Go.Maps
attribute [local go_sem ↓] Go.wp_at_zero Go.wp_at_succ
theorem inOrder_turn {es os : List Sy.Ed} (h : InOrder Sy.turn (Sy.nf es) os) : os.map Sy.turn = Sy.nf ((Sy.nf es).map Sy.turn) := by
 refine Sy.nf_of ?_ fun x => ?_
 ·have hnd : os.Nodup := by
   rw [h.1.nodup_iff]
   have hs := Sy.nf_str es
   generalize Sy.nf es = l at hs
   induction l with
   | nil => exact List.nodup_nil
   | cons a r ih =>
     refine List.nodup_cons.2 ⟨fun ha => ?_, ih hs.tail⟩
     have h1 := hs.head a ha
     rw [Sy.lt_irrefl] at h1
     cases h1
  have hp := h.2
  clear h
  induction os with
  | nil => trivial
  | cons a r ih =>
    obtain ⟨h1, h2⟩ := List.pairwise_cons.1 hp
    obtain ⟨h3, h4⟩ := List.nodup_cons.1 hnd
    rw [List.map_cons]
    refine Sy.Str.cons (ih h4 h2) fun x hx => ?_
    obtain ⟨b, hb, rfl⟩ := List.mem_map.1 hx
    have h5 := h1 b hb
    cases h6 : Sy.lt (Sy.turn a) (Sy.turn b) with
    | true => rfl
    | false =>
      have h7 := congrArg Sy.turn (Sy.eq_of_not h6 h5)
      rw [turn_turn, turn_turn] at h7
      rw [h7] at h3
      exact absurd hb h3
 ·rw [List.mem_map, List.mem_map]
  constructor
  ·rintro ⟨a, ha, rfl⟩; exact ⟨a, h.1.mem_iff.1 ha, rfl⟩
  ·rintro ⟨a, ha, rfl⟩; exact ⟨a, h.1.mem_iff.2 ha, rfl⟩
theorem rg_up4' {w2 wa wb : World} {a0 a1 a2 a3 : Addr} {x0 x1 x2 x3 : Value} (h : (wa.cell? a0 = some x0 ∧ wa.cell? a1 = some x1 ∧ wa.cell? a2 = some x2 ∧ wa.cell? a3 = some x3) ∧ Hid (Below w2.heap.size w2 wa)) (hb : Below wa.heap.size wa wb) : (wb.cell? a0 = some x0 ∧ wb.cell? a1 = some x1 ∧ wb.cell? a2 = some x2 ∧ wb.cell? a3 = some x3) ∧ Hid (Below w2.heap.size w2 wb) := rg_up4 hb h
def NewAt (a : Addr) (n k s : Int) (es : List Sy.Ed) (w : World) (r : Ending) (w' : World) : Prop :=
 if Sy.right n k s es = true then ∃ (g bs bb cs cb m : Nat), n = (m : Int) ∧ r = .returned (.tuple #[.pointer (some ⟨g, 0, none⟩), .nilIface]) ∧ Gr w' w.heap.size g bs bb cs cb m k s es ∧ Below w.heap.size w w'
 else ∃ x, r = .returned (.tuple #[.pointer none, x]) ∧ Chain w' 0 0 a [sysB] x ∧ Below w.heap.size w w'
set_option maxRecDepth 100000 in
set_option maxHeartbeats 8000000 in
theorem new_any {M : Nat} (hS : SortOk M) (n k s : Int) (v : Value) (es : List Sy.Ed) (a : Addr) (w : World) (hA : Sent w 13 a) (hv : BEdges.Has w v es) (hM : es.length ≤ M) (hm : es.length ≤ 100000) :
 Calls Tryz.prog 23 #[sysV n k s v] w (NewAt a n k s es w) := by
 obtain ⟨w1, hw1⟩ : ∃ w1, w1 = w.alloc (.cells #[.int .i64 n, .int .i64 k, .int .i64 s, v] 24) := ⟨_, rfl⟩
 have hb1 : Below w.heap.size w w1 := by rw [hw1]; exact (Below.refl _ _).alloc (Nat.le_refl _) _
 have hg1 : w1.heap[w.heap.size]? = some (.cells #[.int .i64 n, .int .i64 k, .int .i64 s, v] 24 (0, 0)) := by rw [hw1]; exact heap_alloc_new w _
 have hN := normal_any hS n k s v es a w1 (hA.below hb1) (hv.below hb1) hM (by omega)
 obtain ⟨ao, cap, rfl, _⟩ := hv
 obtain ⟨m0, hm0⟩ : ∃ m0, m0 = es.length := ⟨_, rfl⟩
 rw [← hm0] at hN hg1 hw1 ⊢
 unfold sysV at hN ⊢
 have H1 : Hid _ := And.intro hN (And.intro hb1 (And.intro hg1 (And.intro hw1 hS)))
 have HM : Hid _ := And.intro hM hm
 cases hq : Sy.right n k s es with
 | false =>
   rw [hq] at H1
   unfold NewAt
   rw [hq]
   clear hN hb1 hg1 hw1 hS hA hq hm0 hM hm
   go_enter Tryz.func23, Tryz.ntmps23
   go_wp2_with fail
   rw [← H1.out.2.2.2.1]
   refine Calls.mono H1.out.1 ?_
   rintro r w2 ⟨x, u, rfl, hx, _, hb2⟩
   have hch : Chain w2 0 0 a [sysB] x := by simpa [SErr] using hx
   obtain ⟨T, y, rfl⟩ := hch.iface
   have hg2 := (hb2.block _ (t_lt H1.out.2.2.1)).trans H1.out.2.2.1
   obtain ⟨y0, y1, y2, y3⟩ := four_cells hg2
   have z0 := blk_free hg2 0
   have z1 := blk_free hg2 1
   have z2 := blk_free hg2 2
   have z3 := blk_free hg2 3
   have hbw := H1.out.2.1.trans (hb2.mono H1.out.2.1.size)
   have H2 : Hid _ := And.intro hch (And.intro hbw hg2)
   clear hb2 hg2 hbw hch hx
   go_wp2_with fail
   have hbf := four_below H2.out.2.1 (b := w.heap.size) (Nat.le_refl _) (.int .i64 0) (.int .i64 0) (.int .i64 0) (.slice none 0 0)
   have hcf := chain_st4 H2.out.1 H2.out.2.2 (.int .i64 0) (.int .i64 0) (.int .i64 0) (.slice none 0 0)
   unfold st4 at hcf
   go_ret2
   exact ⟨_, rfl, hcf, hbf⟩
 | true =>
   rw [hq] at H1
   have hrp := right_parts hq
   obtain ⟨q, rfl⟩ : ∃ q : Nat, n = (q : Int) := ⟨n.toNat, by omega⟩
   have HQ : Hid _ := And.intro hq hrp
   unfold NewAt
   rw [hq]
   clear hN hb1 hg1 hw1 hS hA hq hm0 hM hm hrp
   go_enter Tryz.func23, Tryz.ntmps23
   go_wp2_with fail
   rw [← H1.out.2.2.2.1]
   refine Calls.mono H1.out.1 ?_
   rintro r w2 ⟨x, u, rfl, hx, hO, hb2⟩
   have hO := hO trivial
   obtain rfl : x = .nilIface := by simpa [SErr] using hx
   obtain ⟨au, cu, rfl⟩ := row_shape hO
   have hg2 := (hb2.block _ (t_lt H1.out.2.2.1)).trans H1.out.2.2.1
   obtain ⟨y0, y1, y2, y3⟩ := four_cells hg2
   have z0 := blk_free hg2 0
   have z1 := blk_free hg2 1
   have z2 := blk_free hg2 2
   have z3 := blk_free hg2 3
   have hbw := H1.out.2.1.trans (hb2.mono H1.out.2.1.size)
   obtain ⟨L, hL⟩ : ∃ L, L = (Sy.nf es).length := ⟨_, rfl⟩
   obtain ⟨w3, hw3⟩ : ∃ w3, w3 = (((w2.setCell ⟨w.heap.size, 0, none⟩ (.int .i64 q)).setCell ⟨w.heap.size, 1, none⟩ (.int .i64 k)).setCell ⟨w.heap.size, 2, none⟩ (.int .i64 s)).setCell ⟨w.heap.size, 3, none⟩ (.slice au L cu) := ⟨_, rfl⟩
   rw [← hL]
   have hg3 : w3.heap[w.heap.size]? = some (.cells #[.int .i64 q, .int .i64 k, .int .i64 s, .slice au L cu] 24 (0, 0)) := by rw [hw3]; exact four_set hg2
   have hb3 : Below w.heap.size w w3 := by rw [hw3]; exact four_below hbw (Nat.le_refl _) _ _ _ _
   have hO3 : BEdges.Own w3 w.heap.size (.slice au (Sy.nf es).length cu) (Sy.nf es) := by
    rw [hw3]
    refine row_base (trow_at hO fun b hb => ?_) H1.out.2.1.size
    have n1 : b ≠ w.heap.size := fun e => own_bk hO hg2 (by decide) (e ▸ hb)
    rw [set_other _ _ _ _ _ n1, set_other _ _ _ _ _ n1, set_other _ _ _ _ _ n1, set_other _ _ _ _ _ n1]
   have H3 : Hid _ := And.intro hb3 (And.intro hO3 (And.intro hg3 (And.intro hw3 hL)))
   clear hO hb2 hg2 hbw hx hg3 hb3 hO3 hw3 hL
   have hle : L ≤ 10000 := by have := HQ.out.2.2.2.1; have := Sy.nf_len es; have := H3.out.2.2.2.2; omega
   have hqn : q ≤ 1000 := by have := HQ.out.2.1; omega
   have hnr : ∀ e ∈ Sy.nf es, 0 ≤ e.1 ∧ e.1 < (q : Int) ∧ 0 ≤ e.2.2 ∧ e.2.2 < (q : Int) := fun e he => by
    have := HQ.out.2.2.2.2.2.2 e ((Sy.nf_mem es e).1 he)
    exact ⟨this.1, this.2.1, this.2.2.1, this.2.2.2.1⟩
   have hTf : ∀ W, Below w3.heap.size w3 W → Calls Tryz.prog 85 #[.int .i64 q, .slice au L cu, .func (.func 86) #[] #[]] W fun r w' => ∃ bs bb, r = .returned (.agg #[.slice (some ⟨bs, 0, none⟩) L L, .slice (some ⟨bb, 0, none⟩) (q + 1) (q + 1)]) ∧ Tb w' w.heap.size bs bb q (Sy.nf es) ∧ Below W.heap.size W w' := fun W hb => by
    have hLL := H3.out.2.2.2.2
    have hOW : BEdges.Has W (.slice au (Sy.nf es).length cu) (Sy.nf es) := H3.out.2.1.has.below hb
    have h9 := tableOf_any _ _ forward_at q (.slice au (Sy.nf es).length cu) (Sy.nf es) W (by omega) (by omega) hOW (by rw [List.map_id']; exact fun e he => ⟨(hnr e he).1, (hnr e he).2.1⟩) (by rw [List.map_id']; exact nf_rows es)
    rw [List.map_id'] at h9
    rw [← hLL] at h9
    refine h9.mono fun r w' ⟨bs, bb, hr, h1, h2⟩ => ⟨bs, bb, hr, ⟨(Blk.of_arr h1).base ?_, (Blk.of_arr h2).base ?_⟩, h1.bl⟩
    ·have := H3.out.1.size; have := hb.size; omega
    ·have := H3.out.1.size; have := hb.size; omega
   have hOr : ∀ W, Below w3.heap.size w3 W → Calls Tryz.prog 87 #[.slice au L cu, .func (.func 88) #[] #[]] W fun r w' => ∃ u os, r = .returned u ∧ InOrder Sy.turn (Sy.nf es) os ∧ BEdges.Own w' W.heap.size u os ∧ Below W.heap.size W w' := fun W hb => by
    have hLL := H3.out.2.2.2.2
    have hOW : BEdges.Has W (.slice au (Sy.nf es).length cu) (Sy.nf es) := H3.out.2.1.has.below hb
    have h9 := ordered_any H1.out.2.2.2.2 _ _ backward_at (.slice au (Sy.nf es).length cu) (Sy.nf es) W (by have := Sy.nf_len es; have := HM.out.1; omega) (by omega) hOW
    rw [← hLL] at h9
    exact h9
   have hTb : ∀ W u os B, Below w3.heap.size w3 W → InOrder Sy.turn (Sy.nf es) os → BEdges.Own W B u os → Calls Tryz.prog 85 #[.int .i64 q, u, .func (.func 88) #[] #[]] W fun r w' => ∃ bs bb, r = .returned (.agg #[.slice (some ⟨bs, 0, none⟩) L L, .slice (some ⟨bb, 0, none⟩) (q + 1) (q + 1)]) ∧ Tb w' w.heap.size bs bb q (Sy.nf ((Sy.nf es).map Sy.turn)) ∧ Below W.heap.size W w' := fun W u os B hb hI hO => by
    have hLL := H3.out.2.2.2.2
    have hlo := hI.1.length_eq
    have het := inOrder_turn hI
    have h9 := tableOf_any _ _ backward_at q u os W (by omega) (by omega) hO.has (by
     rw [het]
     intro e he
     rw [Sy.nf_mem] at he
     obtain ⟨x, hx, rfl⟩ := List.mem_map.1 he
     exact ⟨(hnr x hx).2.2.1, (hnr x hx).2.2.2⟩) (by rw [het]; exact nf_rows _)
    rw [het, hlo, ← hLL] at h9
    refine h9.mono fun r w' ⟨bs, bb, hr, h1, h2⟩ => ⟨bs, bb, hr, ⟨(Blk.of_arr h1).base ?_, (Blk.of_arr h2).base ?_⟩, h1.bl⟩
    ·have := H3.out.1.size; have := hb.size; omega
    ·have := H3.out.1.size; have := hb.size; omega
   have HT : Hid _ := And.intro hTf (And.intro hOr hTb)
   clear hTf hOr hTb hnr
   go_upto_region 4 with fail
   rw [← H3.out.2.2.2.1]
   clear y0 y1 y2 y3 z0 z1 z2 z3
   obtain ⟨x0, x1, x2, x3⟩ := four_cells H3.out.2.2.1
   go_region_held3 (fun w' => (w'.cell? ⟨w.heap.size, 0, none⟩ = some (.int .i64 q) ∧ w'.cell? ⟨w.heap.size, 1, none⟩ = some (.int .i64 k) ∧ w'.cell? ⟨w.heap.size, 2, none⟩ = some (.int .i64 s) ∧ w'.cell? ⟨w.heap.size, 3, none⟩ = some (.slice au L cu)) ∧ Hid (Below w3.heap.size w3 w')) (first | exact rg_up4' (by assumption) hba | exact rg_up4' (by assumption) hbb | exact rg_up4' (by assumption) hbc | exact rg_up4' (by assumption) ((Below.refl _ _).alloc (Nat.le_refl _) _) | exact ⟨⟨x0, x1, x2, x3⟩, ((Below.refl _ _).drew : Below w3.heap.size w3 w3.drew)⟩ | go_keep)
    ((first
      | (go_at_call_of 85 (Value.slice au L cu); refine (HT.out.1 _ (rg_b (by assumption))).mono ?_; rintro r wa ⟨bs, bb, rfl, hTa, hba⟩)
      | (go_at_call 87; refine (HT.out.2.1 _ (rg_b (by assumption))).mono ?_; rintro r wb ⟨u5, os, rfl, hIo, hOb, hbb⟩)
      | (go_at_call_of 85 u5; refine (HT.out.2.2 _ _ os _ (rg_b (by assumption)) hIo (by first | exact hOb | exact trow_at hOb fun b hb => hba.block _ (hOb.lt b hb).2)).mono ?_; rintro r wc ⟨cs, cb, rfl, hTc, hbc⟩)
      | fail))
   have hal : Below wc.heap.size wc (wc.alloc (.cells #[.int .i64 q, .int .i64 k, .int .i64 s, .slice (some ⟨bs, 0, none⟩) L L, .slice (some ⟨bb, 0, none⟩) (q + 1) (q + 1), .slice (some ⟨cs, 0, none⟩) L L, .slice (some ⟨cb, 0, none⟩) (q + 1) (q + 1)] 116)) := (Below.refl _ _).alloc (Nat.le_refl _) _
   have hbx := heap_alloc_new wc (.cells #[.int .i64 q, .int .i64 k, .int .i64 s, .slice (some ⟨bs, 0, none⟩) L L, .slice (some ⟨bb, 0, none⟩) (q + 1) (q + 1), .slice (some ⟨cs, 0, none⟩) L L, .slice (some ⟨cb, 0, none⟩) (q + 1) (q + 1)] 116)
   have hba' := below_of_drew3 hba
   have hsz : w.heap.size ≤ wc.heap.size := by have := H3.out.1.size; have := hba'.size; have := hbb.size; have := hbc.size; omega
   have hbw : Below w.heap.size w (wc.alloc (.cells #[.int .i64 q, .int .i64 k, .int .i64 s, .slice (some ⟨bs, 0, none⟩) L L, .slice (some ⟨bb, 0, none⟩) (q + 1) (q + 1), .slice (some ⟨cs, 0, none⟩) L L, .slice (some ⟨cb, 0, none⟩) (q + 1) (q + 1)] 116)) :=
    (((H3.out.1.trans (hba'.mono H3.out.1.size)).trans (hbb.mono (by have := H3.out.1.size; have := hba'.size; omega))).trans (hbc.mono (by have := H3.out.1.size; have := hba'.size; have := hbb.size; omega))).trans (hal.mono hsz)
   have hGr : Gr (wc.alloc (.cells #[.int .i64 q, .int .i64 k, .int .i64 s, .slice (some ⟨bs, 0, none⟩) L L, .slice (some ⟨bb, 0, none⟩) (q + 1) (q + 1), .slice (some ⟨cs, 0, none⟩) L L, .slice (some ⟨cb, 0, none⟩) (q + 1) (q + 1)] 116)) w.heap.size wc.heap.size bs bb cs cb q k s es :=
    ⟨by rw [← H3.out.2.2.2.2]; exact hbx, hsz, ((hTa.below hbb).below hbc).below hal, hTc.below hal, HQ.out.1⟩
   have HF : Hid _ := And.intro hGr hbw
   clear hal hbx hba' hbw hGr hba hbb hbc hTa hTc hOb hIo x0 x1 x2 x3
   rename_i hS9
   clear hS9
   go_wp2_with fail
   go_ret2
   exact ⟨_, _, _, _, _, q, rfl, rfl, HF.out.1, HF.out.2⟩
theorem new_ok {M : Nat} (hS : SortOk M) (n k s : Int) (v : Value) (es : List Sy.Ed) (a : Addr) (w : World) (hA : Sent w 13 a) (hv : BEdges.Has w v es) (hM : es.length ≤ M) (hm : es.length ≤ 100000) (hq : Sy.right n k s es = true) :
 Calls Tryz.prog 23 #[sysV n k s v] w fun r w' => ∃ (g bs bb cs cb m : Nat), n = (m : Int) ∧ r = .returned (.tuple #[.pointer (some ⟨g, 0, none⟩), .nilIface]) ∧ Gr w' w.heap.size g bs bb cs cb m k s es ∧ Below w.heap.size w w' :=
 (new_any hS n k s v es a w hA hv hM hm).mono fun r w' h => by unfold NewAt at h; rw [if_pos hq] at h; exact h
theorem new_bad {M : Nat} (hS : SortOk M) (n k s : Int) (v : Value) (es : List Sy.Ed) (a : Addr) (w : World) (hA : Sent w 13 a) (hv : BEdges.Has w v es) (hM : es.length ≤ M) (hm : es.length ≤ 100000) (hq : Sy.right n k s es = false) :
 Calls Tryz.prog 23 #[sysV n k s v] w fun r w' => ∃ x, r = .returned (.tuple #[.pointer none, x]) ∧ Chain w' 0 0 a [sysB] x ∧ Below w.heap.size w w' :=
 (new_any hS n k s v es a w hA hv hM hm).mono fun r w' h => by unfold NewAt at h; rw [if_neg (by rw [hq]; simp)] at h; exact h
end Go.Proofs.YtplofbabfkkimaaGreatDoor
/- tauscc: the contract of collapsed. -/
namespace Go.Proofs.YtplofbabfkkimaaGreatDoor.Ts
open Go.RowKit Go.Maps
attribute [local go_sem ↓] Go.wp_at_zero Go.wp_at_succ
structure Sml (w wx : World) (gm : Nat) (N k ue : Value) (L : List Sy.Ed) : Prop where
 bl : Below w.heap.size w wx
 box : wx.heap[gm]? = some (.cells #[N, k, .int .i64 0, ue] 24 (0, 0))
 gu : w.heap.size ≤ gm
 own : BEdges.Own wx w.heap.size ue L
theorem sml_of {w W : World} {gm : Nat} {x0 x1 x2 x3 ue : Value} {L : List Sy.Ed} (hb : Below w.heap.size w W) (hz : W.heap[gm]? = some (.cells #[x0, x1, x2, x3] 24 (0, 0))) (hg : w.heap.size ≤ gm) (hO : BEdges.Own W w.heap.size ue L) (N k : Value) : Sml w ((((W.setCell ⟨gm, 0, none⟩ N).setCell ⟨gm, 1, none⟩ k).setCell ⟨gm, 2, none⟩ (.int .i64 0)).setCell ⟨gm, 3, none⟩ ue) gm N k ue L := by
 refine ⟨four_below hb hg _ _ _ _, four_set hz, hg, trow_at hO fun b hb => ?_⟩
 have h1 := own_bk hO hz (by decide)
 have e1 : b ≠ gm := fun e => h1 (by rw [← e]; exact hb)
 rw [set_other _ _ _ _ _ e1, set_other _ _ _ _ _ e1, set_other _ _ _ _ _ e1, set_other _ _ _ _ _ e1]
theorem edge_lower {w : World} {B B' : Nat} {v : Value} {zs : List Sy.Ed} (h : BEdges.Own w B v zs) (hB : B' ≤ B) : BEdges.Own w B' v zs := by
 obtain ⟨h1, h2⟩ := h
 refine ⟨h1, ?_⟩
 rcases h2 with h2 | ⟨g, cap, cur, h3, h4, h5⟩
 ·exact .inl h2
 ·exact .inr ⟨g, cap, cur, h3, Nat.le_trans hB h4, h5⟩
set_option linter.unusedSimpArgs false in
set_option maxRecDepth 100000 in
set_option maxHeartbeats 4000000 in
theorem collapsed_bad {M : Nat} (hS : SortOk M) (n k s : Int) (v : Value) (es : List Sy.Ed) (a : Addr) (w : World) (hA : Sent w 13 a) (hv : BEdges.Has w v es) (hM : es.length ≤ M) (hm : es.length ≤ 100000) (hq : Sy.right n k s es = false) :
 Calls Tryz.prog 26 #[sysV n k s v] w fun r w' => ∃ x, r = .returned (.tuple #[.pointer none, .slice none 0 0, x]) ∧ Chain w' 0 0 a [sysB] x ∧ Below w.heap.size w w' := by
 have hb1 := fun o => (Below.refl w.heap.size w).alloc (Nat.le_refl _) o
 have hN := fun o => new_bad hS n k s v es a (w.alloc o) (hA.below (hb1 o)) (hv.below (hb1 o)) hM hm hq
 have H : Hid _ := And.intro hN hb1
 clear hN hb1 hA hv hM hm hq
 unfold sysV at H ⊢
 go_enter Tryz.func26, Tryz.ntmps26
 go_wp2_with (go_at_call 23; refine Calls.mono (H.out.1 _) ?_; rintro r1 w1 ⟨x, rfl, hx, hb⟩; obtain ⟨T, ad, rfl⟩ := hx.iface; have HX : Hid _ := And.intro hx hb; clear hx hb)
 refine bodyPost_ret (v := _) (by simp [results, Tryz.results26, go_sem]; rfl) rfl ?_
 exact ⟨_, rfl, HX.out.1, (H.out.2 _).trans (HX.out.2.mono (by rw [World.size_alloc]; omega))⟩
set_option linter.unusedSimpArgs false in
set_option maxRecDepth 100000 in
set_option maxHeartbeats 4000000 in
theorem collapsed_ok {M : Nat} (hS : SortOk M) (n : Nat) (k s : Int) (v : Value) (es : List Sy.Ed) (a : Addr) (w : World) (hA : Sent w 13 a) (hv : BEdges.Has w v es) (hM : es.length ≤ M) (hm : es.length ≤ 100000) (hq : Sy.right n k s es = true) :
 Calls Tryz.prog 26 #[sysV n k s v] w fun r w' => ∃ (g bs bb cs cb : Nat) (u : Value) (cl : List Nat), r = .returned (.tuple #[.pointer (some ⟨g, 0, none⟩), u, .nilIface]) ∧ Cl n es cl ∧ Gr w' w.heap.size g bs bb cs cb (tog cl) k (sta n cl s) (btw cl es) ∧ OwnI w' w.heap.size u (natI cl) ∧ Below w.heap.size w w' := by
 obtain ⟨w1, hw1⟩ : ∃ w1, w1 = w.alloc (.cells #[.int .i64 n, .int .i64 k, .int .i64 s, v] 24) := ⟨_, rfl⟩
 have hb1 : Below w.heap.size w w1 := by rw [hw1]; exact (Below.refl _ _).alloc (Nat.le_refl _) _
 have hg1 : w1.heap[w.heap.size]? = some (.cells #[.int .i64 n, .int .i64 k, .int .i64 s, v] 24 (0, 0)) := by rw [hw1]; exact heap_alloc_new w _
 have hN := new_ok hS n k s v es a w1 (hA.below hb1) (hv.below hb1) hM hm hq
 unfold sysV at hN ⊢
 have H : Hid _ := And.intro hN (And.intro hb1 (And.intro hg1 (And.intro hA (And.intro hv (And.intro hM (And.intro hm (And.intro hq hS)))))))
 have HW1 : Hid _ := hw1
 clear hN hb1 hg1 hA hv hM hm hq hw1
 go_enter Tryz.func26, Tryz.ntmps26
 go_upto_region 5 with (first | (go_at_call 23; rw [← HW1.out]; refine Calls.mono H.out.1 ?_; rintro r2 w2 ⟨g, bs, bb, cs, cb, m, hnm, rfl, hG, hb2⟩; obtain rfl : n = m := (by omega); clear hnm; have H2 : Hid _ := And.intro hG hb2; clear hG hb2) | (go_at_call 25; refine Calls.mono (cyclesOf_any _ H2.out.1) ?_; rintro r3 w3 ⟨u, zs, rfl, hZ, hO, hb3⟩; have hC := Cl.of hZ; obtain ⟨cl, hcl⟩ : ∃ cl, cl = Sy.canon zs := ⟨_, rfl⟩; rw [← hcl] at hC hO; obtain ⟨au, cu, hu⟩ := row_shape hO; have hlen : (natI cl).length = n := (by rw [← hC.len]; simp [natI]); rw [hlen] at hu; subst hu; have H3 : Hid _ := And.intro hC (And.intro hO hb3); clear hZ hO hb3 hC hcl hlen zs))
 have hb3 : Below w.heap.size w w3 := H.out.2.1.trans ((H2.out.2.trans (H3.out.2.2.mono H2.out.2.size)).mono H.out.2.1.size)
 have hb13 : Below w1.heap.size w1 w3 := H2.out.2.trans (H3.out.2.2.mono H2.out.2.size)
 have hg3 : w3.heap[w.heap.size]? = some (.cells #[.int .i64 n, .int .i64 k, .int .i64 s, v] 24 (0, 0)) := (hb13.block _ (t_lt H.out.2.2.1)).trans H.out.2.2.1
 obtain ⟨c0, c1, c2, c3⟩ := four_cells hg3
 have hT := fun W (hb : Below w3.heap.size w3 W) => pTogether _ (natI cl) W (H3.out.2.1.has.below hb) (by rw [show (natI cl).length = cl.length by simp [natI], H3.out.1.len]; have := right_parts H.out.2.2.2.2.2.2.2.1; omega) (nat_i64 H3.out.1 (by have := right_parts H.out.2.2.2.2.2.2.2.1; omega))
 have hB := fun W (hb : Below w3.heap.size w3 W) => between_any v _ es cl W (H.out.2.2.2.2.1.below (hb3.trans (hb.mono hb3.size))) (H3.out.2.1.has.below hb) H.out.2.2.2.2.2.2.1 (by rw [H3.out.1.len]; exact fun e he => by have h9 := (right_parts H.out.2.2.2.2.2.2.2.1).2.2.2.2.2 e he; exact ⟨h9.1, h9.2.1, h9.2.2.1, h9.2.2.2.1⟩)
 have HT : Hid _ := hT
 have HB : Hid _ := hB
 have HG : Hid _ := And.intro hb3 hg3
 clear hT hB hb3 hb13 hg3
 go_cut [8] (fun s8 wx => ∃ (gm : Nat) (ae : Option Addr) (le ce : Nat), s8 = .pointer (some ⟨gm, 0, none⟩) ∧ Sml w3 wx gm (.int .i64 (tog cl : Nat)) (.int .i64 k) (.slice ae le ce) (btw cl es))
 case first =>
  refine wp_region_held_drew (S := (fun w' => w'.cell? ⟨w.heap.size, 1, none⟩ = some (.int .i64 k) ∧ w'.cell? ⟨w.heap.size, 3, none⟩ = some v)) (by kernel_rfl) ?_ (fun hHeld => ?_)
  ·exact ⟨c1, c3⟩
  have hb0 : Below w3.heap.size w3 w3.drew := (Below.refl _ _).drew
  refine tk9 0 ?_ rfl (by kernel_rfl) (fun _ _ _ h => h) ⟨by rfl, ?_⟩ (by assumption) ?_; rotate_left; (focus (intro w hSw; (try dsimp only at hSw); go_simp; (try with_reducible rfl))); (try simp only [ty9, Act.put])
  refine tk9 2 ?_ rfl (by kernel_rfl) (fun _ _ _ h => h) ⟨by rfl, ?_⟩ (by assumption) ?_; rotate_left; (focus (intro w hSw; (try dsimp only at hSw); go_simp; (try with_reducible rfl))); (try simp only [ty9, Act.put])
  refine tk9 3 ?_ rfl (by kernel_rfl) (fun _ _ _ h => h) ⟨by rfl, ?_⟩ (by assumption) ?_; rotate_left; (focus (intro w hSw; (try dsimp only at hSw); go_simp; (try with_reducible rfl))); (try simp only [ty9, Act.put])
  refine tk9 4 ?_ rfl (by kernel_rfl) (fun _ _ _ h => h) ⟨by rfl, ?_⟩ (by assumption) ?_; rotate_left; (focus (intro w hSw; (try dsimp only at hSw); go_simp; (try with_reducible rfl))); (try simp only [ty9, Act.put])
  refine tk9 5 ?_ rfl (by kernel_rfl) (fun _ _ _ h => h) ⟨by rfl, ?_⟩ (by assumption) ?_; rotate_left; (focus (intro w hSw; (try dsimp only at hSw); go_simp; (try with_reducible rfl))); (try simp only [ty9, Act.put])
  refine tk9 6 ?_ rfl (by kernel_rfl) (fun _ _ _ h => h) ⟨by rfl, ?_⟩ (by assumption) ?_; rotate_left; (focus (intro w hSw; (try dsimp only at hSw); go_simp; (try with_reducible rfl))); (try simp only [ty9, Act.put])
  refine wpAnyH_ready (rs := [1, 9]) (by kernel_rfl) (by simp) ?_
  refine AllReadyH.cons (o := _) rfl (fun K hK => ?_) ?_
  ·(go_simp; go_at_call 93; refine Calls.mono (HT.out _ hb0) ?_; rintro r4 w4 ⟨rfl, hb⟩; have hb4 : Below w3.heap.size w3 w4 := hb0.trans (hb.mono hb0.size); have HB4 : Hid _ := And.intro hb (hb0.size); clear hb)
   (try go_wp2_with fail)
   refine hK.out _ _ ?_ (fun hHeld => ?_)
   ·exact ⟨cell_up c1 hb4, cell_up c3 hb4⟩
   clear hK K
   (try simp only [ty9, Act.put])
   refine wpAnyH_ready (rs := [7, 9]) (by kernel_rfl) (by simp) ?_
   refine AllReadyH.cons (o := _) rfl (fun K hK => ?_) ?_
   ·(go_simp; go_at_call 94; refine Calls.mono (HB.out _ hb4) ?_; rintro r5 w5 ⟨ue, rfl, hOe, hb⟩; have hb5 : Below w3.heap.size w3 w5 := hb4.trans (hb.mono hb4.size); obtain ⟨ae, ce, hue⟩ := row_shape hOe; obtain ⟨le, hle⟩ : ∃ l, l = (btw cl es).length := ⟨_, rfl⟩; rw [← hle] at hue; subst hue; have HE : Hid _ := And.intro (edge_lower hOe hb4.size) (And.intro hle hb); clear hb hOe hle)
    (try go_wp2_with fail)
    refine hK.out _ _ ?_ (fun hHeld => ?_)
    ·exact ⟨cell_up c1 hb5, cell_up c3 hb5⟩
    clear hK K
    (try simp only [ty9, Act.put])
    refine tk9 8 ?_ rfl (by kernel_rfl) (fun _ _ _ h => h) ⟨by rfl, ?_⟩ (by assumption) ?_; rotate_left; (focus (intro w hSw; (try dsimp only at hSw); go_simp; (try with_reducible rfl))); (try simp only [ty9, Act.put])
    refine wpAnyH_ready (rs := [9]) (by kernel_rfl) (by simp) ?_
    refine AllReadyH.cons (o := _) rfl (fun K hK => ?_) ?_
    ·(go_simp)
     (try go_wp2_with fail)
     refine hK.out _ _ ?_ (fun hHeld => ?_)
     ·exact ⟨cell_al hHeld.1 _, cell_al hHeld.2 _⟩
     clear hK K
     obtain ⟨wa, hwa⟩ : ∃ wa, wa = w5.alloc (.cells #[.int .i64 0, .int .i64 0, .int .i64 0, .slice none 0 0] 24) := ⟨_, rfl⟩
     obtain ⟨gm, hgm⟩ : ∃ gm, gm = w5.heap.size := ⟨_, rfl⟩
     have hza : wa.heap[gm]? = some (.cells #[.int .i64 0, .int .i64 0, .int .i64 0, .slice none 0 0] 24 (0, 0)) := (by rw [hwa, hgm]; exact heap_alloc_new w5 _)
     have hba : Below w3.heap.size w3 wa := (by rw [hwa]; exact (hb5.alloc hb5.size _))
     have hgu : w3.heap.size ≤ gm := (by rw [hgm]; exact hb5.size)
     have hbw : Below w5.heap.size w5 wa := (by rw [hwa]; exact ((Below.refl _ _).alloc (Nat.le_refl _) _))
     rw [← hwa, ← hgm]
     rw [← hwa] at hHeld
     clear hwa hgm
     (try simp only [ty9, Act.put])
     have hz : wa.heap[gm]? = some (.cells #[.int .i64 0, .int .i64 0, .int .i64 0, .slice none 0 0] 24 (0, 0)) := hza
     obtain ⟨z0, z1, z2, z3⟩ := four_cells hz
     have f0 := blk_free hz 0
     have f1 := blk_free hz 1
     have f2 := blk_free hz 2
     have f3 := blk_free hz 3
     have hO9 : BEdges.Own wa w3.heap.size (.slice ae le ce) (btw cl es) := trow_at HE.out.1 fun b hb => hbw.block b (HE.out.1.lt b hb).2
     have H9 := sml_of hba hz hgu hO9 (.int .i64 (tog cl : Nat)) (.int .i64 k)
     have HZ : Hid _ := H9
     clear H9 hz hO9
     refine wpAnyH_ready (rs := [10]) (by kernel_rfl) (by simp) ?_
     refine AllReadyH.cons (o := _) rfl (fun K hK => ?_) ?_
     ·(go_simp)
      (try go_wp2_with fail)
      refine hK.out _ _ ?_ (fun hHeld => ?_)
      ·exact ⟨cell_up c1 HZ.out.bl, cell_up c3 HZ.out.bl⟩
      clear hK K
      (try simp only [ty9, Act.put])
      refine wpAnyH_done (by kernel_rfl) ?_ _
      refine Met.intro ?_
      apply_assumption
      refine Met.intro ?_
      apply_assumption
      (repeat apply Exists.intro)
      refine ⟨?_, rfl⟩
      exact ⟨gm, ae, le, ce, rfl, HZ.out⟩
     exact AllReadyH.nil
    exact AllReadyH.nil
   refine AllReadyH.cons (o := _) rfl (fun K hK => ?_) ?_
   ·(go_simp)
    (try go_wp2_with fail)
    refine hK.out _ _ ?_ (fun hHeld => ?_)
    ·exact ⟨cell_al hHeld.1 _, cell_al hHeld.2 _⟩
    clear hK K
    obtain ⟨wa, hwa⟩ : ∃ wa, wa = w4.alloc (.cells #[.int .i64 0, .int .i64 0, .int .i64 0, .slice none 0 0] 24) := ⟨_, rfl⟩
    obtain ⟨gm, hgm⟩ : ∃ gm, gm = w4.heap.size := ⟨_, rfl⟩
    have hza : wa.heap[gm]? = some (.cells #[.int .i64 0, .int .i64 0, .int .i64 0, .slice none 0 0] 24 (0, 0)) := (by rw [hwa, hgm]; exact heap_alloc_new w4 _)
    have hba : Below w3.heap.size w3 wa := (by rw [hwa]; exact (hb4.alloc hb4.size _))
    have hgu : w3.heap.size ≤ gm := (by rw [hgm]; exact hb4.size)
    have hbw : Below w4.heap.size w4 wa := (by rw [hwa]; exact ((Below.refl _ _).alloc (Nat.le_refl _) _))
    rw [← hwa, ← hgm]
    rw [← hwa] at hHeld
    clear hwa hgm
    (try simp only [ty9, Act.put])
    refine wpAnyH_ready (rs := [7]) (by kernel_rfl) (by simp) ?_
    refine AllReadyH.cons (o := _) rfl (fun K hK => ?_) ?_
    ·(go_simp; go_at_call 94; refine Calls.mono (HB.out _ hba) ?_; rintro r5 w5 ⟨ue, rfl, hOe, hb⟩; have hb5 : Below w3.heap.size w3 w5 := hba.trans (hb.mono hba.size); obtain ⟨ae, ce, hue⟩ := row_shape hOe; obtain ⟨le, hle⟩ : ∃ l, l = (btw cl es).length := ⟨_, rfl⟩; rw [← hle] at hue; subst hue; have HE : Hid _ := And.intro (edge_lower hOe hba.size) (And.intro hle hb); clear hb hOe hle)
     (try go_wp2_with fail)
     refine hK.out _ _ ?_ (fun hHeld => ?_)
     ·exact ⟨cell_up c1 hb5, cell_up c3 hb5⟩
     clear hK K
     (try simp only [ty9, Act.put])
     refine tk9 8 ?_ rfl (by kernel_rfl) (fun _ _ _ h => h) ⟨by rfl, ?_⟩ (by assumption) ?_; rotate_left; (focus (intro w hSw; (try dsimp only at hSw); go_simp; (try with_reducible rfl))); (try simp only [ty9, Act.put])
     have hz : w5.heap[gm]? = some (.cells #[.int .i64 0, .int .i64 0, .int .i64 0, .slice none 0 0] 24 (0, 0)) := (HE.out.2.2.block _ (t_lt hza)).trans hza
     obtain ⟨z0, z1, z2, z3⟩ := four_cells hz
     have f0 := blk_free hz 0
     have f1 := blk_free hz 1
     have f2 := blk_free hz 2
     have f3 := blk_free hz 3
     have hO9 : BEdges.Own w5 w3.heap.size (.slice ae le ce) (btw cl es) := HE.out.1
     have H9 := sml_of hb5 hz hgu hO9 (.int .i64 (tog cl : Nat)) (.int .i64 k)
     have HZ : Hid _ := H9
     clear H9 hz hO9
     refine wpAnyH_ready (rs := [10]) (by kernel_rfl) (by simp) ?_
     refine AllReadyH.cons (o := _) rfl (fun K hK => ?_) ?_
     ·(go_simp)
      (try go_wp2_with fail)
      refine hK.out _ _ ?_ (fun hHeld => ?_)
      ·exact ⟨cell_up c1 HZ.out.bl, cell_up c3 HZ.out.bl⟩
      clear hK K
      (try simp only [ty9, Act.put])
      refine wpAnyH_done (by kernel_rfl) ?_ _
      refine Met.intro ?_
      apply_assumption
      refine Met.intro ?_
      apply_assumption
      (repeat apply Exists.intro)
      refine ⟨?_, rfl⟩
      exact ⟨gm, ae, le, ce, rfl, HZ.out⟩
     exact AllReadyH.nil
    exact AllReadyH.nil
   exact AllReadyH.nil
  refine AllReadyH.cons (o := _) rfl (fun K hK => ?_) ?_
  ·(go_simp)
   (try go_wp2_with fail)
   refine hK.out _ _ ?_ (fun hHeld => ?_)
   ·exact ⟨cell_al hHeld.1 _, cell_al hHeld.2 _⟩
   clear hK K
   obtain ⟨wa, hwa⟩ : ∃ wa, wa = (w3.alloc (.cells #[.int .i64 0, .int .i64 0, .int .i64 0, .slice none 0 0] 24)).drew := ⟨_, rfl⟩
   obtain ⟨gm, hgm⟩ : ∃ gm, gm = w3.heap.size := ⟨_, rfl⟩
   have hza : wa.heap[gm]? = some (.cells #[.int .i64 0, .int .i64 0, .int .i64 0, .slice none 0 0] 24 (0, 0)) := (by rw [hwa, hgm]; exact heap_alloc_new w3 _)
   have hba : Below w3.heap.size w3 wa := (by rw [hwa]; exact ((Below.refl w3.heap.size w3).alloc (Below.refl w3.heap.size w3).size _).drew)
   have hgu : w3.heap.size ≤ gm := (by rw [hgm]; exact (Below.refl w3.heap.size w3).size)
   have hbw : Below w3.heap.size w3 wa := (by rw [hwa]; exact ((Below.refl _ _).alloc (Nat.le_refl _) _).drew)
   rw [← hwa, ← hgm]
   rw [← hwa] at hHeld
   clear hwa hgm
   (try simp only [ty9, Act.put])
   refine wpAnyH_ready (rs := [1]) (by kernel_rfl) (by simp) ?_
   refine AllReadyH.cons (o := _) rfl (fun K hK => ?_) ?_
   ·(go_simp; go_at_call 93; refine Calls.mono (HT.out _ hba) ?_; rintro r4 w4 ⟨rfl, hb⟩; have hb4 : Below w3.heap.size w3 w4 := hba.trans (hb.mono hba.size); have HB4 : Hid _ := And.intro hb (hba.size); clear hb)
    (try go_wp2_with fail)
    refine hK.out _ _ ?_ (fun hHeld => ?_)
    ·exact ⟨cell_up c1 hb4, cell_up c3 hb4⟩
    clear hK K
    (try simp only [ty9, Act.put])
    refine wpAnyH_ready (rs := [7]) (by kernel_rfl) (by simp) ?_
    refine AllReadyH.cons (o := _) rfl (fun K hK => ?_) ?_
    ·(go_simp; go_at_call 94; refine Calls.mono (HB.out _ hb4) ?_; rintro r5 w5 ⟨ue, rfl, hOe, hb⟩; have hb5 : Below w3.heap.size w3 w5 := hb4.trans (hb.mono hb4.size); obtain ⟨ae, ce, hue⟩ := row_shape hOe; obtain ⟨le, hle⟩ : ∃ l, l = (btw cl es).length := ⟨_, rfl⟩; rw [← hle] at hue; subst hue; have HE : Hid _ := And.intro (edge_lower hOe hb4.size) (And.intro hle hb); clear hb hOe hle)
     (try go_wp2_with fail)
     refine hK.out _ _ ?_ (fun hHeld => ?_)
     ·exact ⟨cell_up c1 hb5, cell_up c3 hb5⟩
     clear hK K
     (try simp only [ty9, Act.put])
     refine tk9 8 ?_ rfl (by kernel_rfl) (fun _ _ _ h => h) ⟨by rfl, ?_⟩ (by assumption) ?_; rotate_left; (focus (intro w hSw; (try dsimp only at hSw); go_simp; (try with_reducible rfl))); (try simp only [ty9, Act.put])
     have hz : w5.heap[gm]? = some (.cells #[.int .i64 0, .int .i64 0, .int .i64 0, .slice none 0 0] 24 (0, 0)) := (HE.out.2.2.block _ (Nat.lt_of_lt_of_le (t_lt hza) HB4.out.1.size)).trans ((HB4.out.1.block _ (t_lt hza)).trans hza)
     obtain ⟨z0, z1, z2, z3⟩ := four_cells hz
     have f0 := blk_free hz 0
     have f1 := blk_free hz 1
     have f2 := blk_free hz 2
     have f3 := blk_free hz 3
     have hO9 : BEdges.Own w5 w3.heap.size (.slice ae le ce) (btw cl es) := HE.out.1
     have H9 := sml_of hb5 hz hgu hO9 (.int .i64 (tog cl : Nat)) (.int .i64 k)
     have HZ : Hid _ := H9
     clear H9 hz hO9
     refine wpAnyH_ready (rs := [10]) (by kernel_rfl) (by simp) ?_
     refine AllReadyH.cons (o := _) rfl (fun K hK => ?_) ?_
     ·(go_simp)
      (try go_wp2_with fail)
      refine hK.out _ _ ?_ (fun hHeld => ?_)
      ·exact ⟨cell_up c1 HZ.out.bl, cell_up c3 HZ.out.bl⟩
      clear hK K
      (try simp only [ty9, Act.put])
      refine wpAnyH_done (by kernel_rfl) ?_ _
      refine Met.intro ?_
      apply_assumption
      refine Met.intro ?_
      apply_assumption
      (repeat apply Exists.intro)
      refine ⟨?_, rfl⟩
      exact ⟨gm, ae, le, ce, rfl, HZ.out⟩
     exact AllReadyH.nil
    exact AllReadyH.nil
   exact AllReadyH.nil
  exact AllReadyH.nil
 case rest =>
  obtain ⟨gm, ae, le, ce, rfl, hM⟩ := hcut
  have hgc : wc.heap[w.heap.size]? = some (.cells #[.int .i64 n, .int .i64 k, .int .i64 s, v] 24 (0, 0)) := (hM.bl.block _ (t_lt HG.out.2)).trans HG.out.2
  obtain ⟨d0, d1, d2, d3⟩ := four_cells hgc
  have HM : Hid _ := And.intro hM hgc
  clear hM hgc c0 c1 c2 c3
  by_cases hn : 0 < n
  ·have n1 : (0 : Int) < (n : Int) := by omega
   have hr := right_parts H.out.2.2.2.2.2.2.2.1
   obtain ⟨p, hp⟩ : ∃ p : Nat, s = (p : Int) := ⟨s.toNat, by omega⟩
   obtain ⟨x, hx⟩ : ∃ x, cl[p]? = some x := ⟨_, List.getElem?_eq_getElem (by rw [H3.out.1.len]; omega)⟩
   have hI := H3.out.2.1.has.below HM.out.1.bl
   obtain ⟨ac, cc, hs1, x0⟩ := hasI_cell hI hx
   injection hs1 with s1 s2 s3
   have hsta : sta n cl s = (x : Int) := by unfold sta; rw [if_pos hn, hp, cla_at hx]
   have p0 : (0 : Int) ≤ (p : Int) := by omega
   have p1 : (p : Int) < (n : Int) := by omega
   rw [hp] at d2
   obtain ⟨m0, m1, m2, m3⟩ := four_cells HM.out.1.box
   have g2 := blk_free HM.out.1.box 2
   obtain ⟨w6, hw6⟩ : ∃ w6, w6 = wc.setCell ⟨gm, 2, none⟩ (.int .i64 x) := ⟨_, rfl⟩
   have hx6 : w6.heap[gm]? = some (.cells #[.int .i64 (tog cl : Nat), .int .i64 k, .int .i64 (sta n cl s), .slice ae le ce] 24 (0, 0)) := by
    rw [hw6, hsta]
    exact heap_setCell_same wc gm 2 _ _ _ HM.out.1.box
   have hb6 : Below w3.heap.size w3 w6 := by rw [hw6]; exact HM.out.1.bl.setCell HM.out.1.gu _
   have hO6 : BEdges.Own w6 w3.heap.size (.slice ae le ce) (btw cl es) := trow_at HM.out.1.own fun b hb => by
    have h1 := own_bk HM.out.1.own HM.out.1.box (by decide)
    rw [hw6]
    exact set_other _ _ _ _ _ fun e => h1 (by rw [← e]; exact hb)
   rw [s1]
   clear hr hp hx hI hsta s2 s3
   subst s1
   go_upto_region 8 with fail
   rw [← hw6]
   clear hw6 m0 m1 m2 m3 g2 x0 d0 d1 d2 d3
   obtain ⟨y0, y1, y2, y3⟩ := four_cells hx6
   have hN := new_ok H.out.2.2.2.2.2.2.2.2 (tog cl : Nat) k (sta n cl s) (.slice ae le ce) (btw cl es) a w6 (H.out.2.2.2.1.below (HG.out.1.trans (hb6.mono HG.out.1.size))) hO6.has (Nat.le_trans (btw_len cl es) H.out.2.2.2.2.2.1) (Nat.le_trans (btw_len cl es) H.out.2.2.2.2.2.2.1) (small_right H3.out.1 H.out.2.2.2.2.2.2.2.1)
   unfold sysV at hN
   obtain ⟨st, hst⟩ : ∃ st, st = sta n cl s := ⟨_, rfl⟩
   rw [← hst] at hN y2
   have HN : Hid _ := And.intro hN (And.intro hb6 hst)
   clear hN hb6 hx6 hO6 hst
   go_wp2_with (go_at_call 23; refine Calls.mono HN.out.1 ?_; rintro r7 w7 ⟨g7, bs7, bb7, cs7, cb7, m7, hm7, rfl, hG7, hb7⟩; obtain rfl : tog cl = m7 := (by omega); clear hm7; have H7 : Hid _ := And.intro hG7 hb7; clear hG7 hb7)
   refine bodyPost_ret (v := .tuple #[.pointer (some ⟨g7, 0, none⟩), .slice (some ac) n cu, .nilIface]) (by simp [results, Tryz.results26, go_sem]) rfl ?_
   have hb37 : Below w3.heap.size w3 w7 := HN.out.2.1.trans (H7.out.2.mono HN.out.2.1.size)
   refine ⟨g7, bs7, bb7, cs7, cb7, _, cl, rfl, H3.out.1, ?_, ?_, HG.out.1.trans (hb37.mono HG.out.1.size)⟩
   ·rw [← HN.out.2.2]; exact Gr.lower H7.out.1 (Nat.le_trans HG.out.1.size HN.out.2.1.size)
   ·exact own_lower (trow_at H3.out.2.1 fun b hb => hb37.block b (H3.out.2.1.lt b hb).2) (Nat.le_trans H.out.2.1.size H2.out.2.size)
  ·have n1 : ¬ (0 : Int) < (n : Int) := by omega
   have hsta : sta n cl s = 0 := by unfold sta; rw [if_neg hn]
   obtain ⟨w6, hw6⟩ : ∃ w6, w6 = wc := ⟨_, rfl⟩
   have hx6 : w6.heap[gm]? = some (.cells #[.int .i64 (tog cl : Nat), .int .i64 k, .int .i64 (sta n cl s), .slice ae le ce] 24 (0, 0)) := by
    rw [hw6, hsta]
    exact HM.out.1.box
   have hb6 : Below w3.heap.size w3 w6 := by rw [hw6]; exact HM.out.1.bl
   have hO6 : BEdges.Own w6 w3.heap.size (.slice ae le ce) (btw cl es) := by rw [hw6]; exact HM.out.1.own
   clear hsta
   go_upto_region 8 with fail
   rw [← hw6]
   clear hw6 d0 d1 d2 d3
   obtain ⟨y0, y1, y2, y3⟩ := four_cells hx6
   have hN := new_ok H.out.2.2.2.2.2.2.2.2 (tog cl : Nat) k (sta n cl s) (.slice ae le ce) (btw cl es) a w6 (H.out.2.2.2.1.below (HG.out.1.trans (hb6.mono HG.out.1.size))) hO6.has (Nat.le_trans (btw_len cl es) H.out.2.2.2.2.2.1) (Nat.le_trans (btw_len cl es) H.out.2.2.2.2.2.2.1) (small_right H3.out.1 H.out.2.2.2.2.2.2.2.1)
   unfold sysV at hN
   obtain ⟨st, hst⟩ : ∃ st, st = sta n cl s := ⟨_, rfl⟩
   rw [← hst] at hN y2
   have HN : Hid _ := And.intro hN (And.intro hb6 hst)
   clear hN hb6 hx6 hO6 hst
   go_wp2_with (go_at_call 23; refine Calls.mono HN.out.1 ?_; rintro r7 w7 ⟨g7, bs7, bb7, cs7, cb7, m7, hm7, rfl, hG7, hb7⟩; obtain rfl : tog cl = m7 := (by omega); clear hm7; have H7 : Hid _ := And.intro hG7 hb7; clear hG7 hb7)
   refine bodyPost_ret (v := .tuple #[.pointer (some ⟨g7, 0, none⟩), .slice au n cu, .nilIface]) (by simp [results, Tryz.results26, go_sem]) rfl ?_
   have hb37 : Below w3.heap.size w3 w7 := HN.out.2.1.trans (H7.out.2.mono HN.out.2.1.size)
   refine ⟨g7, bs7, bb7, cs7, cb7, _, cl, rfl, H3.out.1, ?_, ?_, HG.out.1.trans (hb37.mono HG.out.1.size)⟩
   ·rw [← HN.out.2.2]; exact Gr.lower H7.out.1 (Nat.le_trans HG.out.1.size HN.out.2.1.size)
   ·exact own_lower (trow_at H3.out.2.1 fun b hb => hb37.block b (H3.out.2.1.lt b hb).2) (Nat.le_trans H.out.2.1.size H2.out.2.size)
end Go.Proofs.YtplofbabfkkimaaGreatDoor.Ts
/- slices.Sort of a list of numbers that is the call's own. -/
namespace Go.Proofs.YtplofbabfkkimaaGreatDoor
open Go.RowKit Go.Maps
end Go.Proofs.YtplofbabfkkimaaGreatDoor
/- Contracts of the program's Degree and Reach. -/
namespace Go.Proofs.YtplofbabfkkimaaGreatDoor
open Go.RowKit Go.Maps
attribute [local go_sem ↓] Go.wp_at_zero Go.wp_at_succ
def Sy.degTo (l : List Sy.Ed) : Nat → Nat
 | 0 => 0
 | st + 1 => max (Sy.degTo l st) (Sy.steps l (st : Int)).length
theorem rowOf_in {n q : Nat} (l : List Sy.Ed) (h : q < n) : Sy.rowOf n l (q : Int) = Sy.steps l q := by
 unfold Sy.rowOf
 rw [if_pos ⟨by omega, by omega⟩]
def Sy.marked (bs : List Bool) : List Int := ((List.range bs.length).filter fun p => bs[p]? == some true).map fun (p : Nat) => (p : Int)
structure RpAt (w wr : World) (gi : Nat) (u : Value) (zs : List Int) (bs : List Bool) : Prop where
 inn : Arr 4 w wr gi (bC bs)
 lst : OwnI wr w.heap.size u zs
end Go.Proofs.YtplofbabfkkimaaGreatDoor
/- Contract of the program's Edges. -/
namespace Go.Proofs.YtplofbabfkkimaaGreatDoor
open Go.RowKit Go.Maps
attribute [local go_sem ↓] Go.wp_at_zero Go.wp_at_succ
def Sy.es1 (st : Int) (zs : List BSteps.El) : List Sy.Ed := zs.map fun x => (st, x.1, x.2)
theorem Sy.es1_steps (l : List Sy.Ed) (st : Int) : Sy.es1 st (Sy.steps l st) = l.filter fun e => e.1 == st := by
 unfold Sy.es1 Sy.steps
 rw [List.map_map]
 have h : ∀ e ∈ l.filter (fun e => e.1 == st), ((fun x : BSteps.El => (st, x.1, x.2)) ∘ fun e : Sy.Ed => (e.2.1, e.2.2)) e = e := fun e he => by
  have := (List.mem_filter.1 he).2
  simp at this
  obtain ⟨a, b, c⟩ := e
  simp at this
  simp [this]
 rw [List.map_congr_left h]
 simp
theorem Sy.take_row {l : List Sy.Ed} (h : Sy.Rows l) (st : Int) : l.take (Sy.cnt l st) ++ Sy.es1 st (Sy.steps l st) = l.take (Sy.cnt l (st + 1)) := by
 rw [Sy.es1_steps, Sy.row_piece h st]
 have h1 := Sy.cnt_mono l st
 conv => rhs; rw [show Sy.cnt l (st + 1) = Sy.cnt l st + (Sy.cnt l (st + 1) - Sy.cnt l st) by omega, List.take_add]
theorem Sy.es1_snoc {st : Int} {zs : List BSteps.El} {k : Nat} {x : BSteps.El} (h : zs[k]? = some x) : Sy.es1 st (zs.take (k + 1)) = Sy.es1 st (zs.take k) ++ [(st, x.1, x.2)] := by
 rw [take_succ_of h]
 simp [Sy.es1]
theorem Sy.es1_len (st : Int) (zs : List BSteps.El) : (Sy.es1 st zs).length = zs.length := by simp [Sy.es1]
theorem Sy.take_all {n k s : Int} {es : List Sy.Ed} (h : Sy.right n k s es = true) : (Sy.nf es).take (Sy.cnt (Sy.nf es) n) = Sy.nf es := by
 rw [Sy.cnt_all fun e he => ((right_parts h).2.2.2.2.2 e ((Sy.nf_mem es e).1 he)).2.1, List.take_length]
theorem Sy.take_none {n k s : Int} {es : List Sy.Ed} (h : Sy.right n k s es = true) : (Sy.nf es).take (Sy.cnt (Sy.nf es) 0) = [] := by
 rw [Sy.cnt_none fun e he => by have := ((right_parts h).2.2.2.2.2 e ((Sy.nf_mem es e).1 he)).1; omega]
 rfl
set_option maxRecDepth 100000 in
set_option maxHeartbeats 8000000 in
theorem edges_any {B g bs bb cs cb n : Nat} {k s : Int} {es : List Sy.Ed} (w : World) (h : Gr w B g bs bb cs cb n k s es) : Calls Tryz.prog 30 #[.pointer (some ⟨g, 0, none⟩)] w fun r w' => ∃ u, r = .returned u ∧ BEdges.Own w' w.heap.size u (Sy.nf es) ∧ Below w.heap.size w w' := by
 obtain ⟨i0, hi0, hz0, hz1, hz2⟩ := info_parts BEdges.Tryz.infoE
 have hSt := states_any w h
 have hs := h.sizes
 have HG : Hid _ := And.intro h (And.intro hSt hs)
 have hn : n ≤ 1000 := hs.1
 obtain ⟨l, hl⟩ : ∃ l, l = Sy.nf es := ⟨_, rfl⟩
 have HL : Hid (l = Sy.nf es ∧ Sy.Rows l ∧ l.take (Sy.cnt l 0) = [] ∧ l.take (Sy.cnt l n) = l) := (by rw [hl]; exact ⟨rfl, nf_rows es, Sy.take_none h.right, Sy.take_all h.right⟩ : l = Sy.nf es ∧ Sy.Rows l ∧ l.take (Sy.cnt l 0) = [] ∧ l.take (Sy.cnt l n) = l)
 rw [← hl]
 clear h hSt hs hl
 go_enter Tryz.func30, Tryz.ntmps30
 go_wp2_with (go_at_call 27; refine Calls.mono HG.out.2.1 ?_; rintro r w1 ⟨rfl, hw⟩; obtain rfl := hw.symm)
 go_loopg [3, 9] n (fun q uv iv wr => ∃ st : Nat, q = n - st ∧ st ≤ n ∧ iv = .int .i64 st ∧ BEdges.Own wr w.heap.size uv (l.take (Sy.cnt l (st : Int))) ∧ Below w.heap.size w wr)
 case atStart => exact ⟨0, rfl, Nat.zero_le _, rfl, by show BEdges.Own w w.heap.size _ (l.take (Sy.cnt l 0)); rw [HL.out.2.2.1]; exact World.ownsRow_nil _ _ _ _, Below.refl _ _⟩
 case round =>
  obtain ⟨st, rfl, hst, rfl, hO, hb⟩ := hrel
  obtain ⟨wq, rfl⟩ : ∃ wq, wq = wr := ⟨_, rfl⟩
  by_cases hlt : st < n
  ·have hG := HG.out.1.below hb
   obtain ⟨_, _, _, ⟨c0, c1⟩, _, _⟩ := hG.cells
   have hR := hG.row (st : Int)
   have hT := hG.out
   obtain ⟨L, hL⟩ : ∃ L, L = (Sy.nf es).length := ⟨_, rfl⟩
   have hl1 := Sy.steps_len (Sy.nf es) (st : Int)
   have hsz := HG.out.2.2.2
   rw [rowOf_in _ hlt] at hR
   have HR : Hid _ := And.intro hR (And.intro hb (And.intro hO (And.intro hL hT)))
   rw [← hL] at HR c0 hsz hl1
   have r1 : (st : Int) < (n : Int) := by omega
   clear hG hR hb hL hT hO
   go_wp2_with fail
   refine Calls.mono HR.out.1 ?_
   rintro r w1 ⟨v, rfl, hv, hb1⟩
   obtain ⟨av, cv, rfl, _⟩ := hv wq HR.out.2.2.2.2
   obtain ⟨M, hM⟩ : ∃ M, M = (Sy.steps (Sy.nf es) (st : Int)).length := ⟨_, rfl⟩
   rw [← hM]
   rw [← hM] at hv hl1
   have H1 : Hid _ := And.intro hv (And.intro hb1 hM)
   clear hv hb1 hM c0 c1
   go_wp2_with fail
   go_loopg [3, 19] M (fun q uv kv wr => ∃ k2 : Nat, q = M - k2 ∧ k2 ≤ M ∧ kv = .int .i64 k2 ∧ BEdges.Own wr w.heap.size uv (l.take (Sy.cnt l (st : Int)) ++ Sy.es1 st ((Sy.steps l st).take k2)) ∧ Below w.heap.size w wr)
   case atStart =>
    refine ⟨0, rfl, Nat.zero_le _, rfl, ?_, HR.out.2.1.trans (H1.out.2.1.mono HR.out.2.1.size)⟩
    have h1 : l.take (Sy.cnt l (st : Int)) ++ Sy.es1 st ((Sy.steps l st).take 0) = l.take (Sy.cnt l (st : Int)) := by simp [Sy.es1]
    rw [h1]
    exact trow_at HR.out.2.2.1 fun b hb => H1.out.2.1.block b (HR.out.2.2.1.lt b hb).2
   case round =>
    obtain ⟨k2, rfl, hk, rfl, hO, hb⟩ := hrel
    obtain ⟨ys, hys⟩ : ∃ ys, ys = l.take (Sy.cnt l (st : Int)) ++ Sy.es1 st ((Sy.steps l st).take k2) := ⟨_, rfl⟩
    rw [← hys] at hO
    obtain ⟨au, cu, hu⟩ := row_shape hO
    obtain ⟨N, hN⟩ : ∃ N, N = ys.length := ⟨_, rfl⟩
    rw [← hN] at hu
    subst hu
    have hys1 : N ≤ 100000 := by
     have h2 := List.length_take_le (Sy.cnt l (st : Int)) l
     have h3 := Sy.cnt_le l (st : Int)
     have h4 := List.length_take_le k2 (Sy.steps l st)
     have h5 := HG.out.2.2.2
     rw [← HL.out.1] at h5
     rw [hN, hys, List.length_append, Sy.es1_len]
     omega
    by_cases hkm : k2 < M
    ·obtain ⟨x, hx⟩ : ∃ x, (Sy.steps l st)[k2]? = some x := ⟨(Sy.steps l st)[k2]'(by have := H1.out.2.2; rw [← HL.out.1] at this; omega), List.getElem?_eq_getElem _⟩
     have hx' := hx
     rw [HL.out.1] at hx'
     obtain ⟨a, rfl, d0, d1⟩ := step_at (H1.out.1 wr (HG.out.1.out.below hb)) hx'
     have hs1 := Sy.es1_snoc (st := (st : Int)) hx
     obtain ⟨x1, x2⟩ := x
     simp only at d0 d1 hs1
     obtain ⟨wb, hwb⟩ : ∃ wb, wb = wr.alloc (.cells #[.int .i64 x1, .int .i64 x2] 128) := ⟨_, rfl⟩
     have hbb : Below wr.heap.size wr wb := by rw [hwb]; exact (Below.refl _ _).alloc (Nat.le_refl _) _
     have hgb : wb.heap[wr.heap.size]? = some (.cells #[.int .i64 x1, .int .i64 x2] 128 (0, 0)) := by rw [hwb]; exact heap_alloc_new wr _
     have f0 : wb.cell? ⟨wr.heap.size, 0, none⟩ = some (.int .i64 x1) := cell0_of hgb rfl
     have f1 : wb.cell? ⟨wr.heap.size, 1, none⟩ = some (.int .i64 x2) := cell0_of hgb rfl
     have hOb : BEdges.Own wb w.heap.size (.slice au N cu) ys := trow_at hO fun b hb => hbb.block b (hO.lt b hb).2
     have hOz : wb.ownsRow w.heap.size 61 3 (.slice au N cu) N (BEdges.C ys) := by have h1 := hOb; unfold BEdges.Own at h1; rw [← hN] at h1; exact h1
     have hbw : Below w.heap.size w wb := hb.trans (hbb.mono hb.size)
     have hle : w.heap.size ≤ (wb.alloc (.cells #[.int .i64 st, .int .i64 x1, .int .i64 x2] 61)).heap.size := by have := hbw.size; simp; omega
     have hml : N + 1 ≤ maxLen := by unfold maxLen; omega
     have hby : (N + 1) * 24 ≤ 140737488355328 := by omega
     have k0 : (0 : Int) ≤ (k2 : Int) := by omega
     have k1 : (k2 : Int) < (M : Int) := by omega
     have HZ : Hid _ := And.intro hOz (And.intro hbw (And.intro hwb (And.intro hys (And.intro hs1 hN))))
     clear hO hOb hOz hbw hwb hbb hgb hys hs1 hN hx hx' hb
     go_upto_region 8 with fail
     rw [← HZ.out.2.2.1]
     go_wp2_with (at_builtin; refine wpList_append_own_at _ rfl _ _ 22 rfl w.heap.size 61 i0 (.agg #[.int .i64 0, .int .i64 0, .int .i64 0]) 3 24 Tryz.underlying22 hi0 hz0 hz1 hz2 rfl (by decide) (.slice au N cu) N (BEdges.C ys) rfl (HZ.out.1.alloc _) ⟨wb.heap.size, 0, none⟩ 1 1 [.int .i64 st, .int .i64 x1, .int .i64 x2] rfl rfl (World.news_of_block (cs := #[.int .i64 st, .int .i64 x1, .int .i64 x2]) (t := 61) (fr := (0, 0)) (heap_alloc_new wb _)) (by simp [Value.oneCell']) hml hby hle ?_; intro v5 w5 hO5 hg5 hnil5 hat5; have H2 : Hid _ := And.intro hO5 hg5; clear hO5 hg5 hnil5 hat5)
     go_roundg (M - (k2 + 1))
     case measure => omega
     case rel =>
      refine ⟨k2 + 1, rfl, by omega, by go_num, ?_, ?_⟩
      ·rw [HZ.out.2.2.2.2.1, ← List.append_assoc, ← HZ.out.2.2.2.1]
       unfold BEdges.Own
       rw [BEdges.C_snoc, List.length_append, ← HZ.out.2.2.2.2.2]
       exact H2.out.1
      ·exact HZ.out.2.1.trans ((grown_alloc H2.out.2).below HZ.out.2.1.size fun b hb => (HZ.out.1.lt b hb).1)
    ·obtain rfl : k2 = M := by omega
     have k1 : ¬ (k2 : Int) < (k2 : Int) := by omega
     have hfull : ys = l.take (Sy.cnt l ((st : Int) + 1)) := by
      have ht : (Sy.steps l st).take k2 = Sy.steps l st := List.take_of_length_le (by have := H1.out.2.2; rw [← HL.out.1] at this; omega)
      rw [hys, ht]
      exact Sy.take_row HL.out.2.1 st
     have HJ : Hid _ := And.intro hO (And.intro hfull (And.intro hb hN))
     clear hO hfull hb hN hys
     go_wp2_with fail
     go_roundg (n - (st + 1))
     case measure => omega
     case rel =>
      refine ⟨st + 1, rfl, by omega, by go_num, ?_, HJ.out.2.2.1⟩
      rw [show (((st + 1 : Nat) : Int)) = (st : Int) + 1 by omega, ← HJ.out.2.1]
      exact HJ.out.1
  ·obtain rfl : st = n := by omega
   have r1 : ¬ (st : Int) < (st : Int) := by omega
   rw [HL.out.2.2.2] at hO
   have HJ : Hid _ := And.intro hO hb
   obtain ⟨au, cu, hu⟩ := row_shape hO
   obtain ⟨N, hN⟩ : ∃ N, N = l.length := ⟨_, rfl⟩
   rw [← hN] at hu
   subst hu
   clear hO hb hN
   go_wp2_with fail
   go_ret
   exact ⟨_, rfl, HJ.out.1, HJ.out.2⟩
end Go.Proofs.YtplofbabfkkimaaGreatDoor
/- tauscc: the contracts of Cycles and Collapse. -/
namespace Go.Proofs.YtplofbabfkkimaaGreatDoor.Ts
open Go.RowKit Go.Maps
attribute [local go_sem ↓] Go.wp_at_zero Go.wp_at_succ
def tauB : ByteArray := ⟨#[116, 97, 117, 115, 99, 99]⟩
theorem tfault_any (T : TypeId) (u : Value) (w : World) (a : Addr) (ls : List ByteArray) (h : Chain w 0 0 a ls (.iface T u)) : Calls Tryz.prog 24 #[.iface T u] w fun r w' => ∃ b, r = .returned (.iface 74 (.pointer (some ⟨b, 0, none⟩))) ∧ Chain w' 0 0 a (tauB :: ls) (.iface 74 (.pointer (some ⟨b, 0, none⟩))) ∧ Below w.heap.size w w' := by
 have HC : Hid (Chain w 0 0 a ls (.iface T u)) := h
 clear h
 go_enter Tryz.func24, Tryz.ntmps24
 go_wp2
 go_ret
 have hb : Below w.heap.size w (w.alloc (.cells #[.string tauB, .int .i64 0, .int .i64 0, .iface T u] 77)) := (Below.refl _ _).alloc (Nat.le_refl _) _
 exact ⟨_, rfl, ⟨_, _, rfl, heap_alloc_new w _, HC.out.below hb⟩, hb⟩
theorem tlabels_any {B g bs bb cs cb n : Nat} {k s : Int} {es : List Sy.Ed} (w : World) (h : Gr w B g bs bb cs cb n k s es) : Calls Tryz.prog 28 #[.pointer (some ⟨g, 0, none⟩)] w fun r w' => r = .returned (.int .i64 k) ∧ w' = w := by
 obtain ⟨_, c1, _, _, _, _⟩ := h.cells
 have hq := Tryz.eqG g
 clear h
 go_enter Tryz.func28, Tryz.ntmps28
 go_wp2
 go_ret
 exact ⟨rfl, rfl⟩
theorem tstart_any {B g bs bb cs cb n : Nat} {k s : Int} {es : List Sy.Ed} (w : World) (h : Gr w B g bs bb cs cb n k s es) : Calls Tryz.prog 29 #[.pointer (some ⟨g, 0, none⟩)] w fun r w' => r = .returned (.int .i64 s) ∧ w' = w := by
 obtain ⟨_, _, c2, _, _, _⟩ := h.cells
 have hq := Tryz.eqG g
 clear h
 go_enter Tryz.func29, Tryz.ntmps29
 go_wp2
 go_ret
 exact ⟨rfl, rfl⟩
theorem chain_kept {w w' : World} {l c : Int} {a : Addr} {F : Nat → Prop} (hk : Kept F w w') (hF : ∀ (b : Nat) (cs : Array Value), w.heap[b]? = some (.cells cs 77 (0, 0)) → ¬ F b) : ∀ {ls : List ByteArray} {v : Value}, Chain w l c a ls v → Chain w' l c a ls v
 | [], _, h => h
 | _ :: _, _, ⟨b, u, e, hb, h⟩ => ⟨b, u, e, (hk.block b (t_lt hb) (hF b _ hb)).trans hb, chain_kept hk hF h⟩
theorem tne {w : World} {i j : Nat} {c c' : Array Value} {s t : TypeId} (hi : w.heap[i]? = some (.cells c s (0, 0))) (hj : w.heap[j]? = some (.cells c' t (0, 0))) (hne : s ≠ t) : i ≠ j := by
 rintro rfl
 rw [hi] at hj
 injection hj with hj
 injection hj with _ h2
 exact hne h2
theorem own_up4 {w w' : World} {B : Nat} {v : Value} {zs : List Int} (h : OwnI w B v zs) (hb : Below w.heap.size w w') : OwnI w' B v zs := trow_at h fun b e => hb.block b (h.lt b e).2
theorem edge_up4 {w w' : World} {B : Nat} {v : Value} {zs : List Sy.Ed} (h : BEdges.Own w B v zs) (hb : Below w.heap.size w w') : BEdges.Own w' B v zs := trow_at h fun b e => hb.block b (h.lt b e).2
set_option linter.unusedSimpArgs false in
set_option maxRecDepth 100000 in
set_option maxHeartbeats 4000000 in
theorem cycles_ok {M : Nat} (hS : SortOk M) (n : Nat) (k s : Int) (v : Value) (es : List Sy.Ed) (a : Addr) (w : World) (hA : Sent w 13 a) (hv : BEdges.Has w v es) (hM : es.length ≤ M) (hm : es.length ≤ 100000) (hq : Sy.right n k s es = true) :
 Calls Tryz.prog 8 #[sysV n k s v] w fun r w' => ∃ (u : Value) (cl : List Nat), r = .returned (.tuple #[u, .nilIface]) ∧ Cl n es cl ∧ OwnI w' w.heap.size u (natI cl) ∧ Below w.heap.size w w' := by
 have hb1 := fun o => (Below.refl w.heap.size w).alloc (Nat.le_refl _) o
 have hN := fun o => new_ok hS n k s v es a (w.alloc o) (hA.below (hb1 o)) (hv.below (hb1 o)) hM hm hq
 have H : Hid _ := And.intro hN hb1
 clear hN hb1 hA hv hM hm hq
 unfold sysV at H ⊢
 go_enter Tryz.func8, Tryz.ntmps8
 go_wp2_with (first | (go_at_call 23; refine Calls.mono (H.out.1 _) ?_; rintro r2 w2 ⟨g, bs, bb, cs, cb, m, hnm, rfl, hG, hb2⟩; obtain rfl : n = m := (by omega); clear hnm; have H2 : Hid _ := And.intro hG hb2; clear hG hb2) | (go_at_call 25; refine Calls.mono (cyclesOf_any _ H2.out.1) ?_; rintro r3 w3 ⟨u, zs, rfl, hZ, hO, hb3⟩; have H3 : Hid _ := And.intro (Cl.of hZ) (And.intro hO hb3); clear hZ hO hb3))
 go_ret2
 have h1 := (H.out.2 _).trans (H2.out.2.mono (H.out.2 _).size)
 exact ⟨u, _, rfl, H3.out.1, own_lower H3.out.2.1 h1.size, h1.trans (H3.out.2.2.mono h1.size)⟩
set_option linter.unusedSimpArgs false in
set_option maxRecDepth 100000 in
set_option maxHeartbeats 4000000 in
theorem cycles_bad {M : Nat} (hS : SortOk M) (n k s : Int) (v : Value) (es : List Sy.Ed) (a : Addr) (w : World) (hA : Sent w 13 a) (hv : BEdges.Has w v es) (hM : es.length ≤ M) (hm : es.length ≤ 100000) (hq : Sy.right n k s es = false) :
 Calls Tryz.prog 8 #[sysV n k s v] w fun r w' => ∃ b, r = .returned (.tuple #[.slice none 0 0, .iface 74 (.pointer (some ⟨b, 0, none⟩))]) ∧ Chain w' 0 0 a [tauB, sysB] (.iface 74 (.pointer (some ⟨b, 0, none⟩))) ∧ Below w.heap.size w w' := by
 have hb1 := fun o => (Below.refl w.heap.size w).alloc (Nat.le_refl _) o
 have hN := fun o => new_bad hS n k s v es a (w.alloc o) (hA.below (hb1 o)) (hv.below (hb1 o)) hM hm hq
 have H : Hid _ := And.intro hN hb1
 clear hN hb1 hA hv hM hm hq
 unfold sysV at H ⊢
 go_enter Tryz.func8, Tryz.ntmps8
 go_wp2_with (first | (go_at_call 23; refine Calls.mono (H.out.1 _) ?_; rintro r1 w1 ⟨x, rfl, hx, hb⟩; obtain ⟨T, ad, rfl⟩ := hx.iface; have HX : Hid _ := And.intro hx hb; clear hx hb) | (go_at_call 24; refine Calls.mono (tfault_any _ _ _ a [sysB] HX.out.1) ?_; rintro r3 w3 ⟨b, rfl, hC3, hb3⟩; have H3 : Hid _ := And.intro hC3 hb3; clear hC3 hb3))
 go_ret2
 have h1 := (H.out.2 _).trans (HX.out.2.mono (H.out.2 _).size)
 exact ⟨b, rfl, H3.out.1, h1.trans (H3.out.2.mono h1.size)⟩
set_option linter.unusedSimpArgs false in
set_option maxRecDepth 100000 in
set_option maxHeartbeats 4000000 in
theorem collapse_bad {M : Nat} (hS : SortOk M) (n k s : Int) (v : Value) (es : List Sy.Ed) (a : Addr) (w : World) (hA : Sent w 13 a) (hv : BEdges.Has w v es) (hM : es.length ≤ M) (hm : es.length ≤ 100000) (hq : Sy.right n k s es = false) :
 Calls Tryz.prog 9 #[sysV n k s v] w fun r w' => ∃ b, r = .returned (.tuple #[sysV 0 0 0 (.slice none 0 0), .slice none 0 0, .iface 74 (.pointer (some ⟨b, 0, none⟩))]) ∧ Chain w' 0 0 a [tauB, sysB] (.iface 74 (.pointer (some ⟨b, 0, none⟩))) ∧ Below w.heap.size w w' := by
 obtain ⟨w1, hw1⟩ : ∃ w1, w1 = (w.alloc (.cells #[.int .i64 n, .int .i64 k, .int .i64 s, v] 24)).alloc (.cells #[.int .i64 0, .int .i64 0, .int .i64 0, .slice none 0 0] 24) := ⟨_, rfl⟩
 have hb1 : Below w.heap.size w w1 := by rw [hw1]; exact ((Below.refl _ _).alloc (Nat.le_refl _) _).alloc (by simp) _
 have hg : w1.heap[w.heap.size + 1]? = some (.cells #[.int .i64 0, .int .i64 0, .int .i64 0, .slice none 0 0] 24 (0, 0)) := by rw [hw1]; exact two_alloc w _ _
 have hg0 : w1.heap[w.heap.size]? = some (.cells #[.int .i64 n, .int .i64 k, .int .i64 s, v] 24 (0, 0)) := by rw [hw1, Below.heap_alloc _ _ _ (by simp)]; exact heap_alloc_new w _
 have hN := collapsed_bad hS n k s v es a w1 (hA.below hb1) (hv.below hb1) hM hm hq
 obtain ⟨c0, c1, c2, c3⟩ := four_cells hg0
 have H : Hid _ := And.intro hN (And.intro hb1 (And.intro hg hw1))
 clear hN hb1 hA hv hM hm hq hg hg0 hw1
 unfold sysV at H ⊢
 go_enter Tryz.func9, Tryz.ntmps9
 go_upto_region 1 with fail
 rw [← H.out.2.2.2]
 go_wp2_with (first | (go_at_call 26; refine Calls.mono H.out.1 ?_; rintro r1 w2 ⟨x, rfl, hx, hb⟩; obtain ⟨T, ad, rfl⟩ := hx.iface; have HX : Hid _ := And.intro hx hb; clear hx hb) | (go_at_call 24; refine Calls.mono (tfault_any _ _ _ a [sysB] HX.out.1) ?_; rintro r3 w3 ⟨b, rfl, hC3, hb3⟩; have hb13 := HX.out.2.trans (hb3.mono HX.out.2.size); have hg3 := (hb13.block _ (t_lt H.out.2.2.1)).trans H.out.2.2.1; obtain ⟨z0, z1, z2, z3⟩ := four_cells hg3; have f0 := blk_free hg3 0; have f1 := blk_free hg3 1; have f2 := blk_free hg3 2; have f3 := blk_free hg3 3; have H3 : Hid _ := And.intro hC3 (And.intro hb13 hg3); clear hC3 hb3 hg3 hb13))
 obtain ⟨wf, hwf⟩ : ∃ wf, wf = ((((w3.setCell ⟨w.heap.size + 1, 0, none⟩ (.int .i64 0)).setCell ⟨w.heap.size + 1, 1, none⟩ (.int .i64 0)).setCell ⟨w.heap.size + 1, 2, none⟩ (.int .i64 0)).setCell ⟨w.heap.size + 1, 3, none⟩ (.slice none 0 0)) := ⟨_, rfl⟩
 rw [← hwf]
 have hgf : wf.heap[w.heap.size + 1]? = some (.cells #[.int .i64 0, .int .i64 0, .int .i64 0, .slice none 0 0] 24 (0, 0)) := by rw [hwf]; exact four_set H3.out.2.2
 have hkf : Kept (fun b => b = w.heap.size + 1) w3 wf := by rw [hwf]; exact (((Kept.setCell _ _ _ _).trans (Kept.setCell _ _ _ _)).trans (Kept.setCell _ _ _ _)).trans (Kept.setCell _ _ _ _)
 clear hwf z0 z1 z2 z3 f0 f1 f2 f3 c0 c1 c2 c3
 obtain ⟨d0, d1, d2, d3⟩ := four_cells hgf
 have h3 : Below w.heap.size w w3 := H.out.2.1.trans (H3.out.2.1.mono H.out.2.1.size)
 refine bodyPost_ret (v := .tuple #[.agg #[.int .i64 0, .int .i64 0, .int .i64 0, .slice none 0 0], .slice none 0 0, .iface 74 (.pointer (some ⟨b, 0, none⟩))]) (by simp [results, Tryz.results9, go_sem, d0, d1, d2, d3]) rfl ?_
 exact ⟨b, rfl, chain_kept hkf (fun b cs hc e => tne hc H3.out.2.2 (by decide) e) H3.out.1, h3.trans (hkf.below h3.size fun x hx => by omega)⟩
set_option linter.unusedSimpArgs false in
set_option maxRecDepth 100000 in
set_option maxHeartbeats 4000000 in
theorem collapse_ok {M : Nat} (hS : SortOk M) (n : Nat) (k s : Int) (v : Value) (es : List Sy.Ed) (a : Addr) (w : World) (hA : Sent w 13 a) (hv : BEdges.Has w v es) (hM : es.length ≤ M) (hm : es.length ≤ 100000) (hq : Sy.right n k s es = true) :
 Calls Tryz.prog 9 #[sysV n k s v] w fun r w' => ∃ (ue u : Value) (cl : List Nat), r = .returned (.tuple #[sysV (tog cl) k (sta n cl s) ue, u, .nilIface]) ∧ Cl n es cl ∧ BEdges.Own w' w.heap.size ue (Sy.nf (btw cl es)) ∧ OwnI w' w.heap.size u (natI cl) ∧ Below w.heap.size w w' := by
 obtain ⟨w1, hw1⟩ : ∃ w1, w1 = (w.alloc (.cells #[.int .i64 n, .int .i64 k, .int .i64 s, v] 24)).alloc (.cells #[.int .i64 0, .int .i64 0, .int .i64 0, .slice none 0 0] 24) := ⟨_, rfl⟩
 have hb1 : Below w.heap.size w w1 := by rw [hw1]; exact ((Below.refl _ _).alloc (Nat.le_refl _) _).alloc (by simp) _
 have hg : w1.heap[w.heap.size + 1]? = some (.cells #[.int .i64 0, .int .i64 0, .int .i64 0, .slice none 0 0] 24 (0, 0)) := by rw [hw1]; exact two_alloc w _ _
 have hg0 : w1.heap[w.heap.size]? = some (.cells #[.int .i64 n, .int .i64 k, .int .i64 s, v] 24 (0, 0)) := by rw [hw1, Below.heap_alloc _ _ _ (by simp)]; exact heap_alloc_new w _
 have hN := collapsed_ok hS n k s v es a w1 (hA.below hb1) (hv.below hb1) hM hm hq
 obtain ⟨c0, c1, c2, c3⟩ := four_cells hg0
 have H : Hid _ := And.intro hN (And.intro hb1 (And.intro hg hw1))
 clear hN hb1 hA hv hM hm hq hg hg0 hw1
 unfold sysV at H ⊢
 go_enter Tryz.func9, Tryz.ntmps9
 go_upto_region 1 with fail
 rw [← H.out.2.2.2]
 go_upto_region 5 with (first | (go_at_call 26; refine Calls.mono H.out.1 ?_; rintro r1 w2 ⟨g, bs, bb, cs, cb, u, cl, rfl, hCl, hG, hO, hb⟩; obtain ⟨au, cu, hu⟩ := row_shape hO; obtain ⟨lu, hlu⟩ : ∃ l, l = (natI cl).length := ⟨_, rfl⟩; rw [← hlu] at hu; subst hu; have H2 : Hid _ := And.intro hG (And.intro hCl (And.intro hO hb)); clear hG hCl hO hb hlu) | (go_at_call 27; refine Calls.mono (states_any _ H2.out.1) ?_; rintro r4 w4 ⟨rfl, hw⟩; obtain rfl := hw.symm; clear hw) | (go_at_call 28; refine Calls.mono (tlabels_any _ H2.out.1) ?_; rintro r4 w4 ⟨rfl, hw⟩; obtain rfl := hw.symm; clear hw) | (go_at_call 29; refine Calls.mono (tstart_any _ H2.out.1) ?_; rintro r4 w4 ⟨rfl, hw⟩; obtain rfl := hw.symm; clear hw) | (go_at_call 30; refine Calls.mono (edges_any _ H2.out.1) ?_; rintro r5 w5 ⟨ue, rfl, hE, hb5⟩; obtain ⟨ae, ce, hue⟩ := row_shape hE; obtain ⟨le, hle⟩ : ∃ l, l = (Sy.nf (btw cl es)).length := ⟨_, rfl⟩; rw [← hle] at hue; subst hue; have H5 : Hid _ := And.intro hE hb5; clear hE hb5 hle))
 obtain ⟨w6, hw6⟩ : ∃ w6, w6 = w5.alloc (.cells #[.int .i64 (tog cl : Nat), .int .i64 k, .int .i64 (sta n cl s), .slice ae le ce] 24) := ⟨_, rfl⟩
 rw [← hw6]
 have hb56 : Below w5.heap.size w5 w6 := by rw [hw6]; exact (Below.refl _ _).alloc (Nat.le_refl _) _
 have hb16 : Below w1.heap.size w1 w6 := H2.out.2.2.2.trans ((H5.out.2.trans (hb56.mono H5.out.2.size)).mono H2.out.2.2.2.size)
 have hg6 := (hb16.block _ (t_lt H.out.2.2.1)).trans H.out.2.2.1
 have hs6 : w6.heap[w5.heap.size]? = some (.cells #[.int .i64 (tog cl : Nat), .int .i64 k, .int .i64 (sta n cl s), .slice ae le ce] 24 (0, 0)) := by rw [hw6]; exact heap_alloc_new w5 _
 obtain ⟨z0, z1, z2, z3⟩ := four_cells hg6
 obtain ⟨y0, y1, y2, y3⟩ := four_cells hs6
 have f0 := blk_free hg6 0
 have f1 := blk_free hg6 1
 have f2 := blk_free hg6 2
 have f3 := blk_free hg6 3
 have H6 : Hid _ := And.intro hb56 (And.intro hb16 hg6)
 clear hw6 hb56 hb16 hg6 hs6 c0 c1 c2 c3
 go_wp2_with fail
 obtain ⟨wf, hwf⟩ : ∃ wf, wf = ((((w6.setCell ⟨w.heap.size + 1, 0, none⟩ (.int .i64 (tog cl : Nat))).setCell ⟨w.heap.size + 1, 1, none⟩ (.int .i64 k)).setCell ⟨w.heap.size + 1, 2, none⟩ (.int .i64 (sta n cl s))).setCell ⟨w.heap.size + 1, 3, none⟩ (.slice ae le ce)) := ⟨_, rfl⟩
 rw [← hwf]
 have hgf : wf.heap[w.heap.size + 1]? = some (.cells #[.int .i64 (tog cl : Nat), .int .i64 k, .int .i64 (sta n cl s), .slice ae le ce] 24 (0, 0)) := by rw [hwf]; exact four_set H6.out.2.2
 have hkf : Kept (fun b => b = w.heap.size + 1) w6 wf := by rw [hwf]; exact (((Kept.setCell _ _ _ _).trans (Kept.setCell _ _ _ _)).trans (Kept.setCell _ _ _ _)).trans (Kept.setCell _ _ _ _)
 clear hwf z0 z1 z2 z3 f0 f1 f2 f3 y0 y1 y2 y3
 obtain ⟨d0, d1, d2, d3⟩ := four_cells hgf
 have h6 : Below w.heap.size w w6 := H.out.2.1.trans (H6.out.2.1.mono H.out.2.1.size)
 refine bodyPost_ret (v := .tuple #[.agg #[.int .i64 (tog cl : Nat), .int .i64 k, .int .i64 (sta n cl s), .slice ae le ce], .slice au lu cu, .nilIface]) (by simp [results, Tryz.results9, go_sem, d0, d1, d2, d3]) rfl ?_
 have hO6 := own_up4 H2.out.2.2.1 (H5.out.2.trans (H6.out.1.mono H5.out.2.size))
 have hE6 := edge_up4 H5.out.1 H6.out.1
 refine ⟨_, _, cl, rfl, H2.out.2.1, ?_, ?_, h6.trans (hkf.below h6.size fun x hx => by omega)⟩
 ·exact edge_lower (trow_at hE6 fun b hb => hkf.block b (hE6.lt b hb).2 fun e => own_bk hE6 H6.out.2.2 (by decide) (by rw [← e]; exact hb)) (Nat.le_trans H.out.2.1.size H2.out.2.2.2.size)
 ·exact own_lower (trow_at hO6 fun b hb => hkf.block b (hO6.lt b hb).2 fun e => own_bk hO6 H6.out.2.2 (by decide) (by rw [← e]; exact hb)) H.out.2.1.size
end Go.Proofs.YtplofbabfkkimaaGreatDoor.Ts
/- Rows of numbers, one for each of so many, that grow one by one. -/
namespace Go.Proofs.YtplofbabfkkimaaGreatDoor
open Go.RowKit Go.Maps
structure OutsI (w : World) (B : Nat) (us : List Value) (n : Nat) (f : Nat → List Int) : Prop where
 len : us.length = n
 row : ∀ i, i < n → ∃ u, us[i]? = some u ∧ OwnI w B u (f i)
 ap : ∀ (i j : Nat) (u x : Value) (b : Nat), us[i]? = some u → us[j]? = some x → i ≠ j → u.ownBlock = some b → x.ownBlock ≠ some b
theorem outsI_new (w : World) (B n : Nat) : OutsI w B (List.replicate n (.slice none 0 0)) n fun _ => [] :=
 ⟨by simp, fun i hi => ⟨.slice none 0 0, by rw [List.getElem?_replicate, if_pos hi], World.ownsRow_nil _ _ _ _⟩, fun i j u x b h1 _ _ h3 => by
  rw [List.getElem?_replicate] at h1
  split at h1
  ·cases h1; cases h3
  ·cases h1⟩
theorem OutsI.set {w w' : World} {B : Nat} {us : List Value} {n : Nat} {f : Nat → List Int} (h : OutsI w B us n f) {i : Nat} {u u' : Value} {F : Nat → Prop} (hi : i < n) (hu : us[i]? = some u) (hk : Kept F w w') (hF : ∀ b, F b → u.ownBlock = some b ∨ ∀ (j : Nat) (x : Value), us[j]? = some x → x.ownBlock ≠ some b) {zs : List Int} (hO : OwnI w' B u' zs) (hat : u'.ownBlock = u.ownBlock ∨ ∀ b, u'.ownBlock = some b → w.heap.size ≤ b) :
 OutsI w' B (us.set i u') n (fun j => if j = i then zs else f j) := by
 refine ⟨by rw [List.length_set]; exact h.len, fun j hj => ?_, fun a c x y b hx hy hac hb => ?_⟩
 ·by_cases e : j = i
  ·subst e
   exact ⟨u', List.getElem?_set_self (by rw [h.len]; exact hj), by rw [if_pos rfl]; exact hO⟩
  ·obtain ⟨x, h1, h2⟩ := h.row j hj
   refine ⟨x, by rw [List.getElem?_set_ne (fun e' => e e'.symm)]; exact h1, ?_⟩
   rw [if_neg e]
   refine own_up h2 hk fun b hb hf => ?_
   rcases hF b hf with hf | hf
   ·exact h.ap j i x u b h1 hu e hb hf
   ·exact hf j x h1 hb
 ·have hold : ∀ (j : Nat) (z : Value), us[j]? = some z → j ≠ i → ∀ b, z.ownBlock = some b → u'.ownBlock ≠ some b := fun j z hz hj b hzb e => by
   rcases hat with h1 | h1
   ·rw [h1] at e; exact h.ap j i z u b hz hu hj hzb e
   ·have h2 := h1 b e
    obtain ⟨z', h3, h4⟩ := h.row j (by have := (List.getElem?_eq_some_iff.1 hz).1; rw [h.len] at this; exact this)
    rw [hz] at h3; cases h3
    have := (h4.lt b hzb).2
    omega
  by_cases ea : a = i
  ·subst ea
   rw [List.getElem?_set_self (by rw [h.len]; exact hi)] at hx
   cases hx
   rw [List.getElem?_set_ne hac] at hy
   exact fun e => hold c y hy (fun e' => hac e'.symm) b e hb
  ·rw [List.getElem?_set_ne (fun e' => ea e'.symm)] at hx
   by_cases ec : c = i
   ·subst ec
    rw [List.getElem?_set_self (by rw [h.len]; exact hi)] at hy
    cases hy
    exact hold a x hx ea b hb
   ·rw [List.getElem?_set_ne (fun e' => ec e'.symm)] at hy
    exact h.ap a c x y b hx hy hac hb
theorem OutsI.congr {w : World} {B : Nat} {us : List Value} {n : Nat} {f g : Nat → List Int} (h : OutsI w B us n f) (hfg : ∀ i, i < n → f i = g i) : OutsI w B us n g :=
 ⟨h.len, fun i hi => by rw [← hfg i hi]; exact h.row i hi, h.ap⟩
theorem OutsI.kept {w w' : World} {B : Nat} {us : List Value} {n : Nat} {f : Nat → List Int} {F : Nat → Prop} (h : OutsI w B us n f) (hk : Kept F w w') (hF : ∀ (j : Nat) (x : Value), us[j]? = some x → ∀ b, x.ownBlock = some b → ¬ F b) : OutsI w' B us n f :=
 ⟨h.len, fun i hi => by obtain ⟨u, h1, h2⟩ := h.row i hi; exact ⟨u, h1, own_up h2 hk fun b hb => hF i u h1 b hb⟩, h.ap⟩
theorem outsI_grow {w wr w4 : World} {g n i N g4 k4 cu : Nat} {au : Option Addr} {us : List Value} {f : Nat → List Int} (z : Int) (hOs : OutsI wr w.heap.size us n f) (hi : i < n) (hu : us[i]? = some (.slice au N cu)) (hN : N = (f i).length) (hown : w4.ownsRow w.heap.size 3 1 (.slice (some ⟨g4, 0, none⟩) (N + 1) k4) (N + 1) (iC (f i) ++ [.int .i64 z])) (hk : Kept (fun b => (Value.slice au N cu).ownBlock = some b) wr w4) (hat : (Value.slice au N cu).ownBlock = some g4 ∨ g4 = wr.heap.size + 1) (hA4 : Arr 45 w w4 g us) :
 Arr 45 w (w4.setCell ⟨g, i, none⟩ (.slice (some ⟨g4, 0, none⟩) (N + 1) k4)) g (us.set i (.slice (some ⟨g4, 0, none⟩) (N + 1) k4)) ∧ OutsI (w4.setCell ⟨g, i, none⟩ (.slice (some ⟨g4, 0, none⟩) (N + 1) k4)) w.heap.size (us.set i (.slice (some ⟨g4, 0, none⟩) (N + 1) k4)) n (fun j => if j = i then f i ++ [z] else f j) ∧ Kept (fun b => b = g ∨ (Value.slice au N cu).ownBlock = some b) wr (w4.setCell ⟨g, i, none⟩ (.slice (some ⟨g4, 0, none⟩) (N + 1) k4)) := by
 have hO : OwnI w4 w.heap.size (.slice (some ⟨g4, 0, none⟩) (N + 1) k4) (f i ++ [z]) := by
  unfold OwnI
  have e1 : (f i ++ [z]).length = N + 1 := by rw [List.length_append, hN]; rfl
  rw [e1, show iC (f i ++ [z]) = iC (f i) ++ [.int .i64 z] by simp [iC]]
  exact hown
 have h1 := hOs.set (F := fun b => (Value.slice au N cu).ownBlock = some b) hi hu hk (fun b hb => .inl hb) hO (by
  rcases hat with h | h
  ·exact .inl h.symm
  ·exact .inr fun b hb => by have e9 : g4 = b := Option.some.inj hb; omega)
 refine ⟨hA4.set i _, ?_, ?_⟩
 ·refine h1.kept (Kept.setCell w4 g i _) fun j x hx b hb e => ?_
  obtain ⟨cs, hc, _⟩ := hA4.ids
  obtain ⟨x', h2, h3⟩ := h1.row j (by have := (List.getElem?_eq_some_iff.1 hx).1; rw [h1.len] at this; exact this)
  rw [hx] at h2; cases h2
  exact own_bk h3 hc (by decide) (by rw [← e]; exact hb)
 ·exact (hk.mono fun b _ hb => .inr hb).trans ((Kept.setCell w4 g i _).mono fun b _ hb => .inl hb)
end Go.Proofs.YtplofbabfkkimaaGreatDoor
/- tauscc: the contract of Order. -/
namespace Go.Proofs.YtplofbabfkkimaaGreatDoor.Ts
open Go.RowKit Go.Maps
attribute [local go_sem ↓] Go.wp_at_zero Go.wp_at_succ
theorem infoRT : (Tryz.prog.info? 45).map (fun i => (i.zero, i.size, i.bytes)) = some (some (.slice none 0 0), 1, 24) := by kernel_rfl
theorem makeRT (n : Nat) (hn : n ≤ 1000000) (w : World) : (Instr.makeSlice 32 (.int .i64 (n : Int)) (.int .i64 (n : Int))).run Tryz.prog w = .ok (.slice (some ⟨w.heap.size, 0, none⟩) n n) (w.alloc (.cells (madeV (.slice none 0 0) n) 45)) := make_of _ _ _ 24 Tryz.underlying32 infoRT n hn (by decide) w
theorem natI_at {l : List Nat} {i x : Nat} (h : l[i]? = some x) : (natI l)[i]? = some (x : Int) := by simp [natI, h]
theorem cast_at {l : List Nat} {i x : Nat} (h : l[i]? = some x) : (cast l)[i]? = some (x : Int) := by simp [cast, h]
theorem flat_next {l : List Nat} {i x : Nat} (h : l[i]? = some x) (f : Nat → List Int) : (l.take (i + 1)).flatMap f = (l.take i).flatMap f ++ f x := by
 obtain ⟨h1, h2⟩ := List.getElem?_eq_some_iff.1 h
 rw [List.take_succ_eq_append_getElem h1, h2, List.flatMap_append]
 simp
theorem flat_len {f : Nat → List Int} {c : Nat} (h : ∀ x, (f x).length ≤ c) (l : List Nat) : (l.flatMap f).length ≤ l.length * c := by
 induction l with
 | nil => simp
 | cons a r ih => rw [List.flatMap_cons, List.length_append, List.length_cons, Nat.succ_mul]; have := h a; omega
set_option linter.unusedSimpArgs false in
set_option maxRecDepth 100000 in
set_option maxHeartbeats 4000000 in
theorem order_ok {M : Nat} (hS : SortOk M) (n : Nat) (k s : Int) (v : Value) (es : List Sy.Ed) (a : Addr) (w : World) (hA : Sent w 13 a) (hv : BEdges.Has w v es) (hM : es.length ≤ M) (hm : es.length ≤ 100000) (hq : Sy.right n k s es = true) :
 Calls Tryz.prog 10 #[sysV n k s v] w fun r w' => ∃ (u : Value) (cl od : List Nat), r = .returned (.tuple #[u, .nilIface]) ∧ Cl n es cl ∧ Grd (tog cl) (sil (tog cl) (btw cl es)) od ∧ (∀ x, ¬ Rd (tog cl) (sil (tog cl) (btw cl es)) od x) ∧ OwnI w' w.heap.size u (od.flatMap (memI cl)) ∧ Below w.heap.size w w' := by
 obtain ⟨i0, hi0, hz0, hz1, hz2⟩ := info_parts Tryz.infoI4
 have hb1 := fun o => (Below.refl w.heap.size w).alloc (Nat.le_refl _) o
 have hN := fun o => collapsed_ok hS n k s v es a (w.alloc o) (hA.below (hb1 o)) (hv.below (hb1 o)) hM hm hq
 have hn1 : n ≤ 1000 := by have := (right_parts hq).1.2; omega
 have H : Hid _ := And.intro hN hb1
 clear hN hb1 hA hv hM hm hq
 unfold sysV at H ⊢
 go_enter Tryz.func10, Tryz.ntmps10
 go_upto_region 4 with (go_at_call 26; refine Calls.mono (H.out.1 _) ?_; rintro r1 w2 ⟨g, bs, bb, cs, cb, u, cl, rfl, hCl, hG, hO, hb⟩; obtain ⟨au, cu, hu⟩ := row_shape hO; obtain ⟨lu, hlu⟩ : ∃ l, l = (natI cl).length := ⟨_, rfl⟩; rw [← hlu] at hu; subst hu; have H2 : Hid _ := And.intro hG (And.intro hCl (And.intro hO (And.intro hb hlu))); clear hG hCl hO hb hlu)
 have hlc : lu = cl.length := by rw [H2.out.2.2.2.2]; simp [natI]
 have hlu : lu ≤ 1000 := by have h2 := H2.out.2.1.len; omega
 obtain ⟨m, hmt⟩ : ∃ m, m = tog cl := ⟨_, rfl⟩
 have hm1 : m ≤ 1000 := by rw [hmt]; exact H2.out.1.sizes.1
 have hSt := states_any w2 H2.out.1
 have hEF := fun W (hb : Below w2.heap.size w2 W) => endsFirst_any W (H2.out.1.below hb)
 have hmk := makeRT m (by omega) w2
 have hA0 := arr_new 45 (.slice none 0 0) rfl m w2
 rw [← hmt] at hSt hEF
 obtain ⟨w3, hw3⟩ : ∃ w3, w3 = w2.alloc (.cells (madeV (.slice none 0 0) m) 45) := ⟨_, rfl⟩
 rw [← hw3] at hmk hA0
 have H3 : Hid _ := And.intro hSt (And.intro hEF (And.intro hA0 (And.intro hmt hlc)))
 clear hSt hEF hA0 hmt hw3 hlc
 go_wp2_with (go_at_call 27; refine Calls.mono H3.out.1 ?_; rintro r3 w4 ⟨rfl, hw⟩; obtain rfl := hw.symm; clear hw)
 clear hmk
 go_loopg [28] lu (fun q s28 wx => ∃ (i : Nat) (us : List Value), q = lu - i ∧ i ≤ lu ∧ s28 = .int .i64 i ∧ Arr 45 w2 wx w2.heap.size us ∧ OutsI wx w2.heap.size us m (memI (cl.take i)))
 case atStart => exact ⟨0, _, rfl, Nat.zero_le _, rfl, H3.out.2.2.1, (outsI_new _ _ _).congr fun i _ => by simp [memI]⟩
 case round =>
  obtain ⟨i, us, rfl, hi, rfl, hA, hOs⟩ := hrel
  by_cases hlt : i < lu
  ·obtain ⟨x, hx⟩ : ∃ x, cl[i]? = some x := ⟨cl[i]'(by have := H3.out.2.2.2.2; omega), List.getElem?_eq_getElem _⟩
   have hxm : x < m := by rw [H3.out.2.2.2.1]; exact H2.out.2.1.lt hx
   obtain ⟨ao9, cap9, he9, hc9⟩ := OwnI.has (own_up4 H2.out.2.2.1 hA.bl)
   obtain ⟨a9, ha9, d0⟩ := hc9 i (x : Int) (natI_at hx)
   injection he9 with e1 e2 e3
   subst e3
   rw [ha9] at e1
   clear hc9 ha9 e2
   subst e1
   obtain ⟨uu, hu, hOu⟩ := hOs.row x hxm
   obtain ⟨ar, cr, rfl⟩ := row_shape hOu
   obtain ⟨N, hN⟩ : ∃ N, N = (memI (cl.take i) x).length := ⟨_, rfl⟩
   have hNl : N ≤ 1000000 := by
    have h1 := memI_len (cl.take i) x
    rw [List.length_take] at h1
    omega
   rw [← hN] at hu
   have hOu' : wr.ownsRow w2.heap.size 3 1 (.slice ar N cr) N (iC (memI (cl.take i) x)) := by have h1 := hOu; unfold OwnI at h1; rw [← hN] at h1; exact h1
   have cu0 := hA.cell hu
   have cu1 : (wr.alloc (.cells #[.int .i64 (i : Int)] 3)).cell? ⟨w2.heap.size, x, none⟩ = some (.slice ar N cr) := cell_up cu0 ((Below.refl _ _).alloc (Nat.le_refl _) _)
   have cuf := hA.free x
   have hgw := hA.lt
   have hml : N + 1 ≤ maxLen := by unfold maxLen; omega
   have hby : (N + 1) * 8 ≤ 140737488355328 := by omega
   have HKP : Hid (∀ b, (Value.slice ar N cr).ownBlock = some b → w2.heap.size ≤ b ∧ b ≠ w2.heap.size) := (fun b hb => ⟨(hOu'.lt b hb).1, fun e => by
    obtain ⟨cs9, hc9, _⟩ := hA.ids
    exact own_bk hOu' hc9 (by decide) (by rw [← e]; exact hb)⟩ : ∀ b, (Value.slice ar N cr).ownBlock = some b → w2.heap.size ≤ b ∧ b ≠ w2.heap.size)
   have hsz := hA.bl.size
   have p0 : (0 : Int) ≤ (i : Int) := by omega
   have p1 : (i : Int) < (lu : Int) := by omega
   have p2 : (0 : Int) ≤ (x : Int) := by omega
   have p3 : (x : Int) < (m : Int) := by omega
   have p5 : IntKind.i64.wrap ((i : Int) + 1) = (i : Int) + 1 := by rw [IntKind.wrap_i64]; omega
   have HB : Hid _ := And.intro hA (And.intro hOs (And.intro hu (And.intro hOu' (And.intro hN (And.intro hx hxm)))))
   clear hA hOs hu hOu hOu' hN hx hxm
   go_wp2_with (at_builtin; refine wpList_append_lies _ rfl _ _ 45 rfl w2.heap.size 3 i0 (.int .i64 0) 1 8 Tryz.underlying45 hi0 hz0 hz1 hz2 rfl (by decide) (.slice ar N cr) N (iC (memI (cl.take i) x)) rfl (HB.out.2.2.2.1.alloc _) ⟨wr.heap.size, 0, none⟩ 1 1 [.int .i64 (i : Int)] rfl rfl (World.news_of_block (cs := #[.int .i64 (i : Int)]) (t := 3) (fr := (0, 0)) (heap_alloc_new wr _)) (by simp [Value.oneCell']) Nat.one_pos hml hby (by simp; omega) (wr.heap.size + 1) (by simp) ?_; intro g4 k4 w4 hown4 hgrow4 hat4 hlt4; have hk4 : Kept (fun b => (Value.slice ar N cr).ownBlock = some b) wr w4 := grown_alloc hgrow4; have hA4 := HB.out.1.kept hk4 HKP.out; have cu2 := hA4.cell HB.out.2.2.1; have cuf2 := hA4.free x; have H4 : Hid _ := And.intro hown4 (And.intro hk4 (And.intro hat4 hA4)); clear hown4 hgrow4 hat4 hlt4 hk4 hA4 cu0 cu1)
   have hG := outsI_grow (i : Int) HB.out.2.1 HB.out.2.2.2.2.2.2 HB.out.2.2.1 HB.out.2.2.2.2.1 H4.out.1 H4.out.2.1 H4.out.2.2.1 H4.out.2.2.2
   have HG : Hid _ := hG
   clear hG cu2 cuf2
   go_roundg (lu - (i + 1))
   case measure => omega
   case rel => exact ⟨i + 1, _, rfl, by omega, by go_num, HG.out.1, HG.out.2.1.congr fun c _ => memI_next HB.out.2.2.2.2.2.1 c⟩
  ·obtain rfl : lu = i := by omega
   have p1 : ¬ (lu : Int) < (lu : Int) := by omega
   rw [H3.out.2.2.2.2, List.take_length] at hOs
   have H5 : Hid _ := And.intro hA hOs
   obtain ⟨wo, rfl⟩ : ∃ wo, wo = wr := ⟨_, rfl⟩
   clear hA hOs hi hlt
   go_wp2_with (go_at_call 31; refine Calls.mono (H3.out.2.1 _ H5.out.1.bl) ?_; rintro r6 w6 ⟨u6, od, rfl, hg6, hn6, hO6, hb6⟩; obtain ⟨a6, c6, hu6⟩ := row_shape hO6; obtain ⟨L, hL⟩ : ∃ L, L = od.length := ⟨_, rfl⟩; rw [cast_length, ← hL] at hu6; subst hu6; have H6 : Hid _ := And.intro hg6 (And.intro hn6 (And.intro hO6 (And.intro hb6 hL))); clear hg6 hn6 hO6 hb6 hL)
   have hL1 : L ≤ 1000 := by rw [H6.out.2.2.2.2]; have := H6.out.1.le; omega
   have hlen := fun x => memI_len cl x
   rw [← H3.out.2.2.2.2] at hlen
   have H7 : Hid _ := hlen
   clear hlen
   go_loopg [10, 47] L (fun q s10 s47 wx => ∃ (j : Nat), q = L - j ∧ j ≤ L ∧ s47 = .int .i64 j ∧ Below w6.heap.size w6 wx ∧ OwnI wx w6.heap.size s10 ((od.take j).flatMap (memI cl)))
   case atStart => exact ⟨0, rfl, Nat.zero_le _, rfl, Below.refl _ _, World.ownsRow_nil _ _ _ _⟩
   case round =>
    obtain ⟨j, rfl, hj, rfl, hbl, hO⟩ := hrel
    obtain ⟨ao, co, hs10⟩ := row_shape hO
    obtain ⟨N, hN⟩ : ∃ N, N = ((od.take j).flatMap (memI cl)).length := ⟨_, rfl⟩
    have hNl : N ≤ 1000000000 := by
     have h1 := flat_len H7.out (od.take j)
     rw [List.length_take] at h1
     have h2 : (min j od.length) * lu ≤ 1000 * 1000 := Nat.mul_le_mul (by omega) hlu
     omega
    rw [← hN] at hs10
    subst hs10
    have hO' : wr.ownsRow w6.heap.size 3 1 (.slice ao N co) N (iC ((od.take j).flatMap (memI cl))) := by have h1 := hO; unfold OwnI at h1; rw [← hN] at h1; exact h1
    by_cases hlt : j < L
    ·obtain ⟨c, hc⟩ : ∃ c, od[j]? = some c := ⟨od[j]'(by have := H6.out.2.2.2.2; omega), List.getElem?_eq_getElem _⟩
     have hcm : c < m := H6.out.1.lt c (List.mem_of_getElem? hc)
     obtain ⟨ao9, cap9, he9, hc9⟩ := OwnI.has (own_up4 H6.out.2.2.1 hbl)
     obtain ⟨a9, ha9, d0⟩ := hc9 j (c : Int) (cast_at hc)
     injection he9 with e1 e2 e3
     subst e3
     rw [ha9] at e1
     clear hc9 ha9 e2
     subst e1
     obtain ⟨uu, hu, hOu⟩ := H5.out.2.row c hcm
     have hbo := H6.out.2.2.2.1
     have hup : Below wo.heap.size wo wr := hbo.trans (hbl.mono hbo.size)
     have cu0 := cell_up (H5.out.1.cell hu) hup
     have hOu2 := own_up4 hOu hup
     obtain ⟨ar, cr, hr⟩ := row_shape hOu2
     obtain ⟨K, hK⟩ : ∃ K, K = (memI cl c).length := ⟨_, rfl⟩
     rw [← hK] at hr
     subst hr
     have hK1 : 0 < K := by rw [hK]; exact memI_some H2.out.2.1 (by rw [← H3.out.2.2.2.1]; exact hcm)
     have hKl : K ≤ lu := by rw [hK]; exact H7.out c
     obtain ⟨ao8, cap8, he8, hc8⟩ := OwnI.has hOu2
     obtain ⟨a8, ha8, -⟩ := hc8 0 ((memI cl c)[0]'(by omega)) (List.getElem?_eq_getElem _)
     injection he8 with e1 e2 e3
     rw [ha8] at e1
     subst e1
     have hnews : ∀ (j : Nat) (u : Value), (iC (memI cl c))[j]? = some u → wr.cell? (a8.add j) = some u := fun j u hj => by
      obtain ⟨z, hz, rfl⟩ := iC_at hj
      obtain ⟨a7, h7, h8⟩ := hc8 j z hz
      rw [ha8] at h7
      cases h7
      exact h8
     have hone : ∀ u ∈ iC (memI cl c), u.oneCell' = true := fun u hu => by
      simp only [iC, List.mem_map] at hu
      obtain ⟨z, _, rfl⟩ := hu
      rfl
     have hil : (iC (memI cl c)).length = K * 1 := by rw [hK]; simp [iC]
     have p0 : (0 : Int) ≤ (j : Int) := by omega
     have p1 : (j : Int) < (L : Int) := by omega
     have p2 : (0 : Int) ≤ (c : Int) := by omega
     have p3 : (c : Int) < (m : Int) := by omega
     have p5 : IntKind.i64.wrap ((j : Int) + 1) = (j : Int) + 1 := by rw [IntKind.wrap_i64]; omega
     have hml : N + K ≤ maxLen := by unfold maxLen; omega
     have hby : (N + K) * 8 ≤ 140737488355328 := by omega
     have hsz := hbl.size
     have H8 : Hid _ := And.intro hbl (And.intro hO' (And.intro hN (And.intro hK hc)))
     have H9 : Hid _ := And.intro hnews (And.intro hone hil)
     clear hbl hO' hN hc hK hnews hone hil hO hOu hOu2 hu hup hbo hc8 ha8 e2 e3 hcm
     go_wp2_with (at_builtin; refine wpList_append_own_at _ rfl _ _ 45 rfl w6.heap.size 3 i0 (.int .i64 0) 1 8 Tryz.underlying45 hi0 hz0 hz1 hz2 rfl (by decide) (.slice ao N co) N (iC ((od.take j).flatMap (memI cl))) rfl H8.out.2.1 a8 K cr (iC (memI cl c)) rfl H9.out.2.2 H9.out.1 H9.out.2.1 hml hby hsz ?_; intro v5 w5 hO5 hg5 hnil5 hat5; have HX : Hid _ := And.intro hO5 hg5; clear hO5 hg5 hnil5 hat5)
     go_roundg (L - (j + 1))
     case measure => omega
     case rel =>
      refine ⟨j + 1, rfl, by omega, by go_num, H8.out.1.trans ((Kept.of_grown HX.out.2).below H8.out.1.size fun b hb => (H8.out.2.1.lt b hb).1), ?_⟩
      rw [flat_next H8.out.2.2.2.2]
      unfold OwnI
      rw [List.length_append, ← H8.out.2.2.1, ← H8.out.2.2.2.1, show iC ((od.take j).flatMap (memI cl) ++ memI cl c) = iC ((od.take j).flatMap (memI cl)) ++ iC (memI cl c) by simp [iC]]
      exact HX.out.1
    ·obtain rfl : L = j := by omega
     have p1 : ¬ (L : Int) < (L : Int) := by omega
     rw [H6.out.2.2.2.2, List.take_length] at hO
     have H8 : Hid _ := And.intro hbl hO
     clear hbl hO hO' hN hj hlt
     go_wp2_with fail
     go_ret2
     have b2 := (H.out.2 _).trans (H2.out.2.2.2.1.mono (H.out.2 _).size)
     have b6 := b2.trans ((H5.out.1.bl.trans (H6.out.2.2.2.1.mono H5.out.1.bl.size)).mono b2.size)
     exact ⟨_, rfl, cl, H2.out.2.1, od, by rw [← H3.out.2.2.2.1]; exact H6.out.1, by rw [← H3.out.2.2.2.1]; exact H6.out.2.1, own_lower H8.out.2 b6.size, b6.trans (H8.out.1.mono b6.size)⟩
end Go.Proofs.YtplofbabfkkimaaGreatDoor.Ts
/- tauscc: a collapsed system has no cycle, and its order is whole: plain facts. -/
namespace Go.Proofs.YtplofbabfkkimaaGreatDoor.Ts
theorem Grd.take {n : Nat} {out : Nat → List Nat} {od : List Nat} (h : Grd n out od) : ∀ j, Grd n out (od.take j) := by
 induction h with
 | nil => intro j; rw [List.take_nil]; exact .nil
 | @snoc od t h1 h2 h3 ih =>
   intro j
   by_cases hj : j ≤ od.length
   ·rw [List.take_append_of_le_length hj]; exact ih j
   ·rw [List.take_of_length_le (by rw [List.length_append, List.length_singleton]; omega)]; exact h1.snoc h2 h3
theorem Grd.next {n : Nat} {out : Nat → List Nat} {od : List Nat} (h : Grd n out od) : ∀ {j t : Nat}, od[j]? = some t → Rd n out (od.take j) t := by
 induction h with
 | nil => intro j t ht; simp at ht
 | @snoc od s h1 h2 h3 ih =>
   intro j t ht
   by_cases hj : j < od.length
   ·rw [List.getElem?_append_left hj] at ht
    rw [List.take_append_of_le_length (by omega)]
    exact ih ht
   ·have hl := (List.getElem?_eq_some_iff.1 ht).1
    rw [List.length_append, List.length_singleton] at hl
    obtain rfl : j = od.length := by omega
    rw [List.getElem?_append_right (Nat.le_refl _), Nat.sub_self, List.getElem?_cons_zero] at ht
    cases ht
    rw [List.take_left']
    ·exact h2
    ·rfl
theorem Grd.le_max {n : Nat} {out : Nat → List Nat} {od od' : List Nat} (h : Grd n out od) (hm : ∀ x, ¬ Rd n out od x) (h' : Grd n out od') : od'.length ≤ od.length := by
 rcases Nat.lt_or_ge od.length od'.length with hlt | hge
 ·have e : od = od'.take od.length := h.one (h'.take _) (by rw [List.length_take]; omega)
  have h2 := h'.next (List.getElem?_eq_getElem hlt)
  rw [← e] at h2
  exact absurd h2 (hm _)
 ·exact hge
theorem Grd.same {n : Nat} {out : Nat → List Nat} {od od' : List Nat} (h : Grd n out od) (hm : ∀ x, ¬ Rd n out od x) (h' : Grd n out od') (hm' : ∀ x, ¬ Rd n out od' x) : od = od' :=
 h.one h' (Nat.le_antisymm (h'.le_max hm' h) (h.le_max hm h'))
structure Acy (n : Nat) (out : Nat → List Nat) : Prop where
 ins : ∀ u, u < n → ∀ t ∈ out u, t < n
 acy : ∀ u v, u < n → v < n → Rt out u v → Rt out v u → u = v
 self : ∀ u, u < n → u ∉ out u
theorem countP_lt_of {p q : Nat → Bool} : ∀ (l : List Nat), (∀ z ∈ l, p z = true → q z = true) → (∃ a ∈ l, q a = true ∧ p a = false) → l.countP p < l.countP q
 | [], _, ⟨a, ha, _⟩ => by cases ha
 | b :: r, h, ⟨a, ha, h1, h2⟩ => by
   have hle : r.countP p ≤ r.countP q := List.countP_mono_left fun x hx hp => h x (List.mem_cons_of_mem _ hx) hp
   rw [List.countP_cons, List.countP_cons]
   rcases List.mem_cons.1 ha with rfl | ha
   ·rw [h1, h2]; simp; omega
   ·have ih := countP_lt_of r (fun z hz => h z (List.mem_cons_of_mem _ hz)) ⟨a, ha, h1, h2⟩
    have hb := h b List.mem_cons_self
    by_cases hp : p b = true
    ·rw [hp, hb hp]; simp; omega
    ·rw [Bool.not_eq_true] at hp
     rw [hp]
     by_cases hq : q b = true
     ·rw [hq]; simp; omega
     ·rw [Bool.not_eq_true] at hq
      rw [hq]; simp; omega
open Classical in
noncomputable def rch (n : Nat) (out : Nat → List Nat) (x : Nat) : Nat := (List.range n).countP fun z => decide (Rt out x z)
open Classical in
theorem rch_lt {n : Nat} {out : Nat → List Nat} (h : Acy n out) {x y : Nat} (hx : x < n) (hy : y ∈ out x) : rch n out y < rch n out x := by
 unfold rch
 refine countP_lt_of _ (fun z _ hz => ?_) ⟨x, List.mem_range.2 hx, by simp; exact Rt.refl x, ?_⟩
 ·simp only [decide_eq_true_eq] at hz ⊢
  exact (Rt.one hy).trans hz
 ·simp only [decide_eq_false_iff_not]
  intro hyx
  have := h.acy x y hx (h.ins x hx y hy) (Rt.one hy) hyx
  subst this
  exact h.self x hx hy
theorem Grd.whole {n : Nat} {out : Nat → List Nat} {od : List Nat} (hA : Acy n out) (hm : ∀ x, ¬ Rd n out od x) : ∀ (k x : Nat), x < n → rch n out x < k → x ∈ od
 | 0, _, _, h => absurd h (Nat.not_lt_zero _)
 | k + 1, x, hx, h => by
   by_cases hxo : x ∈ od
   ·exact hxo
   ·refine absurd ⟨hx, hxo, fun y hy => ?_⟩ (hm x)
    exact Grd.whole hA hm k y (hA.ins x hx y hy) (by have := rch_lt hA hx hy; omega)
theorem Grd.all {n : Nat} {out : Nat → List Nat} {od : List Nat} (h : Grd n out od) (hA : Acy n out) (hm : ∀ x, ¬ Rd n out od x) : od.length = n ∧ ∀ x, x < n → x ∈ od := by
 have h1 : ∀ x, x < n → x ∈ od := fun x hx => Grd.whole hA hm (rch n out x + 1) x hx (Nat.lt_succ_self _)
 refine ⟨Nat.le_antisymm h.le ?_, h1⟩
 have h2 := nodup_sub (List.range n) od List.nodup_range fun x hx => h1 x (List.mem_range.1 hx)
 rwa [List.length_range] at h2
theorem btw_mem {cl : List Nat} {es : List Sy.Ed} {y : Sy.Ed} : y ∈ btw cl es ↔ ∃ e ∈ es, keep cl e = true ∧ y = Ts.onto cl e := by
 unfold btw
 rw [List.mem_map]
 constructor
 ·rintro ⟨e, he, rfl⟩
  obtain ⟨h1, h2⟩ := List.mem_filter.1 he
  exact ⟨e, h1, h2, rfl⟩
 ·rintro ⟨e, h1, h2, rfl⟩
  exact ⟨e, List.mem_filter.2 ⟨h1, h2⟩, rfl⟩
theorem Cl.edge {n : Nat} {k s : Int} {es : List Sy.Ed} {cl : List Nat} (h : Cl n es cl) (hr : Sy.right n k s es = true) {a b : Nat} (ha : a < tog cl) (hb : b ∈ sil (tog cl) (btw cl es) a) : ∃ p q : Nat, p < n ∧ q < n ∧ cl[p]? = some a ∧ cl[q]? = some b ∧ q ∈ sil n es p ∧ a ≠ b := by
 obtain ⟨e, he, hk, hy⟩ := btw_mem.1 ((sil_mem (small_right h hr) ha).1 hb)
 have h1 := (right_parts hr).2.2.2.2.2 e he
 obtain ⟨p, hp⟩ : ∃ p : Nat, e.1 = (p : Int) := ⟨e.1.toNat, by omega⟩
 obtain ⟨q, hq⟩ : ∃ q : Nat, e.2.2 = (q : Int) := ⟨e.2.2.toNat, by omega⟩
 have hpn : p < n := by omega
 have hqn : q < n := by omega
 have gp : cl[p]? = some (cl[p]'(by rw [h.len]; exact hpn)) := List.getElem?_eq_getElem _
 have gq : cl[q]? = some (cl[q]'(by rw [h.len]; exact hqn)) := List.getElem?_eq_getElem _
 have e1 := cla_at gp
 have e2 := cla_at gq
 unfold Ts.onto at hy
 rw [hp, hq] at hy
 simp only [Prod.mk.injEq] at hy
 obtain ⟨y1, y2, y3⟩ := hy
 have z1 : cl[p]? = some a := by rw [gp]; congr 1; omega
 have z2 : cl[q]? = some b := by rw [gq]; congr 1; omega
 refine ⟨p, q, hpn, hqn, z1, z2, (sil_mem hr hpn).2 (by rw [← hp, ← hq, y2]; exact he), fun hab => ?_⟩
 unfold keep at hk
 rw [← y2, hp, hq, ← y1, ← y3, hab] at hk
 simp at hk
theorem Cl.lift {n : Nat} {k s : Int} {es : List Sy.Ed} {cl : List Nat} (h : Cl n es cl) (hr : Sy.right n k s es = true) {a b : Nat} (hR : Rt (sil (tog cl) (btw cl es)) a b) (ha : a < tog cl) : b < tog cl ∧ ∀ u v, u < n → v < n → cl[u]? = some a → cl[v]? = some b → Rt (sil n es) u v := by
 induction hR with
 | refl => exact ⟨ha, fun u v hu hv h1 h2 => ((h.iff u v hu hv).1 (by rw [h1, h2])).1⟩
 | @step x y hxy hy ih =>
   obtain ⟨p, q, hp, hq, z1, z2, z3, _⟩ := h.edge hr ih.1 hy
   refine ⟨h.lt z2, fun u v hu hv h1 h2 => ?_⟩
   exact ((ih.2 u p hu hp h1 z1).step z3).trans ((h.iff q v hq hv).1 (by rw [z2, h2])).1
theorem Cl.acy {n : Nat} {k s : Int} {es : List Sy.Ed} {cl : List Nat} (h : Cl n es cl) (hr : Sy.right n k s es = true) : Acy (tog cl) (sil (tog cl) (btw cl es)) := by
 have hlt : ∀ {u x : Nat}, cl[u]? = some x → u < n := fun hx => by have := (List.getElem?_eq_some_iff.1 hx).1; rwa [h.len] at this
 refine ⟨fun u hu t ht => ?_, fun u v hu hv h1 h2 => ?_, fun u hu hs => ?_⟩
 ·obtain ⟨p, q, _, _, _, z2, _⟩ := h.edge hr hu ht
  exact h.lt z2
 ·obtain ⟨p, hp⟩ := h.onto hu
  obtain ⟨q, hq⟩ := h.onto hv
  have g := (h.iff p q (hlt hp) (hlt hq)).2 ⟨(h.lift hr h1 hu).2 p q (hlt hp) (hlt hq) hp hq, (h.lift hr h2 hv).2 q p (hlt hq) (hlt hp) hq hp⟩
  rw [hp, hq] at g
  exact Option.some.inj g
 ·obtain ⟨p, q, _, _, _, _, _, hne⟩ := h.edge hr hu hs
  exact hne rfl
theorem sil_nf (m : Nat) (L : List Sy.Ed) (q : Nat) : sil m (Sy.nf L) q = sil m L q := by unfold sil; rw [Sy.nf_idem]
theorem Acy.nf {m : Nat} {L : List Sy.Ed} (h : Acy m (sil m L)) : Acy m (sil m (Sy.nf L)) := by
 have e : sil m (Sy.nf L) = sil m L := funext fun q => sil_nf m L q
 rw [e]
 exact h
theorem right_nf {m : Nat} {k s : Int} {L : List Sy.Ed} (hr : Sy.right m k s L = true) : Sy.right m k s (Sy.nf L) = true := by
 unfold Sy.right at hr ⊢
 simp only [Bool.and_eq_true, decide_eq_true_eq, List.all_eq_true] at hr ⊢
 obtain ⟨⟨⟨h1, h2, h3, h4, h5⟩, h6⟩, h7⟩ := hr
 have h8 := Sy.nf_len L
 exact ⟨⟨⟨h1, h2, h3, h4, by omega⟩, h6⟩, fun e he => h7 e ((Sy.nf_mem _ _).1 he)⟩
end Go.Proofs.YtplofbabfkkimaaGreatDoor.Ts
