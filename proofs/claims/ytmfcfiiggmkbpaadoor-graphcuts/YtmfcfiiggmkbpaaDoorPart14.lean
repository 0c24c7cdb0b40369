/- Texts of this claim, joined: SyNew, SyAlive, SyLent, SySmI, SyCuts, SoPiv. -/
import Derived.Test.YtmfcfiiggmkbpaaDoorPart9
import Derived.Test.YtmfcfiiggmkbpaaDoorPart10
import Derived.Test.YtmfcfiiggmkbpaaDoorPart5
import Derived.Test.YtmfcfiiggmkbpaaDoorPart0
import Derived.Deep.QuietTactic
import Derived.BigQuiet
import Derived.Test.YtmfcfiiggmkbpaaDoorSyNone
import Derived.Test.YtmfcfiiggmkbpaaDoorSyCut
import Derived.Test.YtmfcfiiggmkbpaaDoorPart8
/- Contract of the program's New: a graph of the system's one form. -/
namespace Go.Proofs.YtmfcfiiggmkbpaaDoor
open Go.RowKit Go.Maps
attribute [local go_sem ↓] Go.wp_at_zero Go.wp_at_succ
/-- In the order of the ends, each once: the one form of the edges turned round. -/
theorem inOrder_turn {es os : List Sy.Ed} (h : InOrder Sy.turn (Sy.nf es) os) : os.map Sy.turn = Sy.nf ((Sy.nf es).map Sy.turn) := by
  refine Sy.nf_of ?_ fun x => ?_
  · have hnd : os.Nodup := by
      rw [h.1.nodup_iff]
      have hs := Sy.nf_str es
      generalize Sy.nf es = l at hs
      induction l with
      | nil => exact List.nodup_nil
      | cons a r ih =>
        refine List.nodup_cons.2 ⟨fun ha => ?_, ih hs.tail⟩
        have h1 := hs.head a ha
        rw [Sy.lt_irrefl] at h1
        cases h1
    have hp := h.2
    clear h
    induction os with
    | nil => trivial
    | cons a r ih =>
      obtain ⟨h1, h2⟩ := List.pairwise_cons.1 hp
      obtain ⟨h3, h4⟩ := List.nodup_cons.1 hnd
      rw [List.map_cons]
      refine Sy.Str.cons (ih h4 h2) fun x hx => ?_
      obtain ⟨b, hb, rfl⟩ := List.mem_map.1 hx
      have h5 := h1 b hb
      cases h6 : Sy.lt (Sy.turn a) (Sy.turn b) with
      | true => rfl
      | false =>
        have h7 := congrArg Sy.turn (Sy.eq_of_not h6 h5)
        rw [turn_turn, turn_turn] at h7
        rw [h7] at h3
        exact absurd hb h3
  · rw [List.mem_map, List.mem_map]
    constructor
    · rintro ⟨a, ha, rfl⟩; exact ⟨a, h.1.mem_iff.1 ha, rfl⟩
    · rintro ⟨a, ha, rfl⟩; exact ⟨a, h.1.mem_iff.2 ha, rfl⟩
theorem rg_up4' {w2 wa wb : World} {a0 a1 a2 a3 : Addr} {x0 x1 x2 x3 : Value} (h : (wa.cell? a0 = some x0 ∧ wa.cell? a1 = some x1 ∧ wa.cell? a2 = some x2 ∧ wa.cell? a3 = some x3) ∧ Hid (Below w2.heap.size w2 wa)) (hb : Below wa.heap.size wa wb) : (wb.cell? a0 = some x0 ∧ wb.cell? a1 = some x1 ∧ wb.cell? a2 = some x2 ∧ wb.cell? a3 = some x3) ∧ Hid (Below w2.heap.size w2 wb) := rg_up4 hb h
/-- What New answers. -/
def NewAt (a : Addr) (n k s : Int) (es : List Sy.Ed) (w : World) (r : Ending) (w' : World) : Prop :=
  if Sy.right n k s es = true then ∃ (g bs bb cs cb m : Nat), n = (m : Int) ∧ r = .returned (.tuple #[.pointer (some ⟨g, 0, none⟩), .nilIface]) ∧ Gr w' w.heap.size g bs bb cs cb m k s es ∧ Below w.heap.size w w'
  else ∃ x, r = .returned (.tuple #[.pointer none, x]) ∧ Chain w' 0 0 a [sysB] x ∧ Below w.heap.size w w'
set_option maxRecDepth 100000 in
set_option maxHeartbeats 8000000 in
theorem new_any {M : Nat} (hS : SortOk M) (n k s : Int) (v : Value) (es : List Sy.Ed) (a : Addr) (w : World) (hA : Sent w 13 a) (hv : BEdges.Has w v es) (hM : es.length ≤ M) (hm : es.length ≤ 100000) :
    Calls Tryd.prog 16 #[sysV n k s v] w (NewAt a n k s es w) := by
  obtain ⟨w1, hw1⟩ : ∃ w1, w1 = w.alloc (.cells #[.int .i64 n, .int .i64 k, .int .i64 s, v] 24) := ⟨_, rfl⟩
  have hb1 : Below w.heap.size w w1 := by rw [hw1]; exact (Below.refl _ _).alloc (Nat.le_refl _) _
  have hg1 : w1.heap[w.heap.size]? = some (.cells #[.int .i64 n, .int .i64 k, .int .i64 s, v] 24 (0, 0)) := by rw [hw1]; exact heap_alloc_new w _
  have hN := normal_any hS n k s v es a w1 (hA.below hb1) (hv.below hb1) hM (by omega)
  obtain ⟨ao, cap, rfl, _⟩ := hv
  obtain ⟨m0, hm0⟩ : ∃ m0, m0 = es.length := ⟨_, rfl⟩
  rw [← hm0] at hN hg1 hw1 ⊢
  unfold sysV at hN ⊢
  have H1 : Hid _ := And.intro hN (And.intro hb1 (And.intro hg1 (And.intro hw1 hS)))
  have HM : Hid _ := And.intro hM hm
  cases hq : Sy.right n k s es with
  | false =>
    rw [hq] at H1
    unfold NewAt
    rw [hq]
    clear hN hb1 hg1 hw1 hS hA hq hm0 hM hm
    go_enter Tryd.func16, Tryd.ntmps16
    go_wp2_with fail
    rw [← H1.out.2.2.2.1]
    refine Calls.mono H1.out.1 ?_
    rintro r w2 ⟨x, u, rfl, hx, _, hb2⟩
    have hch : Chain w2 0 0 a [sysB] x := by simpa [SErr] using hx
    obtain ⟨T, y, rfl⟩ := hch.iface
    have hg2 := (hb2.block _ (t_lt H1.out.2.2.1)).trans H1.out.2.2.1
    obtain ⟨y0, y1, y2, y3⟩ := four_cells hg2
    have z0 := blk_free hg2 0
    have z1 := blk_free hg2 1
    have z2 := blk_free hg2 2
    have z3 := blk_free hg2 3
    have hbw := H1.out.2.1.trans (hb2.mono H1.out.2.1.size)
    have H2 : Hid _ := And.intro hch (And.intro hbw hg2)
    clear hb2 hg2 hbw hch hx
    go_wp2_with fail
    have hbf := four_below H2.out.2.1 (b := w.heap.size) (Nat.le_refl _) (.int .i64 0) (.int .i64 0) (.int .i64 0) (.slice none 0 0)
    have hcf := chain_st4 H2.out.1 H2.out.2.2 (.int .i64 0) (.int .i64 0) (.int .i64 0) (.slice none 0 0)
    unfold st4 at hcf
    go_ret2
    exact ⟨_, rfl, hcf, hbf⟩
  | true =>
    rw [hq] at H1
    have hrp := right_parts hq
    obtain ⟨q, rfl⟩ : ∃ q : Nat, n = (q : Int) := ⟨n.toNat, by omega⟩
    have HQ : Hid _ := And.intro hq hrp
    unfold NewAt
    rw [hq]
    clear hN hb1 hg1 hw1 hS hA hq hm0 hM hm hrp
    go_enter Tryd.func16, Tryd.ntmps16
    go_wp2_with fail
    rw [← H1.out.2.2.2.1]
    refine Calls.mono H1.out.1 ?_
    rintro r w2 ⟨x, u, rfl, hx, hO, hb2⟩
    have hO := hO trivial
    obtain rfl : x = .nilIface := by simpa [SErr] using hx
    obtain ⟨au, cu, rfl⟩ := row_shape hO
    have hg2 := (hb2.block _ (t_lt H1.out.2.2.1)).trans H1.out.2.2.1
    obtain ⟨y0, y1, y2, y3⟩ := four_cells hg2
    have z0 := blk_free hg2 0
    have z1 := blk_free hg2 1
    have z2 := blk_free hg2 2
    have z3 := blk_free hg2 3
    have hbw := H1.out.2.1.trans (hb2.mono H1.out.2.1.size)
    obtain ⟨L, hL⟩ : ∃ L, L = (Sy.nf es).length := ⟨_, rfl⟩
    obtain ⟨w3, hw3⟩ : ∃ w3, w3 = (((w2.setCell ⟨w.heap.size, 0, none⟩ (.int .i64 q)).setCell ⟨w.heap.size, 1, none⟩ (.int .i64 k)).setCell ⟨w.heap.size, 2, none⟩ (.int .i64 s)).setCell ⟨w.heap.size, 3, none⟩ (.slice au L cu) := ⟨_, rfl⟩
    rw [← hL]
    have hg3 : w3.heap[w.heap.size]? = some (.cells #[.int .i64 q, .int .i64 k, .int .i64 s, .slice au L cu] 24 (0, 0)) := by rw [hw3]; exact four_set hg2
    have hb3 : Below w.heap.size w w3 := by rw [hw3]; exact four_below hbw (Nat.le_refl _) _ _ _ _
    have hO3 : BEdges.Own w3 w.heap.size (.slice au (Sy.nf es).length cu) (Sy.nf es) := by
      rw [hw3]
      refine row_base (trow_at hO fun b hb => ?_) H1.out.2.1.size
      have n1 : b ≠ w.heap.size := fun e => own_bk hO hg2 (by decide) (e ▸ hb)
      rw [set_other _ _ _ _ _ n1, set_other _ _ _ _ _ n1, set_other _ _ _ _ _ n1, set_other _ _ _ _ _ n1]
    have H3 : Hid _ := And.intro hb3 (And.intro hO3 (And.intro hg3 (And.intro hw3 hL)))
    clear hO hb2 hg2 hbw hx hg3 hb3 hO3 hw3 hL
    have hle : L ≤ 10000 := by have := HQ.out.2.2.2.1; have := Sy.nf_len es; have := H3.out.2.2.2.2; omega
    have hqn : q ≤ 1000 := by have := HQ.out.2.1; omega
    have hnr : ∀ e ∈ Sy.nf es, 0 ≤ e.1 ∧ e.1 < (q : Int) ∧ 0 ≤ e.2.2 ∧ e.2.2 < (q : Int) := fun e he => by
      have := HQ.out.2.2.2.2.2.2 e ((Sy.nf_mem es e).1 he)
      exact ⟨this.1, this.2.1, this.2.2.1, this.2.2.2.1⟩
    have hTf : ∀ W, Below w3.heap.size w3 W → Calls Tryd.prog 28 #[.int .i64 q, .slice au L cu, .func (.func 29) #[] #[]] W fun r w' => ∃ bs bb, r = .returned (.agg #[.slice (some ⟨bs, 0, none⟩) L L, .slice (some ⟨bb, 0, none⟩) (q + 1) (q + 1)]) ∧ Tb w' w.heap.size bs bb q (Sy.nf es) ∧ Below W.heap.size W w' := fun W hb => by
      have hLL := H3.out.2.2.2.2
      have hOW : BEdges.Has W (.slice au (Sy.nf es).length cu) (Sy.nf es) := H3.out.2.1.has.below hb
      have h9 := tableOf_any _ _ forward_at q (.slice au (Sy.nf es).length cu) (Sy.nf es) W (by omega) (by omega) hOW (by rw [List.map_id']; exact fun e he => ⟨(hnr e he).1, (hnr e he).2.1⟩) (by rw [List.map_id']; exact nf_rows es)
      rw [List.map_id'] at h9
      rw [← hLL] at h9
      refine h9.mono fun r w' ⟨bs, bb, hr, h1, h2⟩ => ⟨bs, bb, hr, ⟨(Blk.of_arr h1).base ?_, (Blk.of_arr h2).base ?_⟩, h1.bl⟩
      · have := H3.out.1.size; have := hb.size; omega
      · have := H3.out.1.size; have := hb.size; omega
    have hOr : ∀ W, Below w3.heap.size w3 W → Calls Tryd.prog 30 #[.slice au L cu, .func (.func 31) #[] #[]] W fun r w' => ∃ u os, r = .returned u ∧ InOrder Sy.turn (Sy.nf es) os ∧ BEdges.Own w' W.heap.size u os ∧ Below W.heap.size W w' := fun W hb => by
      have hLL := H3.out.2.2.2.2
      have hOW : BEdges.Has W (.slice au (Sy.nf es).length cu) (Sy.nf es) := H3.out.2.1.has.below hb
      have h9 := ordered_any H1.out.2.2.2.2 _ _ backward_at (.slice au (Sy.nf es).length cu) (Sy.nf es) W (by have := Sy.nf_len es; have := HM.out.1; omega) (by omega) hOW
      rw [← hLL] at h9
      exact h9
    have hTb : ∀ W u os B, Below w3.heap.size w3 W → InOrder Sy.turn (Sy.nf es) os → BEdges.Own W B u os → Calls Tryd.prog 28 #[.int .i64 q, u, .func (.func 31) #[] #[]] W fun r w' => ∃ bs bb, r = .returned (.agg #[.slice (some ⟨bs, 0, none⟩) L L, .slice (some ⟨bb, 0, none⟩) (q + 1) (q + 1)]) ∧ Tb w' w.heap.size bs bb q (Sy.nf ((Sy.nf es).map Sy.turn)) ∧ Below W.heap.size W w' := fun W u os B hb hI hO => by
      have hLL := H3.out.2.2.2.2
      have hlo := hI.1.length_eq
      have het := inOrder_turn hI
      have h9 := tableOf_any _ _ backward_at q u os W (by omega) (by omega) hO.has (by
        rw [het]
        intro e he
        rw [Sy.nf_mem] at he
        obtain ⟨x, hx, rfl⟩ := List.mem_map.1 he
        exact ⟨(hnr x hx).2.2.1, (hnr x hx).2.2.2⟩) (by rw [het]; exact nf_rows _)
      rw [het, hlo, ← hLL] at h9
      refine h9.mono fun r w' ⟨bs, bb, hr, h1, h2⟩ => ⟨bs, bb, hr, ⟨(Blk.of_arr h1).base ?_, (Blk.of_arr h2).base ?_⟩, h1.bl⟩
      · have := H3.out.1.size; have := hb.size; omega
      · have := H3.out.1.size; have := hb.size; omega
    have HT : Hid _ := And.intro hTf (And.intro hOr hTb)
    clear hTf hOr hTb hnr
    go_upto_region 4 with fail
    rw [← H3.out.2.2.2.1]
    clear y0 y1 y2 y3 z0 z1 z2 z3
    obtain ⟨x0, x1, x2, x3⟩ := four_cells H3.out.2.2.1
    go_region_held3 (fun w' => (w'.cell? ⟨w.heap.size, 0, none⟩ = some (.int .i64 q) ∧ w'.cell? ⟨w.heap.size, 1, none⟩ = some (.int .i64 k) ∧ w'.cell? ⟨w.heap.size, 2, none⟩ = some (.int .i64 s) ∧ w'.cell? ⟨w.heap.size, 3, none⟩ = some (.slice au L cu)) ∧ Hid (Below w3.heap.size w3 w')) (first | exact rg_up4' (by assumption) hba | exact rg_up4' (by assumption) hbb | exact rg_up4' (by assumption) hbc | exact rg_up4' (by assumption) ((Below.refl _ _).alloc (Nat.le_refl _) _) | exact ⟨⟨x0, x1, x2, x3⟩, ((Below.refl _ _).drew : Below w3.heap.size w3 w3.drew)⟩ | go_keep)
      ((first
        | (go_at_call_of 28 (Value.slice au L cu); refine (HT.out.1 _ (rg_b (by assumption))).mono ?_; rintro r wa ⟨bs, bb, rfl, hTa, hba⟩)
        | (go_at_call 30; refine (HT.out.2.1 _ (rg_b (by assumption))).mono ?_; rintro r wb ⟨u5, os, rfl, hIo, hOb, hbb⟩)
        | (go_at_call_of 28 u5; refine (HT.out.2.2 _ _ os _ (rg_b (by assumption)) hIo (by first | exact hOb | exact trow_at hOb fun b hb => hba.block _ (hOb.lt b hb).2)).mono ?_; rintro r wc ⟨cs, cb, rfl, hTc, hbc⟩)
        | fail))
    have hal : Below wc.heap.size wc (wc.alloc (.cells #[.int .i64 q, .int .i64 k, .int .i64 s, .slice (some ⟨bs, 0, none⟩) L L, .slice (some ⟨bb, 0, none⟩) (q + 1) (q + 1), .slice (some ⟨cs, 0, none⟩) L L, .slice (some ⟨cb, 0, none⟩) (q + 1) (q + 1)] 32)) := (Below.refl _ _).alloc (Nat.le_refl _) _
    have hbx := heap_alloc_new wc (.cells #[.int .i64 q, .int .i64 k, .int .i64 s, .slice (some ⟨bs, 0, none⟩) L L, .slice (some ⟨bb, 0, none⟩) (q + 1) (q + 1), .slice (some ⟨cs, 0, none⟩) L L, .slice (some ⟨cb, 0, none⟩) (q + 1) (q + 1)] 32)
    have hba' := below_of_drew3 hba
    have hsz : w.heap.size ≤ wc.heap.size := by have := H3.out.1.size; have := hba'.size; have := hbb.size; have := hbc.size; omega
    have hbw : Below w.heap.size w (wc.alloc (.cells #[.int .i64 q, .int .i64 k, .int .i64 s, .slice (some ⟨bs, 0, none⟩) L L, .slice (some ⟨bb, 0, none⟩) (q + 1) (q + 1), .slice (some ⟨cs, 0, none⟩) L L, .slice (some ⟨cb, 0, none⟩) (q + 1) (q + 1)] 32)) :=
      (((H3.out.1.trans (hba'.mono H3.out.1.size)).trans (hbb.mono (by have := H3.out.1.size; have := hba'.size; omega))).trans (hbc.mono (by have := H3.out.1.size; have := hba'.size; have := hbb.size; omega))).trans (hal.mono hsz)
    have hGr : Gr (wc.alloc (.cells #[.int .i64 q, .int .i64 k, .int .i64 s, .slice (some ⟨bs, 0, none⟩) L L, .slice (some ⟨bb, 0, none⟩) (q + 1) (q + 1), .slice (some ⟨cs, 0, none⟩) L L, .slice (some ⟨cb, 0, none⟩) (q + 1) (q + 1)] 32)) w.heap.size wc.heap.size bs bb cs cb q k s es :=
      ⟨by rw [← H3.out.2.2.2.2]; exact hbx, hsz, ((hTa.below hbb).below hbc).below hal, hTc.below hal, HQ.out.1⟩
    have HF : Hid _ := And.intro hGr hbw
    clear hal hbx hba' hbw hGr hba hbb hbc hTa hTc hOb hIo x0 x1 x2 x3
    rename_i hS9
    clear hS9
    go_wp2_with fail
    go_ret2
    exact ⟨_, _, _, _, _, q, rfl, rfl, HF.out.1, HF.out.2⟩
theorem new_ok {M : Nat} (hS : SortOk M) (n k s : Int) (v : Value) (es : List Sy.Ed) (a : Addr) (w : World) (hA : Sent w 13 a) (hv : BEdges.Has w v es) (hM : es.length ≤ M) (hm : es.length ≤ 100000) (hq : Sy.right n k s es = true) :
    Calls Tryd.prog 16 #[sysV n k s v] w fun r w' => ∃ (g bs bb cs cb m : Nat), n = (m : Int) ∧ r = .returned (.tuple #[.pointer (some ⟨g, 0, none⟩), .nilIface]) ∧ Gr w' w.heap.size g bs bb cs cb m k s es ∧ Below w.heap.size w w' :=
  (new_any hS n k s v es a w hA hv hM hm).mono fun r w' h => by unfold NewAt at h; rw [if_pos hq] at h; exact h
theorem new_bad {M : Nat} (hS : SortOk M) (n k s : Int) (v : Value) (es : List Sy.Ed) (a : Addr) (w : World) (hA : Sent w 13 a) (hv : BEdges.Has w v es) (hM : es.length ≤ M) (hm : es.length ≤ 100000) (hq : Sy.right n k s es = false) :
    Calls Tryd.prog 16 #[sysV n k s v] w fun r w' => ∃ x, r = .returned (.tuple #[.pointer none, x]) ∧ Chain w' 0 0 a [sysB] x ∧ Below w.heap.size w w' :=
  (new_any hS n k s v es a w hA hv hM hm).mono fun r w' h => by unfold NewAt at h; rw [if_neg (by rw [hq]; simp)] at h; exact h
end Go.Proofs.YtmfcfiiggmkbpaaDoor
/- Contract of the law's alive: a first call whose answer the document fixes. -/
namespace Go.Proofs.YtmfcfiiggmkbpaaDoor
open Go.RowKit Go.Maps
attribute [local go_sem ↓] Go.wp_at_zero Go.wp_at_succ
def esA : List Sy.Ed := [(0, 1, 1), (1, 0, 0), (2, 1, 0)]
theorem esA_right : Sy.right ((3 : Nat) : Int) 2 0 esA = true := by decide
theorem esA_out : (Sy.rowOf 3 (Sy.nf esA) 0).length = 1 := by decide
theorem esA_in : (Sy.rowOf 3 (Sy.nf ((Sy.nf esA).map Sy.turn)) 0).length = 2 := by decide
theorem esA_deg : Sy.degTo (Sy.nf esA) 3 = 1 := by decide
theorem esA_rea {p : Int} (h : Sy.Rea esA 0 p) : p = 0 ∨ p = 1 := by
  induction h with
  | start => exact .inl rfl
  | step e he _ ih =>
    simp only [esA, List.mem_cons, List.not_mem_nil, or_false] at he
    rcases he with rfl | rfl | rfl
    · exact .inr rfl
    · exact .inl rfl
    · exact .inl rfl
theorem esA_marks {ms : List Bool} (hl : ms.length = 3) (h : ∀ p : Nat, p < 3 → (ms[p]? = some true ↔ Sy.Rea esA 0 p)) : (Sy.marked ms).length = 2 := by
  match ms, hl with
  | [a, b, c], _ =>
    have ha : a = true := by have := (h 0 (by omega)).2 .start; simpa using this
    have hb : b = true := by have := (h 1 (by omega)).2 (.step (0, 1, 1) (by simp [esA]) .start); simpa using this
    have hc : c = false := by
      cases c with
      | false => rfl
      | true =>
        rcases esA_rea ((h 2 (by omega)).1 rfl) with e | e <;> omega
    subst ha hb hc
    decide
theorem esA_has (w : World) : BEdges.Has (w.alloc (.cells #[.int .i64 0, .int .i64 1, .int .i64 1, .int .i64 1, .int .i64 0, .int .i64 0, .int .i64 2, .int .i64 1, .int .i64 0] 49)) (.slice (some ⟨w.heap.size, 0, none⟩) 3 3) esA := by
  refine ⟨some ⟨w.heap.size, 0, none⟩, 3, rfl, fun j u hj => ⟨_, rfl, ?_⟩⟩
  rw [addz]
  refine cell0_of (heap_alloc_new w _) ?_
  rw [← Array.getElem?_toList]
  exact hj
set_option maxRecDepth 100000 in
set_option maxHeartbeats 4000000 in
theorem pAlive (a : Addr) (w : World) (h : Sent w 13 a) : PAlive w := fun W hb => by
  have hA := h.below hb
  clear h hb
  obtain ⟨w1, hw1⟩ : ∃ w1, w1 = W.alloc (.cells #[.int .i64 0, .int .i64 1, .int .i64 1, .int .i64 1, .int .i64 0, .int .i64 0, .int .i64 2, .int .i64 1, .int .i64 0] 49) := ⟨_, rfl⟩
  have hb1 : Below W.heap.size W w1 := by rw [hw1]; exact (Below.refl _ _).alloc (Nat.le_refl _) _
  have hv := esA_has W
  rw [← hw1] at hv
  have hN := new_ok sort12 ((3 : Nat) : Int) 2 0 (.slice (some ⟨W.heap.size, 0, none⟩) 3 3) esA a w1 (hA.below hb1) hv (by decide) (by decide) esA_right
  unfold sysV at hN
  have HN : Hid _ := And.intro hN (And.intro hb1 hw1)
  clear hN hb1 hw1 hv hA
  go_enter Tryd.func7, Tryd.ntmps7
  go_wp2_with fail
  rw [← HN.out.2.2]
  refine Calls.mono HN.out.1 ?_
  rintro r w2 ⟨g, bs, bb, cs, cb, m, hm, rfl, hG, hb2⟩
  obtain rfl : m = 3 := by omega
  have hbw := HN.out.2.1.trans (hb2.mono HN.out.2.1.size)
  have H2 : Hid _ := And.intro hG hbw
  clear hG hb2 hm hbw HN
  go_wp2_with fail
  refine Calls.mono (out_any 0 _ H2.out.1) ?_
  rintro r w3 ⟨u3, rfl, hO3, hb3⟩
  obtain ⟨a3, c3, rfl⟩ := row_shape hO3
  rw [esA_out]
  have hG3 := H2.out.1.below hb3
  have H3 : Hid _ := And.intro hG3 (H2.out.2.trans (hb3.mono H2.out.2.size))
  clear hG3 hb3 hO3 H2
  go_wp2_with fail
  refine Calls.mono (in_any 0 _ H3.out.1) ?_
  rintro r w4 ⟨u4, rfl, hO4, hb4⟩
  obtain ⟨a4, c4, rfl⟩ := row_shape hO4
  rw [esA_in]
  have hG4 := H3.out.1.below hb4
  have H4 : Hid _ := And.intro hG4 (H3.out.2.trans (hb4.mono H3.out.2.size))
  clear hG4 hb4 hO4 H3
  go_wp2_with fail
  refine Calls.mono (reach_any _ H4.out.1) ?_
  rintro r w5 ⟨u5, ms, rfl, hO5, hl5, hm5, hb5⟩
  obtain ⟨a5, c5, rfl⟩ := row_shape hO5
  rw [esA_marks hl5 hm5]
  have hG5 := H4.out.1.below hb5
  have H5 : Hid _ := And.intro hG5 (H4.out.2.trans (hb5.mono H4.out.2.size))
  clear hG5 hb5 hO5 H4 hl5 hm5
  go_wp2_with fail
  refine Calls.mono (degree_any _ H5.out.1) ?_
  rintro r w6 ⟨rfl, hb6⟩
  rw [esA_deg]
  have H6 : Hid _ := H5.out.2.trans (hb6.mono H5.out.2.size)
  clear hb6 H5
  go_wp2_with fail
  go_ret
  exact ⟨rfl, H6.out⟩
end Go.Proofs.YtmfcfiiggmkbpaaDoor
/- Contracts of the book's SameSystem, Lent and Stays. -/
namespace Go.Proofs.YtmfcfiiggmkbpaaDoor
open Go.RowKit Go.Maps
attribute [local go_sem ↓] Go.wp_at_zero Go.wp_at_succ
set_option maxRecDepth 100000 in
set_option maxHeartbeats 2000000 in
theorem sameSystem_b (n k s : Int) (va vb : Value) (es : List Sy.Ed) (w : World) (hn : es.length ≤ 1000000) (hA : BEdges.Has w va es) (hB : BEdges.Has w vb es) :
    Calls Tryd.prog 9 #[sysV n k s va, sysV n k s vb] w fun e w' => e = .returned (.bool true) ∧ Below w.heap.size w w' := by
  obtain ⟨w1, hw1⟩ : ∃ w1, w1 = (w.alloc (.cells #[.int .i64 n, .int .i64 k, .int .i64 s, va] 24)).alloc (.cells #[.int .i64 n, .int .i64 k, .int .i64 s, vb] 24) := ⟨_, rfl⟩
  have hb1 : Below w.heap.size w w1 := by rw [hw1]; exact ((Below.refl _ _).alloc (Nat.le_refl _) _).alloc (by simp) _
  have H1 : Hid _ := And.intro (BEdges.same_b va vb es w1 (by omega) (hA.below hb1) (hB.below hb1)) (And.intro hb1 hw1)
  obtain ⟨ao, cap, rfl, _⟩ := hA
  obtain ⟨bo, cbp, rfl, _⟩ := hB
  unfold sysV
  have nn : ¬ w.heap.size + 1 = w.heap.size := by omega
  clear hb1 hw1
  go_enter Tryd.func9, Tryd.ntmps9
  go_wp2_with fail
  rw [← H1.out.2.2]
  refine Calls.mono H1.out.1 ?_
  rintro e w2 ⟨rfl, hb2⟩
  have H2 : Hid _ := H1.out.2.1.trans (hb2.mono H1.out.2.1.size)
  clear hb2
  go_wp2_with fail
  go_ret
  exact ⟨rfl, H2.out⟩
/-- The marks behind what is lent. -/
def mk3 : List Sy.Ed := [(-7, 0, 0), (-7, 1, 0), (-7, 2, 0)]
/-- A list with room behind it, in which the marks stand. -/
def LentE (w : World) (B : Nat) (u : Value) (es : List Sy.Ed) : Prop := ∃ g cap, u = .slice (some ⟨g, 0, none⟩) es.length cap ∧ es.length + 3 ≤ cap ∧ BEdges.Own w B (.slice (some ⟨g, 0, none⟩) (es.length + 3) cap) (es ++ mk3)
theorem LentE.below {w w' : World} {B : Nat} {u : Value} {es : List Sy.Ed} (h : LentE w B u es) (hb : Below w.heap.size w w') : LentE w' B u es := by
  obtain ⟨g, cap, h1, h2, h3⟩ := h
  exact ⟨g, cap, h1, h2, trow_at h3 fun b hb' => hb.block b (h3.lt b hb').2⟩
theorem LentE.hasE {w : World} {B : Nat} {u : Value} {es : List Sy.Ed} (h : LentE w B u es) : HasE w u es := by
  obtain ⟨g, cap, rfl, h2, h3⟩ := h
  have h4 := HasE.of_own h3
  have h5 := hasE_take h4 es.length (by rw [List.length_append]; omega)
  rw [List.take_left' rfl] at h5
  exact h5
end Go.Proofs.YtmfcfiiggmkbpaaDoor
/- The book's SameInts on equal lists. -/
namespace Go.Proofs.YtmfcfiiggmkbpaaDoor
open Go.RowKit
set_option maxRecDepth 100000 in
set_option maxHeartbeats 1000000 in
theorem sameInts_any (va vb : Value) (zs : List Int) (w : World) (hn : zs.length ≤ 1000000) (hA : HasI w va zs) (hB : HasI w vb zs) :
    Calls Tryd.prog 19 #[va, vb] w fun e w' => e = .returned (.bool true) ∧ Below w.heap.size w w' := by
  obtain ⟨ao, cap, rfl, hcA⟩ := hA
  obtain ⟨ao', cap', rfl, hcB⟩ := hB
  obtain ⟨n, hN⟩ : ∃ n, n = zs.length := ⟨_, rfl⟩
  have HH : Hid ((∀ (i : Nat) (z : Int), zs[i]? = some z → ∃ a, ao = some a ∧ w.cell? (a.add i) = some (.int .i64 z)) ∧ (∀ (i : Nat) (z : Int), zs[i]? = some z → ∃ a, ao' = some a ∧ w.cell? (a.add i) = some (.int .i64 z)) ∧ n = zs.length) := ⟨hcA, hcB, hN⟩
  rw [← hN] at hn ⊢
  clear hcA hcB hN
  have q : ((n : Int) != (n : Int)) = false := by simp
  go_enter Tryd.func19, Tryd.ntmps19
  go_wp2
  go_loopg [5] n (fun g i wr => ∃ j m : Nat, g = n - j ∧ j ≤ n ∧ i = .int .i64 j ∧ wr = w.drewN m)
  case atStart => exact ⟨0, 0, rfl, Nat.zero_le _, rfl, rfl⟩
  case round =>
    obtain ⟨j, m, rfl, hj, rfl, rfl⟩ := hrel
    by_cases hlt : j < n
    · obtain ⟨z, hz⟩ : ∃ z, zs[j]? = some z := ⟨zs[j]'(by have := HH.out.2.2; omega), List.getElem?_eq_getElem _⟩
      obtain ⟨a, rfl, c0⟩ := HH.out.1 j z hz
      obtain ⟨b, rfl, d0⟩ := HH.out.2.1 j z hz
      clear hz
      have q0 : (0 : Int) ≤ (j : Int) := by omega
      have q1 : (j : Int) < (n : Int) := by omega
      go_wp2_with fail
      go_quiet (fail)
      go_wp2
      go_roundg (n - (j + 1))
      case measure => omega
      case rel => exact ⟨j + 1, _, rfl, by omega, by go_num, by first | rfl | exact World.drewN_drewN _ _ _⟩
    · have q1 : ¬ (j : Int) < (n : Int) := by omega
      go_wp2
      go_ret
      exact ⟨rfl, below_drewN (Below.refl _ _) _⟩
end Go.Proofs.YtmfcfiiggmkbpaaDoor
/- GraphCuts as a call. -/
namespace Go.Proofs.YtmfcfiiggmkbpaaDoor
open Go.RowKit Go.Maps
attribute [local go_sem ↓] Go.wp_at_zero Go.wp_at_succ
/-- Both marked the same states. -/
theorem marks_same {es : List Sy.Ed} {s : Int} {n : Nat} {ms bs : List Bool} (h1 : ms.length = n) (h2 : ∀ p : Nat, p < n → (ms[p]? = some true ↔ Sy.Rea es s p)) (h3 : bs.length = n) (h4 : ∀ p : Nat, p < n → (bs[p]? = some true ↔ Sy.Rea es s p)) : bs = ms := by
  apply List.ext_getElem?
  intro p
  by_cases hp : p < n
  · obtain ⟨a, ha⟩ : ∃ a, ms[p]? = some a := ⟨_, List.getElem?_eq_getElem (by omega)⟩
    obtain ⟨b, hb⟩ : ∃ b, bs[p]? = some b := ⟨_, List.getElem?_eq_getElem (by omega)⟩
    have h5 := (h2 p hp).trans (h4 p hp).symm
    rw [ha, hb] at h5
    rw [ha, hb]
    cases a <;> cases b <;> simp_all
  · rw [List.getElem?_eq_none (by omega), List.getElem?_eq_none (by omega)]
theorem sz9 (w : World) (a : Obj) : (w.alloc a).heap.size = w.heap.size + 1 := by simp
theorem hasNil (w : World) : BEdges.Has w (.slice none 0 0) [] := ⟨none, 0, rfl, fun j u h => by simp [BEdges.C] at h⟩
theorem four9 {w : World} {b : Nat} {x0 x1 x2 x3 : Value} {t : TypeId} (h : w.heap[b]? = some (.cells #[x0, x1, x2, x3] t (0, 0))) : w.cell? ⟨b, 0, none⟩ = some x0 ∧ w.cell? ⟨b, 1, none⟩ = some x1 ∧ w.cell? ⟨b, 2, none⟩ = some x2 ∧ w.cell? ⟨b, 3, none⟩ = some x3 := ⟨cell0_of h rfl, cell0_of h rfl, cell0_of h rfl, cell0_of h rfl⟩
set_option maxRecDepth 100000 in
set_option maxHeartbeats 4000000 in
theorem lawCuts_out (n k s : Int) (v : Value) (es : List Sy.Ed) (w : World) (hA : PAlive w) (hv : HasE w v es) (hlen : 2000 < es.length) :
    Calls Tryd.prog 3 #[sysV n k s v] w fun r w' => r = .returned (.bool true) ∧ Below w.heap.size w w' := by
  obtain ⟨ao, cap, rfl, hcap, hH⟩ := hv
  obtain ⟨L, hL⟩ : ∃ L, L = es.length := ⟨_, rfl⟩
  rw [← hL] at hcap hlen ⊢
  have HA : Hid (PAlive w) := hA
  have hb0 : ∀ o, Below w.heap.size w (w.alloc o) := fun o => (Below.refl _ _).alloc (Nat.le_refl _) _
  have HB : Hid (∀ o, Below w.heap.size w (w.alloc o)) := hb0
  unfold sysV
  have q1 : (2000 : Int) < (L : Int) := by omega
  clear hA hH hcap hb0 hL hlen
  go_enter Tryd.func3, Tryd.ntmps3
  go_wp2_with (go_at_call 7; refine Calls.mono (HA.out _ (HB.out _)) ?_; rintro r w1 ⟨rfl, hb1⟩; have hb2 := bel9 hb1 (HB.out _))
  go_ret
  exact ⟨rfl, hb2⟩
set_option maxRecDepth 100000 in
set_option maxHeartbeats 16000000 in
theorem lawCuts_in (hS : SortOk 1000000) (n k s : Int) (v : Value) (es : List Sy.Ed) (e : Addr) (w : World) (hA : PAlive w) (hE : Sent w 13 e) (hv : HasE w v es) (hlen : es.length ≤ 2000) :
    Calls Tryd.prog 3 #[sysV n k s v] w fun r w' => r = .returned (.bool true) ∧ Below w.heap.size w w' := by
  have hvs := hv
  obtain ⟨ao, cap, rfl, hcap, hH⟩ := hvs
  obtain ⟨L, hL⟩ : ∃ L, L = es.length := ⟨_, rfl⟩
  rw [← hL] at hcap hlen ⊢
  have HV : Hid (HasE w (.slice ao L cap) es ∧ L = es.length ∧ PAlive w ∧ Sent w 13 e) := (by rw [hL]; exact ⟨hv, rfl, hA, hE⟩ : HasE w (.slice ao L cap) es ∧ L = es.length ∧ PAlive w ∧ Sent w 13 e)
  obtain ⟨w1, hw1⟩ : ∃ w1, w1 = w.alloc (.cells #[.int .i64 n, .int .i64 k, .int .i64 s, .slice ao L cap] 24) := ⟨_, rfl⟩
  have hb1 : Below w.heap.size w w1 := by rw [hw1]; exact (Below.refl _ _).alloc (Nat.le_refl _) _
  have hg1 : w1.heap[w.heap.size]? = some (.cells #[.int .i64 n, .int .i64 k, .int .i64 s, .slice ao L cap] 24 (0, 0)) := by rw [hw1]; exact heap_alloc_new w _
  obtain ⟨w2, hw2⟩ : ∃ w2, w2 = w1.alloc (.cells gZ 32) := ⟨_, rfl⟩
  have hb2 : Below w1.heap.size w1 w2 := by rw [hw2]; exact (Below.refl _ _).alloc (Nat.le_refl _) _
  have hg2 : w2.heap[w.heap.size + 1]? = some (.cells gZ 32 (0, 0)) := by
    have h1 : w1.heap.size = w.heap.size + 1 := by rw [hw1]; exact sz9 _ _
    rw [← h1, hw2]; exact heap_alloc_new w1 _
  have H2 : Hid _ := And.intro hw1 (And.intro hw2 (And.intro (bel9 hb2 hb1) (And.intro (res_up9 hb2 hg1) (And.intro hg2 (cut0 (.pointer none) w2 .nil)))))
  unfold sysV
  unfold gZ at H2
  have q1 : ¬ (2000 : Int) < (L : Int) := by omega
  clear hA hE hv hH hcap hL hw1 hb1 hg1 hw2 hb2 hg2
  go_enter Tryd.func3, Tryd.ntmps3
  go_wp2_with fail
  rw [← H2.out.1, ← H2.out.2.1]
  refine Calls.mono H2.out.2.2.2.2.2 ?_
  rintro r w3 ⟨a3, rfl, hb3⟩
  obtain ⟨w4, hw4⟩ : ∃ w4, w4 = w3.alloc (.cells #[.int .i64 0, .int .i64 0, .int .i64 0, .slice none 0 0] 24) := ⟨_, rfl⟩
  have hb4 : Below w3.heap.size w3 w4 := by rw [hw4]; exact (Below.refl _ _).alloc (Nat.le_refl _) _
  have hg4 : w4.heap[w3.heap.size]? = some (.cells #[.int .i64 0, .int .i64 0, .int .i64 0, .slice none 0 0] 24 (0, 0)) := by rw [hw4]; exact heap_alloc_new w3 _
  have hb24 := bel9 hb4 hb3
  have hz4 : NoG w4 (.pointer (some ⟨w.heap.size + 1, 0, none⟩)) := .zero _ (res_up9 hb24 H2.out.2.2.2.2.1)
  have H4 : Hid _ := And.intro hw4 (And.intro (bel9 hb24 H2.out.2.2.1) (And.intro (res_up9 hb24 H2.out.2.2.2.1) (And.intro hg4 (And.intro hz4 (cut0 _ w4 hz4)))))
  clear hb3 hw4 hb4 hg4 hb24 hz4
  go_upto_region 6 with fail
  rw [← H4.out.1]
  go_wp2_with fail
  refine Calls.mono H4.out.2.2.2.2.2 ?_
  rintro r w5 ⟨a5, rfl, hb5⟩
  obtain ⟨w6, hw6⟩ : ∃ w6, w6 = w5.alloc (.cells #[.int .i64 0, .int .i64 0, .int .i64 0, .slice none 0 0] 24) := ⟨_, rfl⟩
  have hb6 : Below w5.heap.size w5 w6 := by rw [hw6]; exact (Below.refl _ _).alloc (Nat.le_refl _) _
  have hg6 : w6.heap[w5.heap.size]? = some (.cells #[.int .i64 0, .int .i64 0, .int .i64 0, .slice none 0 0] 24 (0, 0)) := by rw [hw6]; exact heap_alloc_new w5 _
  have hb46 := bel9 hb6 hb5
  have hgA := res_up9 hb46 H4.out.2.2.2.1
  obtain ⟨c0, c1, c2, c3⟩ := four9 hgA
  obtain ⟨d0, d1, d2, d3⟩ := four9 hg6
  have hSm := fun W => sameSystem_b 0 0 0 (.slice none 0 0) (.slice none 0 0) [] W (by simp) (hasNil W) (hasNil W)
  unfold sysV at hSm
  have H6 : Hid _ := And.intro hw6 (And.intro (bel9 hb46 H4.out.2.1) (And.intro (res_up9 hb46 H4.out.2.2.1) (And.intro hg6 (And.intro (H4.out.2.2.2.2.1.below hb46) hSm))))
  clear hb5 hw6 hb6 hg6 hb46 hgA hSm
  go_upto_region 7 with fail
  rw [← H6.out.1]
  go_wp2_with fail
  refine Calls.mono (H6.out.2.2.2.2.2 _) ?_
  rintro r w7 ⟨rfl, hb7⟩
  obtain ⟨d0, d1, d2, d3⟩ := four9 (res_up9 hb7 H6.out.2.2.2.1)
  have H7 : Hid _ := And.intro (bel9 hb7 H6.out.2.1) (And.intro (res_up9 hb7 H6.out.2.2.1) (H6.out.2.2.2.2.1.below hb7))
  clear hb7 c0 c1 c2 c3
  go_wp2_with fail
  refine Calls.mono (H6.out.2.2.2.2.2 _) ?_
  rintro r w8 ⟨rfl, hb8⟩
  have H8 : Hid _ := And.intro (bel9 hb8 H7.out.1) (And.intro (res_up9 hb8 H7.out.2.1) (H7.out.2.2.below hb8))
  obtain ⟨s0, s1, s2, s3⟩ := four9 H8.out.2.1
  clear hb8 d0 d1 d2 d3
  go_wp2_with fail
  refine Calls.mono (states0 _ w8 .nil) ?_
  rintro r wz ⟨rfl, hwz⟩
  obtain rfl := hwz.symm
  clear hwz
  go_wp2_with fail
  refine Calls.mono (states0 _ w8 H8.out.2.2) ?_
  rintro r wz ⟨rfl, hwz⟩
  obtain rfl := hwz.symm
  clear hwz
  go_wp2_with fail
  refine Calls.mono (labels0 _ w8 .nil) ?_
  rintro r wz ⟨rfl, hwz⟩
  obtain rfl := hwz.symm
  clear hwz
  go_wp2_with fail
  refine Calls.mono (degree0 _ w8 H8.out.2.2) ?_
  rintro r wz ⟨rfl, hwz⟩
  obtain rfl := hwz.symm
  clear hwz
  go_wp2_with fail
  refine Calls.mono (reach0 _ w8 .nil) ?_
  rintro r wz ⟨rfl, hwz⟩
  obtain rfl := hwz.symm
  clear hwz
  go_wp2_with fail
  refine Calls.mono (edges0 _ w8 H8.out.2.2) ?_
  rintro r wz ⟨rfl, hwz⟩
  obtain rfl := hwz.symm
  clear hwz
  go_wp2_with fail
  refine Calls.mono (out0 0 w8) ?_
  rintro r wz ⟨rfl, hwz⟩
  obtain rfl := hwz.symm
  clear hwz
  have hE8 : BEdges.Has w8 (.slice ao L cap) es := by obtain ⟨_, _, _, _, hh⟩ := HV.out.1; exact hh.below H8.out.1
  cases hq : Sy.right n k s es with
  | false =>
    have HN : Hid _ := new_bad hS n k s (.slice ao L cap) es e w8 (HV.out.2.2.2.below H8.out.1) hE8 (by have := HV.out.2.1; omega) (by have := HV.out.2.1; omega) hq
    unfold sysV at HN
    go_wp2_with fail
    refine Calls.mono HN.out ?_
    rintro r w9 ⟨x, rfl, hC, hb9⟩
    obtain ⟨bx, ux, hx1, _, _⟩ := hC
    subst hx1
    have H9 : Hid _ := And.intro (bel9 hb9 H8.out.1) (res_up9 hb9 H8.out.2.1)
    have hN := Tryd.eqN
    clear hb9 s0 s1 s2 s3
    go_wp2_with fail
    refine Calls.mono (HV.out.2.2.1 _ H9.out.1) ?_
    rintro r w10 ⟨rfl, hb10⟩
    have hb010 := bel9 hb10 H9.out.1
    obtain ⟨s0, s1, s2, s3⟩ := four9 (res_up9 hb10 H9.out.2)
    have hRt := right_any n k s (.slice ao L cap) es w10 (by obtain ⟨_, _, _, _, hh⟩ := HV.out.1; exact hh.below hb010)
    rw [hq] at hRt
    unfold sysV at hRt
    have H10 : Hid _ := And.intro hRt hb010
    clear hb10 hb010 hRt
    go_wp2_with fail
    refine Calls.mono H10.out.1 ?_
    rintro r w11 ⟨rfl, hb11⟩
    have H11 : Hid _ := bel9 hb11 H10.out.2
    clear hb11
    go_wp2_with fail
    go_ret
    exact ⟨rfl, H11.out⟩
  | true =>
    have HN : Hid _ := new_ok hS n k s (.slice ao L cap) es e w8 (HV.out.2.2.2.below H8.out.1) hE8 (by have := HV.out.2.1; omega) (by have := HV.out.2.1; omega) hq
    unfold sysV at HN
    have hrp := right_parts hq
    go_wp2_with fail
    refine Calls.mono HN.out ?_
    rintro r w9 ⟨g, bs, bb, cs, cb, m, rfl, rfl, hG9, hb9⟩
    have H9 : Hid _ := And.intro (bel9 hb9 H8.out.1) (And.intro (res_up9 hb9 H8.out.2.1) (cut_any w9 hG9))
    have HR : Hid _ := hrp
    clear hb9 s0 s1 s2 s3 hG9 hrp
    unfold sysV at H9
    go_wp2_with fail
    refine Calls.mono H9.out.2.2 ?_
    rintro r w10 ⟨ms, u, va, rfl, hml, hms, hOu, hOv, hb10⟩
    obtain ⟨au, cu, hu⟩ := row_shape hOu
    obtain ⟨av, cv, hv'⟩ := row_shape hOv
    obtain ⟨P, hP⟩ : ∃ P, P = (Sy.cutE ms (Sy.nf es)).length := ⟨_, rfl⟩
    obtain ⟨Q, hQ⟩ : ∃ Q, Q = (Sy.ranks ms).length := ⟨_, rfl⟩
    rw [← hP] at hu
    rw [← hQ] at hv'
    subst hu
    subst hv'
    obtain ⟨ct, hct⟩ : ∃ ct : Nat, ct = ms.count true := ⟨_, rfl⟩
    obtain ⟨st, hst⟩ : ∃ st, st = Sy.startOf m ms s := ⟨_, rfl⟩
    rw [← hct, ← hst]
    obtain ⟨w11, hw11⟩ : ∃ w11, w11 = w10.alloc (.cells #[.int .i64 ct, .int .i64 k, .int .i64 st, .slice au P cu] 24) := ⟨_, rfl⟩
    have hb11 : Below w10.heap.size w10 w11 := by rw [hw11]; exact (Below.refl _ _).alloc (Nat.le_refl _) _
    have hg11 : w11.heap[w10.heap.size]? = some (.cells #[.int .i64 ct, .int .i64 k, .int .i64 st, .slice au P cu] 24 (0, 0)) := by rw [hw11]; exact heap_alloc_new w10 _
    have hb911 := bel9 hb11 hb10
    have hb011 := bel9 hb911 H9.out.1
    obtain ⟨s0, s1, s2, s3⟩ := four9 (res_up9 hb911 H9.out.2.1)
    have hRc := refCut_any m k s (.slice ao L cap) es w11 (by have := HR.out.1; omega) (HV.out.1.below hb011) (by have := HV.out.2.1; omega) (fun x hx => by have := HR.out.2.2.2.2.2 x hx; omega) (fun h0 => by have := HR.out.2.2.2.2.1 (by omega); omega)
    unfold sysV at hRc
    have H11 : Hid _ := And.intro hw11 (And.intro hb011 (And.intro hg11 (And.intro (BEdges.Own.has (trow_at (w' := w11) hOu fun b e => hb11.block b (hOu.lt b e).2)) (And.intro (OwnI.has (trow_at (w' := w11) hOv fun b e => hb11.block b (hOv.lt b e).2)) (And.intro hRc (And.intro hml (And.intro hms (And.intro hct (And.intro hst (And.intro hP hQ))))))))))
    clear hw11 hb11 hg11 hb911 hb011 hOu hOv hRc hml hms hct hst hb10 hP hQ
    go_upto_region 13 with fail
    rw [← H11.out.1]
    go_wp2_with fail
    refine Calls.mono H11.out.2.2.2.2.2.1 ?_
    rintro r w12 ⟨bs2, u2, va2, rfl, hml2, hms2, hOu2, hOv2, hb12⟩
    obtain rfl := marks_same H11.out.2.2.2.2.2.2.1 H11.out.2.2.2.2.2.2.2.1 hml2 hms2
    obtain ⟨au2, cu2, hu2⟩ := row_shape hOu2
    obtain ⟨av2, cv2, hv2⟩ := row_shape hOv2
    rw [← H11.out.2.2.2.2.2.2.2.2.2.2.1] at hu2
    rw [← H11.out.2.2.2.2.2.2.2.2.2.2.2] at hv2
    subst hu2
    subst hv2
    rw [← H11.out.2.2.2.2.2.2.2.2.1, ← H11.out.2.2.2.2.2.2.2.2.2.1]
    obtain ⟨w13, hw13⟩ : ∃ w13, w13 = w12.alloc (.cells #[.int .i64 ct, .int .i64 k, .int .i64 st, .slice au2 P cu2] 24) := ⟨_, rfl⟩
    have hb13 : Below w12.heap.size w12 w13 := by rw [hw13]; exact (Below.refl _ _).alloc (Nat.le_refl _) _
    have hg13 : w13.heap[w12.heap.size]? = some (.cells #[.int .i64 ct, .int .i64 k, .int .i64 st, .slice au2 P cu2] 24 (0, 0)) := by rw [hw13]; exact heap_alloc_new w12 _
    have hb1113 := bel9 hb13 hb12
    have H13 : Hid _ := And.intro hw13 (And.intro (bel9 hb1113 H11.out.2.1) (And.intro (res_up9 hb1113 H11.out.2.2.1) (And.intro hg13 (And.intro (H11.out.2.2.2.1.below hb1113) (And.intro (H11.out.2.2.2.2.1.below hb1113) (And.intro ((BEdges.Own.has hOu2).below hb13) ((OwnI.has hOv2).below hb13)))))))
    clear hw13 hb13 hg13 hb1113 hb12 hOu2 hOv2 hml2 hms2 s0 s1 s2 s3
    go_upto_region 14 with fail
    rw [← H13.out.1]
    go_wp2_with fail
    refine Calls.mono (HV.out.2.2.1 _ H13.out.2.1) ?_
    rintro r w14 ⟨rfl, hb14⟩
    obtain ⟨c0, c1, c2, c3⟩ := four9 (res_up9 hb14 H13.out.2.2.1)
    obtain ⟨d0, d1, d2, d3⟩ := four9 (res_up9 hb14 H13.out.2.2.2.1)
    have hPL : P ≤ 100000 := by
      have h1 := Sy.cutE_len bs2 (Sy.nf es)
      have h2 := Sy.nf_len es
      have h3 := HV.out.2.1
      have h4 := H11.out.2.2.2.2.2.2.2.2.2.2.1
      omega
    have hQL : Q ≤ 100000 := by
      have h4 := H11.out.2.2.2.2.2.2.2.2.2.2.2
      have h5 := H11.out.2.2.2.2.2.2.1
      rw [Sy.ranks_len] at h4
      have := HR.out.1
      omega
    have hSm := sameSystem_b ct k st (.slice au P cu) (.slice au2 P cu2) (Sy.cutE bs2 (Sy.nf es)) w14 (by have := H11.out.2.2.2.2.2.2.2.2.2.2.1; omega) (H13.out.2.2.2.2.1.below hb14) (H13.out.2.2.2.2.2.2.1.below hb14)
    unfold sysV at hSm
    have H14 : Hid _ := And.intro hSm (And.intro (bel9 hb14 H13.out.2.1) (And.intro (H13.out.2.2.2.2.2.1.below hb14) (H13.out.2.2.2.2.2.2.2.below hb14)))
    clear hSm hb14
    go_wp2_with fail
    refine Calls.mono H14.out.1 ?_
    rintro r w15 ⟨rfl, hb15⟩
    have hSi := sameInts_any (.slice av Q cv) (.slice av2 Q cv2) (Sy.ranks bs2) w15 (by have := H11.out.2.2.2.2.2.2.2.2.2.2.2; omega) (H14.out.2.2.1.below hb15) (H14.out.2.2.2.below hb15)
    have H15 : Hid _ := And.intro hSi (bel9 hb15 H14.out.2.1)
    clear hSi hb15 c0 c1 c2 c3 d0 d1 d2 d3
    go_wp2_with fail
    refine Calls.mono H15.out.1 ?_
    rintro r w16 ⟨rfl, hb16⟩
    have H16 : Hid _ := bel9 hb16 H15.out.2
    clear hb16
    go_wp2_with fail
    go_ret
    exact ⟨rfl, H16.out⟩
theorem lawCuts_any (hS : SortOk 1000000) (n k s : Int) (v : Value) (es : List Sy.Ed) (e : Addr) (w : World) (hA : PAlive w) (hE : Sent w 13 e) (hv : HasE w v es) :
    Calls Tryd.prog 3 #[sysV n k s v] w fun r w' => r = .returned (.bool true) ∧ Below w.heap.size w w' := by
  by_cases h : 2000 < es.length
  · exact lawCuts_out n k s v es w hA hv h
  · exact lawCuts_in hS n k s v es e w hA hE hv (by omega)
end Go.Proofs.YtmfcfiiggmkbpaaDoor
/- Contracts of slices' order2, median, medianAdjacent and choosePivot of edges by a view's comparison. (Written by mkpiv.py.) -/
namespace Go.Proofs.YtmfcfiiggmkbpaaDoor
open Go.RowKit Go.Maps
attribute [local go_sem ↓] Go.wp_at_zero Go.wp_at_succ
/-- The row, and a counter in a block of its own. -/
structure CnE (w0 wr : World) (g : Nat) (d : Array Sy.Ed) (rest : List Value) (c s : Nat) : Prop where
  row : RowE w0 wr g d rest
  cell : wr.heap[c]? = some (.cells #[.int .i64 s] 3 (0, 0))
  up : w0.heap.size ≤ c
theorem CnE.below {w0 wr w' : World} {g : Nat} {d : Array Sy.Ed} {rest : List Value} {c s : Nat} (h : CnE w0 wr g d rest c s) (hb : Below wr.heap.size wr w') : CnE w0 w' g d rest c s := ⟨h.row.below hb, (hb.block _ (t_lt h.cell)).trans h.cell, h.up⟩
theorem CnE.bump {w0 wr : World} {g : Nat} {d : Array Sy.Ed} {rest : List Value} {c s : Nat} (h : CnE w0 wr g d rest c s) (t : Nat) : CnE w0 (wr.setCell ⟨c, 0, none⟩ (.int .i64 t)) g d rest c t := by
  have hne : c ≠ g := fun e => by
    obtain ⟨cs, hc, _⟩ := h.row.ids
    have h1 := h.cell
    rw [e, hc] at h1
    injection h1 with h1
    injection h1 with _ h1
    exact absurd h1 (by decide)
  exact ⟨Arr.kept h.row (Kept.setCell _ _ _ _) fun b e => by subst e; exact ⟨h.up, hne⟩, heap_setCell_same _ _ 0 _ _ _ h.cell, h.up⟩
set_option maxRecDepth 100000 in
set_option maxHeartbeats 4000000 in
theorem order2_any (f : Nat) (vw : Sy.Ed → Sy.Ed) (hV : ViewAt f vw) (g cap a b c0 s : Nat) (d : Array Sy.Ed) (rest : List Value) (w0 w : World) (hR : CnE w0 w g d rest c0 s) (ha : a < d.size) (hb : b < d.size) (hs : s ≤ 1000000) :
    Calls Tryd.prog 88 #[.slice (some ⟨g, 0, none⟩) d.size cap, .int .i64 a, .int .i64 b, .pointer (some ⟨c0, 0, none⟩), cmpV f] w fun r w' => r = .returned (.tuple #[.int .i64 (Sort.order2 (ltV vw) d a b s).1, .int .i64 (Sort.order2 (ltV vw) d a b s).2.1]) ∧ CnE w0 w' g d rest c0 (Sort.order2 (ltV vw) d a b s).2.2 := by
  obtain ⟨n, hn⟩ : ∃ n, n = d.size := ⟨_, rfl⟩
  have HR : Hid _ := And.intro hR (And.intro hn hV)
  rw [← hn] at ha hb ⊢
  unfold cmpV Sort.order2
  have he := enter_cmp
  obtain ⟨x0, x1, x2⟩ := hR.row.cells (j := b) (by omega)
  obtain ⟨y0, y1, y2⟩ := hR.row.cells (j := a) (by omega)
  have hcm := fun W => compare_any f vw HR.out.2.2 (d[b]!) (d[a]!) W
  unfold edV at hcm
  have hlt2 := cmpV_neg vw (d[b]!) (d[a]!)
  obtain ⟨xe, hxe⟩ : ∃ xe, xe = d[b]! := ⟨_, rfl⟩
  obtain ⟨ye, hye⟩ : ∃ ye, ye = d[a]! := ⟨_, rfl⟩
  rw [← hxe] at x0 x1 x2 hcm hlt2
  rw [← hye] at y0 y1 y2 hcm hlt2
  have HE : Hid _ := And.intro hxe hye
  clear hxe hye
  obtain ⟨xa, xb, xc⟩ := xe
  obtain ⟨ya, yb, yc⟩ := ye
  generalize cmpE (vw (xa, xb, xc)) (vw (ya, yb, yc)) = c at hcm hlt2
  have HC : Hid _ := hcm
  have HL : Hid _ := hlt2
  clear hcm hlt2
  simp only at x0 x1 x2 y0 y1 y2
  clear hR hn hV
  have p0 : (0 : Int) ≤ (b : Int) := by omega
  have p1 : (b : Int) < (n : Int) := by omega
  have p2 : (0 : Int) ≤ (a : Int) := by omega
  have p3 : (a : Int) < (n : Int) := by omega
  by_cases hc : c < 0
  · have p6 : decide (c < 0) = true := decide_eq_true hc
    rw [if_pos (by rw [← HE.out.1, ← HE.out.2]; exact HL.out.1 hc)]
    go_enter Tryd.func88, Tryd.ntmps88
    go_upto_region 1 with fail
    go_region_held3 (fun w' => ((w'.cell? ⟨g, b * 3, none⟩ = some (.int .i64 xa) ∧ w'.cell? ⟨g, b * 3 + 1, none⟩ = some (.int .i64 xb) ∧ w'.cell? ⟨g, b * 3 + 2, none⟩ = some (.int .i64 xc)) ∧ (w'.cell? ⟨g, a * 3, none⟩ = some (.int .i64 ya) ∧ w'.cell? ⟨g, a * 3 + 1, none⟩ = some (.int .i64 yb) ∧ w'.cell? ⟨g, a * 3 + 2, none⟩ = some (.int .i64 yc))) ∧ Hid (Below w.heap.size w w')) (first | exact rg_up6 hb3 (by assumption) | exact ⟨⟨⟨x0, x1, x2⟩, ⟨y0, y1, y2⟩⟩, ((Below.refl _ _).drew : Below w.heap.size w w.drew)⟩ | go_keep)
      ((first
        | (go_at_fn 44; refine (HC.out _).mono ?_; rintro r w3 ⟨rfl, hb3⟩)
        | fail))
    have hbq : Below w.heap.size w w3 := rg_b (by assumption)
    clear x0 x1 x2 y0 y1 y2 hb3 HC
    rename_i hS3
    clear hS3
    have hR3 := HR.out.1.below hbq
    have k0 : w3.cell? ⟨c0, 0, none⟩ = some (.int .i64 s) := cell0_of hR3.cell rfl
    have k1 := blk_free hR3.cell 0
    have p8 : IntKind.i64.wrap ((s : Int) + 1) = (s : Int) + 1 := by rw [IntKind.wrap_i64]; omega
    have H3 : Hid _ := hR3
    clear hR3 hbq
    go_wp2_with fail
    go_ret2
    exact ⟨rfl, H3.out.bump (s + 1)⟩
  · have p6 : decide (c < 0) = false := decide_eq_false hc
    rw [if_neg (by rw [← HE.out.1, ← HE.out.2]; intro h; exact hc (HL.out.2 h))]
    go_enter Tryd.func88, Tryd.ntmps88
    go_upto_region 1 with fail
    go_region_held3 (fun w' => ((w'.cell? ⟨g, b * 3, none⟩ = some (.int .i64 xa) ∧ w'.cell? ⟨g, b * 3 + 1, none⟩ = some (.int .i64 xb) ∧ w'.cell? ⟨g, b * 3 + 2, none⟩ = some (.int .i64 xc)) ∧ (w'.cell? ⟨g, a * 3, none⟩ = some (.int .i64 ya) ∧ w'.cell? ⟨g, a * 3 + 1, none⟩ = some (.int .i64 yb) ∧ w'.cell? ⟨g, a * 3 + 2, none⟩ = some (.int .i64 yc))) ∧ Hid (Below w.heap.size w w')) (first | exact rg_up6 hb3 (by assumption) | exact ⟨⟨⟨x0, x1, x2⟩, ⟨y0, y1, y2⟩⟩, ((Below.refl _ _).drew : Below w.heap.size w w.drew)⟩ | go_keep)
      ((first
        | (go_at_fn 44; refine (HC.out _).mono ?_; rintro r w3 ⟨rfl, hb3⟩)
        | fail))
    have hbq : Below w.heap.size w w3 := rg_b (by assumption)
    clear x0 x1 x2 y0 y1 y2 hb3 HC
    rename_i hS3
    clear hS3
    have H3 : Hid _ := HR.out.1.below hbq
    clear hbq
    go_wp2_with fail
    go_ret2
    exact ⟨rfl, H3.out⟩
theorem o2_lt {lt : Sy.Ed → Sy.Ed → Bool} {d : Array Sy.Ed} {a b s n : Nat} (ha : a < n) (hb : b < n) : (Sort.order2 lt d a b s).1 < n ∧ (Sort.order2 lt d a b s).2.1 < n ∧ (Sort.order2 lt d a b s).2.2 ≤ s + 1 := by
  unfold Sort.order2
  split <;> simp [ha, hb]
set_option maxRecDepth 100000 in
set_option maxHeartbeats 4000000 in
theorem median_any (f : Nat) (vw : Sy.Ed → Sy.Ed) (hV : ViewAt f vw) (g cap a b c c0 s : Nat) (d : Array Sy.Ed) (rest : List Value) (w0 w : World) (hR : CnE w0 w g d rest c0 s) (ha : a < d.size) (hb : b < d.size) (hc : c < d.size) (hs : s + 3 ≤ 1000000) :
    Calls Tryd.prog 87 #[.slice (some ⟨g, 0, none⟩) d.size cap, .int .i64 a, .int .i64 b, .int .i64 c, .pointer (some ⟨c0, 0, none⟩), cmpV f] w fun r w' => r = .returned (.int .i64 (Sort.median (ltV vw) d a b c s).1) ∧ CnE w0 w' g d rest c0 (Sort.median (ltV vw) d a b c s).2 := by
  have h1 := order2_any f vw hV g cap a b c0 s d rest w0 w hR ha hb (by omega)
  obtain ⟨l1, l2, l3⟩ := o2_lt (lt := ltV vw) (d := d) (s := s) ha hb
  unfold Sort.median
  generalize Sort.order2 (ltV vw) d a b s = r1 at h1 l1 l2 l3 ⊢
  obtain ⟨a1, b1, s1⟩ := r1
  simp only at h1 l1 l2 l3 ⊢
  have h2 := fun W (h : CnE w0 W g d rest c0 s1) => order2_any f vw hV g cap b1 c c0 s1 d rest w0 W h l2 hc (by omega)
  obtain ⟨l4, l5, l6⟩ := o2_lt (lt := ltV vw) (d := d) (s := s1) l2 hc
  generalize Sort.order2 (ltV vw) d b1 c s1 = r2 at h2 l4 l5 l6 ⊢
  obtain ⟨b2, c2, s2⟩ := r2
  simp only at h2 l4 l5 l6 ⊢
  have h3 := fun W (h : CnE w0 W g d rest c0 s2) => order2_any f vw hV g cap a1 b2 c0 s2 d rest w0 W h l1 l4 (by omega)
  generalize Sort.order2 (ltV vw) d a1 b2 s2 = r3 at h3 ⊢
  obtain ⟨a3, b3, s3⟩ := r3
  simp only at h3 ⊢
  have HH : Hid _ := And.intro h1 (And.intro h2 h3)
  unfold cmpV at HH ⊢
  clear h1 h2 h3 hR hV l1 l2 l3 l4 l5 l6
  go_enter Tryd.func87, Tryd.ntmps87
  go_wp2_with fail
  refine Calls.mono HH.out.1 ?_
  rintro r w1 ⟨rfl, hR1⟩
  go_wp2_with fail
  refine Calls.mono (HH.out.2.1 _ hR1) ?_
  rintro r w2 ⟨rfl, hR2⟩
  go_wp2_with fail
  refine Calls.mono (HH.out.2.2 _ hR2) ?_
  rintro r w3 ⟨rfl, hR3⟩
  go_wp2_with fail
  go_ret
  exact ⟨rfl, hR3⟩
set_option maxRecDepth 100000 in
set_option maxHeartbeats 4000000 in
theorem medianAdj_any (f : Nat) (vw : Sy.Ed → Sy.Ed) (hV : ViewAt f vw) (g cap a c0 s : Nat) (d : Array Sy.Ed) (rest : List Value) (w0 w : World) (hR : CnE w0 w g d rest c0 s) (ha : 1 ≤ a) (hb : a + 1 < d.size) (hsz : d.size ≤ 1000000) (hs : s + 3 ≤ 1000000) :
    Calls Tryd.prog 86 #[.slice (some ⟨g, 0, none⟩) d.size cap, .int .i64 a, .pointer (some ⟨c0, 0, none⟩), cmpV f] w fun r w' => r = .returned (.int .i64 (Sort.medianAdjacent (ltV vw) d a s).1) ∧ CnE w0 w' g d rest c0 (Sort.medianAdjacent (ltV vw) d a s).2 := by
  obtain ⟨p, rfl⟩ : ∃ p, a = p + 1 := ⟨a - 1, by omega⟩
  have h1 := median_any f vw hV g cap p (p + 1) (p + 1 + 1) c0 s d rest w0 w hR (by omega) (by omega) (by omega) hs
  unfold Sort.medianAdjacent
  rw [Nat.add_sub_cancel]
  generalize Sort.median (ltV vw) d p (p + 1) (p + 1 + 1) s = r1 at h1 ⊢
  obtain ⟨m1, s1⟩ := r1
  have e1 : IntKind.i64.wrap (((p + 1 : Nat) : Int) - 1) = (p : Int) := by rw [IntKind.wrap_i64]; omega
  have e2 : IntKind.i64.wrap (((p + 1 : Nat) : Int) + 1) = ((p + 1 + 1 : Nat) : Int) := by rw [IntKind.wrap_i64]; omega
  have HH : Hid _ := h1
  unfold cmpV at HH ⊢
  clear h1 hR hV
  go_enter Tryd.func86, Tryd.ntmps86
  go_wp2_with fail
  have HH2 := HH.out
  simp only [Int.natCast_add, Int.natCast_one] at HH2 ⊢
  refine Calls.mono HH2 ?_
  rintro r w1 ⟨rfl, hR1⟩
  go_wp2_with fail
  go_ret
  exact ⟨rfl, hR1⟩
end Go.Proofs.YtmfcfiiggmkbpaaDoor
