/- Texts of this claim, joined: SyNew, SyAlive, SyTurn0. -/
import Derived.Test.YtmfcfiiggmkbpaaDoorPart8
import Derived.Test.YtmfcfiiggmkbpaaDoorPart9
import Derived.Test.YtmfcfiiggmkbpaaDoorPart6
/- Contract of the program's New: a graph of the system's one form. -/
namespace Go.Proofs.YtmfcfiiggmkbpaaDoor
open Go.RowKit Go.Maps
attribute [local go_sem ↓] Go.wp_at_zero Go.wp_at_succ
/-- In the order of the ends, each once: the one form of the edges turned round. -/
theorem inOrder_turn {es os : List Sy.Ed} (h : InOrder Sy.turn (Sy.nf es) os) : os.map Sy.turn = Sy.nf ((Sy.nf es).map Sy.turn) := by
  refine Sy.nf_of ?_ fun x => ?_
  · have hnd : os.Nodup := by
      rw [h.1.nodup_iff]
      have hs := Sy.nf_str es
      generalize Sy.nf es = l at hs
      induction l with
      | nil => exact List.nodup_nil
      | cons a r ih =>
        refine List.nodup_cons.2 ⟨fun ha => ?_, ih hs.tail⟩
        have h1 := hs.head a ha
        rw [Sy.lt_irrefl] at h1
        cases h1
    have hp := h.2
    clear h
    induction os with
    | nil => trivial
    | cons a r ih =>
      obtain ⟨h1, h2⟩ := List.pairwise_cons.1 hp
      obtain ⟨h3, h4⟩ := List.nodup_cons.1 hnd
      rw [List.map_cons]
      refine Sy.Str.cons (ih h4 h2) fun x hx => ?_
      obtain ⟨b, hb, rfl⟩ := List.mem_map.1 hx
      have h5 := h1 b hb
      cases h6 : Sy.lt (Sy.turn a) (Sy.turn b) with
      | true => rfl
      | false =>
        have h7 := congrArg Sy.turn (Sy.eq_of_not h6 h5)
        rw [turn_turn, turn_turn] at h7
        rw [h7] at h3
        exact absurd hb h3
  · rw [List.mem_map, List.mem_map]
    constructor
    · rintro ⟨a, ha, rfl⟩; exact ⟨a, h.1.mem_iff.1 ha, rfl⟩
    · rintro ⟨a, ha, rfl⟩; exact ⟨a, h.1.mem_iff.2 ha, rfl⟩
theorem rg_up4' {w2 wa wb : World} {a0 a1 a2 a3 : Addr} {x0 x1 x2 x3 : Value} (h : (wa.cell? a0 = some x0 ∧ wa.cell? a1 = some x1 ∧ wa.cell? a2 = some x2 ∧ wa.cell? a3 = some x3) ∧ Hid (Below w2.heap.size w2 wa)) (hb : Below wa.heap.size wa wb) : (wb.cell? a0 = some x0 ∧ wb.cell? a1 = some x1 ∧ wb.cell? a2 = some x2 ∧ wb.cell? a3 = some x3) ∧ Hid (Below w2.heap.size w2 wb) := rg_up4 hb h
/-- What New answers. -/
def NewAt (a : Addr) (n k s : Int) (es : List Sy.Ed) (w : World) (r : Ending) (w' : World) : Prop :=
  if Sy.right n k s es = true then ∃ (g bs bb cs cb m : Nat), n = (m : Int) ∧ r = .returned (.tuple #[.pointer (some ⟨g, 0, none⟩), .nilIface]) ∧ Gr w' w.heap.size g bs bb cs cb m k s es ∧ Below w.heap.size w w'
  else ∃ x, r = .returned (.tuple #[.pointer none, x]) ∧ Chain w' 0 0 a [sysB] x ∧ Below w.heap.size w w'
set_option maxRecDepth 100000 in
set_option maxHeartbeats 8000000 in
theorem new_any {M : Nat} (hS : SortOk M) (n k s : Int) (v : Value) (es : List Sy.Ed) (a : Addr) (w : World) (hA : Sent w 13 a) (hv : BEdges.Has w v es) (hM : es.length ≤ M) (hm : es.length ≤ 100000) :
    Calls Tryd.prog 16 #[sysV n k s v] w (NewAt a n k s es w) := by
  obtain ⟨w1, hw1⟩ : ∃ w1, w1 = w.alloc (.cells #[.int .i64 n, .int .i64 k, .int .i64 s, v] 24) := ⟨_, rfl⟩
  have hb1 : Below w.heap.size w w1 := by rw [hw1]; exact (Below.refl _ _).alloc (Nat.le_refl _) _
  have hg1 : w1.heap[w.heap.size]? = some (.cells #[.int .i64 n, .int .i64 k, .int .i64 s, v] 24 (0, 0)) := by rw [hw1]; exact heap_alloc_new w _
  have hN := normal_any hS n k s v es a w1 (hA.below hb1) (hv.below hb1) hM (by omega)
  obtain ⟨ao, cap, rfl, _⟩ := hv
  obtain ⟨m0, hm0⟩ : ∃ m0, m0 = es.length := ⟨_, rfl⟩
  rw [← hm0] at hN hg1 hw1 ⊢
  unfold sysV at hN ⊢
  have H1 : Hid _ := And.intro hN (And.intro hb1 (And.intro hg1 (And.intro hw1 hS)))
  have HM : Hid _ := And.intro hM hm
  cases hq : Sy.right n k s es with
  | false =>
    rw [hq] at H1
    unfold NewAt
    rw [hq]
    clear hN hb1 hg1 hw1 hS hA hq hm0 hM hm
    go_enter Tryd.func16, Tryd.ntmps16
    go_wp2_with fail
    rw [← H1.out.2.2.2.1]
    refine Calls.mono H1.out.1 ?_
    rintro r w2 ⟨x, u, rfl, hx, _, hb2⟩
    have hch : Chain w2 0 0 a [sysB] x := by simpa [SErr] using hx
    obtain ⟨T, y, rfl⟩ := hch.iface
    have hg2 := (hb2.block _ (t_lt H1.out.2.2.1)).trans H1.out.2.2.1
    obtain ⟨y0, y1, y2, y3⟩ := four_cells hg2
    have z0 := blk_free hg2 0
    have z1 := blk_free hg2 1
    have z2 := blk_free hg2 2
    have z3 := blk_free hg2 3
    have hbw := H1.out.2.1.trans (hb2.mono H1.out.2.1.size)
    have H2 : Hid _ := And.intro hch (And.intro hbw hg2)
    clear hb2 hg2 hbw hch hx
    go_wp2_with fail
    have hbf := four_below H2.out.2.1 (b := w.heap.size) (Nat.le_refl _) (.int .i64 0) (.int .i64 0) (.int .i64 0) (.slice none 0 0)
    have hcf := chain_st4 H2.out.1 H2.out.2.2 (.int .i64 0) (.int .i64 0) (.int .i64 0) (.slice none 0 0)
    unfold st4 at hcf
    go_ret2
    exact ⟨_, rfl, hcf, hbf⟩
  | true =>
    rw [hq] at H1
    have hrp := right_parts hq
    obtain ⟨q, rfl⟩ : ∃ q : Nat, n = (q : Int) := ⟨n.toNat, by omega⟩
    have HQ : Hid _ := And.intro hq hrp
    unfold NewAt
    rw [hq]
    clear hN hb1 hg1 hw1 hS hA hq hm0 hM hm hrp
    go_enter Tryd.func16, Tryd.ntmps16
    go_wp2_with fail
    rw [← H1.out.2.2.2.1]
    refine Calls.mono H1.out.1 ?_
    rintro r w2 ⟨x, u, rfl, hx, hO, hb2⟩
    have hO := hO trivial
    obtain rfl : x = .nilIface := by simpa [SErr] using hx
    obtain ⟨au, cu, rfl⟩ := row_shape hO
    have hg2 := (hb2.block _ (t_lt H1.out.2.2.1)).trans H1.out.2.2.1
    obtain ⟨y0, y1, y2, y3⟩ := four_cells hg2
    have z0 := blk_free hg2 0
    have z1 := blk_free hg2 1
    have z2 := blk_free hg2 2
    have z3 := blk_free hg2 3
    have hbw := H1.out.2.1.trans (hb2.mono H1.out.2.1.size)
    obtain ⟨L, hL⟩ : ∃ L, L = (Sy.nf es).length := ⟨_, rfl⟩
    obtain ⟨w3, hw3⟩ : ∃ w3, w3 = (((w2.setCell ⟨w.heap.size, 0, none⟩ (.int .i64 q)).setCell ⟨w.heap.size, 1, none⟩ (.int .i64 k)).setCell ⟨w.heap.size, 2, none⟩ (.int .i64 s)).setCell ⟨w.heap.size, 3, none⟩ (.slice au L cu) := ⟨_, rfl⟩
    rw [← hL]
    have hg3 : w3.heap[w.heap.size]? = some (.cells #[.int .i64 q, .int .i64 k, .int .i64 s, .slice au L cu] 24 (0, 0)) := by rw [hw3]; exact four_set hg2
    have hb3 : Below w.heap.size w w3 := by rw [hw3]; exact four_below hbw (Nat.le_refl _) _ _ _ _
    have hO3 : BEdges.Own w3 w.heap.size (.slice au (Sy.nf es).length cu) (Sy.nf es) := by
      rw [hw3]
      refine row_base (trow_at hO fun b hb => ?_) H1.out.2.1.size
      have n1 : b ≠ w.heap.size := fun e => own_bk hO hg2 (by decide) (e ▸ hb)
      rw [set_other _ _ _ _ _ n1, set_other _ _ _ _ _ n1, set_other _ _ _ _ _ n1, set_other _ _ _ _ _ n1]
    have H3 : Hid _ := And.intro hb3 (And.intro hO3 (And.intro hg3 (And.intro hw3 hL)))
    clear hO hb2 hg2 hbw hx hg3 hb3 hO3 hw3 hL
    have hle : L ≤ 10000 := by have := HQ.out.2.2.2.1; have := Sy.nf_len es; have := H3.out.2.2.2.2; omega
    have hqn : q ≤ 1000 := by have := HQ.out.2.1; omega
    have hnr : ∀ e ∈ Sy.nf es, 0 ≤ e.1 ∧ e.1 < (q : Int) ∧ 0 ≤ e.2.2 ∧ e.2.2 < (q : Int) := fun e he => by
      have := HQ.out.2.2.2.2.2.2 e ((Sy.nf_mem es e).1 he)
      exact ⟨this.1, this.2.1, this.2.2.1, this.2.2.2.1⟩
    have hTf : ∀ W, Below w3.heap.size w3 W → Calls Tryd.prog 28 #[.int .i64 q, .slice au L cu, .func (.func 29) #[] #[]] W fun r w' => ∃ bs bb, r = .returned (.agg #[.slice (some ⟨bs, 0, none⟩) L L, .slice (some ⟨bb, 0, none⟩) (q + 1) (q + 1)]) ∧ Tb w' w.heap.size bs bb q (Sy.nf es) ∧ Below W.heap.size W w' := fun W hb => by
      have hLL := H3.out.2.2.2.2
      have hOW : BEdges.Has W (.slice au (Sy.nf es).length cu) (Sy.nf es) := H3.out.2.1.has.below hb
      have h9 := tableOf_any _ _ forward_at q (.slice au (Sy.nf es).length cu) (Sy.nf es) W (by omega) (by omega) hOW (by rw [List.map_id']; exact fun e he => ⟨(hnr e he).1, (hnr e he).2.1⟩) (by rw [List.map_id']; exact nf_rows es)
      rw [List.map_id'] at h9
      rw [← hLL] at h9
      refine h9.mono fun r w' ⟨bs, bb, hr, h1, h2⟩ => ⟨bs, bb, hr, ⟨(Blk.of_arr h1).base ?_, (Blk.of_arr h2).base ?_⟩, h1.bl⟩
      · have := H3.out.1.size; have := hb.size; omega
      · have := H3.out.1.size; have := hb.size; omega
    have hOr : ∀ W, Below w3.heap.size w3 W → Calls Tryd.prog 30 #[.slice au L cu, .func (.func 31) #[] #[]] W fun r w' => ∃ u os, r = .returned u ∧ InOrder Sy.turn (Sy.nf es) os ∧ BEdges.Own w' W.heap.size u os ∧ Below W.heap.size W w' := fun W hb => by
      have hLL := H3.out.2.2.2.2
      have hOW : BEdges.Has W (.slice au (Sy.nf es).length cu) (Sy.nf es) := H3.out.2.1.has.below hb
      have h9 := ordered_any H1.out.2.2.2.2 _ _ backward_at (.slice au (Sy.nf es).length cu) (Sy.nf es) W (by have := Sy.nf_len es; have := HM.out.1; omega) (by omega) hOW
      rw [← hLL] at h9
      exact h9
    have hTb : ∀ W u os B, Below w3.heap.size w3 W → InOrder Sy.turn (Sy.nf es) os → BEdges.Own W B u os → Calls Tryd.prog 28 #[.int .i64 q, u, .func (.func 31) #[] #[]] W fun r w' => ∃ bs bb, r = .returned (.agg #[.slice (some ⟨bs, 0, none⟩) L L, .slice (some ⟨bb, 0, none⟩) (q + 1) (q + 1)]) ∧ Tb w' w.heap.size bs bb q (Sy.nf ((Sy.nf es).map Sy.turn)) ∧ Below W.heap.size W w' := fun W u os B hb hI hO => by
      have hLL := H3.out.2.2.2.2
      have hlo := hI.1.length_eq
      have het := inOrder_turn hI
      have h9 := tableOf_any _ _ backward_at q u os W (by omega) (by omega) hO.has (by
        rw [het]
        intro e he
        rw [Sy.nf_mem] at he
        obtain ⟨x, hx, rfl⟩ := List.mem_map.1 he
        exact ⟨(hnr x hx).2.2.1, (hnr x hx).2.2.2⟩) (by rw [het]; exact nf_rows _)
      rw [het, hlo, ← hLL] at h9
      refine h9.mono fun r w' ⟨bs, bb, hr, h1, h2⟩ => ⟨bs, bb, hr, ⟨(Blk.of_arr h1).base ?_, (Blk.of_arr h2).base ?_⟩, h1.bl⟩
      · have := H3.out.1.size; have := hb.size; omega
      · have := H3.out.1.size; have := hb.size; omega
    have HT : Hid _ := And.intro hTf (And.intro hOr hTb)
    clear hTf hOr hTb hnr
    go_upto_region 4 with fail
    rw [← H3.out.2.2.2.1]
    clear y0 y1 y2 y3 z0 z1 z2 z3
    obtain ⟨x0, x1, x2, x3⟩ := four_cells H3.out.2.2.1
    go_region_held3 (fun w' => (w'.cell? ⟨w.heap.size, 0, none⟩ = some (.int .i64 q) ∧ w'.cell? ⟨w.heap.size, 1, none⟩ = some (.int .i64 k) ∧ w'.cell? ⟨w.heap.size, 2, none⟩ = some (.int .i64 s) ∧ w'.cell? ⟨w.heap.size, 3, none⟩ = some (.slice au L cu)) ∧ Hid (Below w3.heap.size w3 w')) (first | exact rg_up4' (by assumption) hba | exact rg_up4' (by assumption) hbb | exact rg_up4' (by assumption) hbc | exact rg_up4' (by assumption) ((Below.refl _ _).alloc (Nat.le_refl _) _) | exact ⟨⟨x0, x1, x2, x3⟩, ((Below.refl _ _).drew : Below w3.heap.size w3 w3.drew)⟩ | go_keep)
      ((first
        | (go_at_call_of 28 (Value.slice au L cu); refine (HT.out.1 _ (rg_b (by assumption))).mono ?_; rintro r wa ⟨bs, bb, rfl, hTa, hba⟩)
        | (go_at_call 30; refine (HT.out.2.1 _ (rg_b (by assumption))).mono ?_; rintro r wb ⟨u5, os, rfl, hIo, hOb, hbb⟩)
        | (go_at_call_of 28 u5; refine (HT.out.2.2 _ _ os _ (rg_b (by assumption)) hIo (by first | exact hOb | exact trow_at hOb fun b hb => hba.block _ (hOb.lt b hb).2)).mono ?_; rintro r wc ⟨cs, cb, rfl, hTc, hbc⟩)
        | fail))
    have hal : Below wc.heap.size wc (wc.alloc (.cells #[.int .i64 q, .int .i64 k, .int .i64 s, .slice (some ⟨bs, 0, none⟩) L L, .slice (some ⟨bb, 0, none⟩) (q + 1) (q + 1), .slice (some ⟨cs, 0, none⟩) L L, .slice (some ⟨cb, 0, none⟩) (q + 1) (q + 1)] 32)) := (Below.refl _ _).alloc (Nat.le_refl _) _
    have hbx := heap_alloc_new wc (.cells #[.int .i64 q, .int .i64 k, .int .i64 s, .slice (some ⟨bs, 0, none⟩) L L, .slice (some ⟨bb, 0, none⟩) (q + 1) (q + 1), .slice (some ⟨cs, 0, none⟩) L L, .slice (some ⟨cb, 0, none⟩) (q + 1) (q + 1)] 32)
    have hba' := below_of_drew3 hba
    have hsz : w.heap.size ≤ wc.heap.size := by have := H3.out.1.size; have := hba'.size; have := hbb.size; have := hbc.size; omega
    have hbw : Below w.heap.size w (wc.alloc (.cells #[.int .i64 q, .int .i64 k, .int .i64 s, .slice (some ⟨bs, 0, none⟩) L L, .slice (some ⟨bb, 0, none⟩) (q + 1) (q + 1), .slice (some ⟨cs, 0, none⟩) L L, .slice (some ⟨cb, 0, none⟩) (q + 1) (q + 1)] 32)) :=
      (((H3.out.1.trans (hba'.mono H3.out.1.size)).trans (hbb.mono (by have := H3.out.1.size; have := hba'.size; omega))).trans (hbc.mono (by have := H3.out.1.size; have := hba'.size; have := hbb.size; omega))).trans (hal.mono hsz)
    have hGr : Gr (wc.alloc (.cells #[.int .i64 q, .int .i64 k, .int .i64 s, .slice (some ⟨bs, 0, none⟩) L L, .slice (some ⟨bb, 0, none⟩) (q + 1) (q + 1), .slice (some ⟨cs, 0, none⟩) L L, .slice (some ⟨cb, 0, none⟩) (q + 1) (q + 1)] 32)) w.heap.size wc.heap.size bs bb cs cb q k s es :=
      ⟨by rw [← H3.out.2.2.2.2]; exact hbx, hsz, ((hTa.below hbb).below hbc).below hal, hTc.below hal, HQ.out.1⟩
    have HF : Hid _ := And.intro hGr hbw
    clear hal hbx hba' hbw hGr hba hbb hbc hTa hTc hOb hIo x0 x1 x2 x3
    rename_i hS9
    clear hS9
    go_wp2_with fail
    go_ret2
    exact ⟨_, _, _, _, _, q, rfl, rfl, HF.out.1, HF.out.2⟩
theorem new_ok {M : Nat} (hS : SortOk M) (n k s : Int) (v : Value) (es : List Sy.Ed) (a : Addr) (w : World) (hA : Sent w 13 a) (hv : BEdges.Has w v es) (hM : es.length ≤ M) (hm : es.length ≤ 100000) (hq : Sy.right n k s es = true) :
    Calls Tryd.prog 16 #[sysV n k s v] w fun r w' => ∃ (g bs bb cs cb m : Nat), n = (m : Int) ∧ r = .returned (.tuple #[.pointer (some ⟨g, 0, none⟩), .nilIface]) ∧ Gr w' w.heap.size g bs bb cs cb m k s es ∧ Below w.heap.size w w' :=
  (new_any hS n k s v es a w hA hv hM hm).mono fun r w' h => by unfold NewAt at h; rw [if_pos hq] at h; exact h
theorem new_bad {M : Nat} (hS : SortOk M) (n k s : Int) (v : Value) (es : List Sy.Ed) (a : Addr) (w : World) (hA : Sent w 13 a) (hv : BEdges.Has w v es) (hM : es.length ≤ M) (hm : es.length ≤ 100000) (hq : Sy.right n k s es = false) :
    Calls Tryd.prog 16 #[sysV n k s v] w fun r w' => ∃ x, r = .returned (.tuple #[.pointer none, x]) ∧ Chain w' 0 0 a [sysB] x ∧ Below w.heap.size w w' :=
  (new_any hS n k s v es a w hA hv hM hm).mono fun r w' h => by unfold NewAt at h; rw [if_neg (by rw [hq]; simp)] at h; exact h
end Go.Proofs.YtmfcfiiggmkbpaaDoor
/- Contract of the law's alive: a first call whose answer the document fixes. -/
namespace Go.Proofs.YtmfcfiiggmkbpaaDoor
open Go.RowKit Go.Maps
attribute [local go_sem ↓] Go.wp_at_zero Go.wp_at_succ
def esA : List Sy.Ed := [(0, 1, 1), (1, 0, 0), (2, 1, 0)]
theorem esA_right : Sy.right ((3 : Nat) : Int) 2 0 esA = true := by decide
theorem esA_out : (Sy.rowOf 3 (Sy.nf esA) 0).length = 1 := by decide
theorem esA_in : (Sy.rowOf 3 (Sy.nf ((Sy.nf esA).map Sy.turn)) 0).length = 2 := by decide
theorem esA_deg : Sy.degTo (Sy.nf esA) 3 = 1 := by decide
theorem esA_rea {p : Int} (h : Sy.Rea esA 0 p) : p = 0 ∨ p = 1 := by
  induction h with
  | start => exact .inl rfl
  | step e he _ ih =>
    simp only [esA, List.mem_cons, List.not_mem_nil, or_false] at he
    rcases he with rfl | rfl | rfl
    · exact .inr rfl
    · exact .inl rfl
    · exact .inl rfl
theorem esA_marks {ms : List Bool} (hl : ms.length = 3) (h : ∀ p : Nat, p < 3 → (ms[p]? = some true ↔ Sy.Rea esA 0 p)) : (Sy.marked ms).length = 2 := by
  match ms, hl with
  | [a, b, c], _ =>
    have ha : a = true := by have := (h 0 (by omega)).2 .start; simpa using this
    have hb : b = true := by have := (h 1 (by omega)).2 (.step (0, 1, 1) (by simp [esA]) .start); simpa using this
    have hc : c = false := by
      cases c with
      | false => rfl
      | true =>
        rcases esA_rea ((h 2 (by omega)).1 rfl) with e | e <;> omega
    subst ha hb hc
    decide
theorem esA_has (w : World) : BEdges.Has (w.alloc (.cells #[.int .i64 0, .int .i64 1, .int .i64 1, .int .i64 1, .int .i64 0, .int .i64 0, .int .i64 2, .int .i64 1, .int .i64 0] 49)) (.slice (some ⟨w.heap.size, 0, none⟩) 3 3) esA := by
  refine ⟨some ⟨w.heap.size, 0, none⟩, 3, rfl, fun j u hj => ⟨_, rfl, ?_⟩⟩
  rw [addz]
  refine cell0_of (heap_alloc_new w _) ?_
  rw [← Array.getElem?_toList]
  exact hj
set_option maxRecDepth 100000 in
set_option maxHeartbeats 4000000 in
theorem pAlive (a : Addr) (w : World) (h : Sent w 13 a) : PAlive w := fun W hb => by
  have hA := h.below hb
  clear h hb
  obtain ⟨w1, hw1⟩ : ∃ w1, w1 = W.alloc (.cells #[.int .i64 0, .int .i64 1, .int .i64 1, .int .i64 1, .int .i64 0, .int .i64 0, .int .i64 2, .int .i64 1, .int .i64 0] 49) := ⟨_, rfl⟩
  have hb1 : Below W.heap.size W w1 := by rw [hw1]; exact (Below.refl _ _).alloc (Nat.le_refl _) _
  have hv := esA_has W
  rw [← hw1] at hv
  have hN := new_ok sort12 ((3 : Nat) : Int) 2 0 (.slice (some ⟨W.heap.size, 0, none⟩) 3 3) esA a w1 (hA.below hb1) hv (by decide) (by decide) esA_right
  unfold sysV at hN
  have HN : Hid _ := And.intro hN (And.intro hb1 hw1)
  clear hN hb1 hw1 hv hA
  go_enter Tryd.func7, Tryd.ntmps7
  go_wp2_with fail
  rw [← HN.out.2.2]
  refine Calls.mono HN.out.1 ?_
  rintro r w2 ⟨g, bs, bb, cs, cb, m, hm, rfl, hG, hb2⟩
  obtain rfl : m = 3 := by omega
  have hbw := HN.out.2.1.trans (hb2.mono HN.out.2.1.size)
  have H2 : Hid _ := And.intro hG hbw
  clear hG hb2 hm hbw HN
  go_wp2_with fail
  refine Calls.mono (out_any 0 _ H2.out.1) ?_
  rintro r w3 ⟨u3, rfl, hO3, hb3⟩
  obtain ⟨a3, c3, rfl⟩ := row_shape hO3
  rw [esA_out]
  have hG3 := H2.out.1.below hb3
  have H3 : Hid _ := And.intro hG3 (H2.out.2.trans (hb3.mono H2.out.2.size))
  clear hG3 hb3 hO3 H2
  go_wp2_with fail
  refine Calls.mono (in_any 0 _ H3.out.1) ?_
  rintro r w4 ⟨u4, rfl, hO4, hb4⟩
  obtain ⟨a4, c4, rfl⟩ := row_shape hO4
  rw [esA_in]
  have hG4 := H3.out.1.below hb4
  have H4 : Hid _ := And.intro hG4 (H3.out.2.trans (hb4.mono H3.out.2.size))
  clear hG4 hb4 hO4 H3
  go_wp2_with fail
  refine Calls.mono (reach_any _ H4.out.1) ?_
  rintro r w5 ⟨u5, ms, rfl, hO5, hl5, hm5, hb5⟩
  obtain ⟨a5, c5, rfl⟩ := row_shape hO5
  rw [esA_marks hl5 hm5]
  have hG5 := H4.out.1.below hb5
  have H5 : Hid _ := And.intro hG5 (H4.out.2.trans (hb5.mono H4.out.2.size))
  clear hG5 hb5 hO5 H4 hl5 hm5
  go_wp2_with fail
  refine Calls.mono (degree_any _ H5.out.1) ?_
  rintro r w6 ⟨rfl, hb6⟩
  rw [esA_deg]
  have H6 : Hid _ := H5.out.2.trans (hb6.mono H5.out.2.size)
  clear hb6 H5
  go_wp2_with fail
  go_ret
  exact ⟨rfl, H6.out⟩
end Go.Proofs.YtmfcfiiggmkbpaaDoor
/- GraphTurned: plain facts. -/
namespace Go.Proofs.YtmfcfiiggmkbpaaDoor
open Go.RowKit Go.Maps
theorem res_up7 {W w8 : World} {b : Nat} {o : Obj} (hb : Below W.heap.size W w8) (h : W.heap[b]? = some o) : w8.heap[b]? = some o := (hb.block b (t_lt h)).trans h
theorem cellu7 {w w' : World} {a : Addr} {x : Value} (h : w.cell? a = some x) (hb : Below w.heap.size w w') : w'.cell? a = some x := (hb.cell (World.block_lt_of_cell? w _ h)).trans h
/-- Is it among the first k? -/
def mt {α : Type} [BEq α] (zs : List α) (z : α) (k : Nat) : Bool := (zs.take k).any fun x => x == z
theorem mt_zero {α : Type} [BEq α] (zs : List α) (z : α) : mt zs z 0 = false := by simp [mt]
theorem mt_succ {α : Type} [BEq α] {zs : List α} {k : Nat} {x : α} (z : α) (h : zs[k]? = some x) : mt zs z (k + 1) = (mt zs z k || (x == z)) := by
  unfold mt
  rw [take_succ_of h, List.any_append]
  simp
theorem mt_all {α : Type} [BEq α] [LawfulBEq α] {zs : List α} {z : α} {k : Nat} (hk : k = zs.length) (h : z ∈ zs) : mt zs z k = true := by
  unfold mt
  rw [hk, List.take_length, List.any_eq_true]
  exact ⟨z, h, by simp⟩
theorem Sy.row_mem {n : Nat} {k s : Int} {es : List Sy.Ed} (h : Sy.right n k s es = true) {z : Sy.Ed} (hz : z ∈ Sy.nf es) : (z.2.1, z.2.2) ∈ Sy.rowOf n (Sy.nf es) z.1 := by
  have h1 := (right_parts h).2.2.2.2.2 z ((Sy.nf_mem es z).1 hz)
  unfold Sy.rowOf
  rw [if_pos ⟨h1.1, h1.2.1⟩]
  exact Sy.steps_mem.2 hz
theorem Sy.turn_mem {es : List Sy.Ed} {z : Sy.Ed} (hz : z ∈ Sy.nf es) : Sy.turn z ∈ Sy.nf ((Sy.nf es).map Sy.turn) := (Sy.nf_mem _ _).2 (List.mem_map.2 ⟨z, hz, rfl⟩)
theorem Sy.row_memIn {n : Nat} {k s : Int} {es : List Sy.Ed} (h : Sy.right n k s es = true) {z : Sy.Ed} (hz : z ∈ Sy.nf es) : (z.2.1, z.1) ∈ Sy.rowOf n (Sy.nf ((Sy.nf es).map Sy.turn)) z.2.2 := by
  have h1 := (right_parts h).2.2.2.2.2 z ((Sy.nf_mem es z).1 hz)
  unfold Sy.rowOf
  rw [if_pos ⟨h1.2.2.1, h1.2.2.2.1⟩]
  exact Sy.steps_mem.2 (Sy.turn_mem hz)
/-- As many steps as there are edges ahead. -/
theorem Sy.cnt_row {l : List Sy.Ed} (h : Sy.Rows l) (st : Int) : Sy.cnt l st + (Sy.steps l st).length = Sy.cnt l (st + 1) := by
  have h1 := congrArg List.length (Sy.take_row h st)
  rw [List.length_append, Sy.es1_len, List.length_take, List.length_take] at h1
  have h2 := Sy.cnt_le l st
  have h3 := Sy.cnt_le l (st + 1)
  omega
theorem Sy.cnt_end {n k s : Int} {es : List Sy.Ed} (h : Sy.right n k s es = true) : Sy.cnt (Sy.nf es) n = (Sy.nf es).length := Sy.cnt_all fun e he => ((right_parts h).2.2.2.2.2 e ((Sy.nf_mem es e).1 he)).2.1
theorem Sy.cnt_endIn {n k s : Int} {es : List Sy.Ed} (h : Sy.right n k s es = true) : Sy.cnt (Sy.nf ((Sy.nf es).map Sy.turn)) n = (Sy.nf es).length := by
  rw [Sy.cnt_all fun e he => ?_, nf_turn_len]
  obtain ⟨x, hx, rfl⟩ := List.mem_map.1 ((Sy.nf_mem _ e).1 he)
  exact ((right_parts h).2.2.2.2.2 x ((Sy.nf_mem es x).1 hx)).2.2.2.1
theorem Sy.cnt_nought {n k s : Int} {es : List Sy.Ed} (h : Sy.right n k s es = true) : Sy.cnt (Sy.nf es) 0 = 0 := Sy.cnt_none fun e he => by have := ((right_parts h).2.2.2.2.2 e ((Sy.nf_mem es e).1 he)).1; omega
theorem Sy.cnt_noughtIn {n k s : Int} {es : List Sy.Ed} (h : Sy.right n k s es = true) : Sy.cnt (Sy.nf ((Sy.nf es).map Sy.turn)) 0 = 0 := by
  refine Sy.cnt_none fun e he => ?_
  obtain ⟨x, hx, rfl⟩ := List.mem_map.1 ((Sy.nf_mem _ e).1 he)
  have := ((right_parts h).2.2.2.2.2 x ((Sy.nf_mem es x).1 hx)).2.2.1
  show ¬ x.2.2 < 0
  omega
end Go.Proofs.YtmfcfiiggmkbpaaDoor
