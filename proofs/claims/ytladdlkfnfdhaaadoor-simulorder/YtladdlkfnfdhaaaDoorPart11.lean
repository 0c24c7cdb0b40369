/- Texts of this claim, joined: SyNew, SmTop, SmBel, SmLea, SyOne0. -/
import Derived.Test.YtladdlkfnfdhaaaDoorPart6
import Derived.Test.YtladdlkfnfdhaaaDoorSmOf
import Derived.Test.YtladdlkfnfdhaaaDoorPart7
import Derived.Sort.CutIn
import Derived.Test.YtladdlkfnfdhaaaDoorPart3
namespace Go.Proofs.YtladdlkfnfdhaaaDoor
section
open Go.RowKit Go.Maps
attribute [local go_sem ↓] Go.wp_at_zero Go.wp_at_succ
/-- In the order of the ends, each once: the one form of the edges turned round. -/
theorem inOrder_turn {es os : List Sy.Ed} (h : InOrder Sy.turn (Sy.nf es) os) : os.map Sy.turn = Sy.nf ((Sy.nf es).map Sy.turn) := by
  refine Sy.nf_of ?_ fun x => ?_
  · have hnd : os.Nodup := by
      rw [h.1.nodup_iff]
      have hs := Sy.nf_str es
      generalize Sy.nf es = l at hs
      induction l with
      | nil => exact List.nodup_nil
      | cons a r ih =>
        refine List.nodup_cons.2 ⟨fun ha => ?_, ih hs.tail⟩
        have h1 := hs.head a ha
        rw [Sy.lt_irrefl] at h1
        cases h1
    have hp := h.2
    clear h
    induction os with
    | nil => trivial
    | cons a r ih =>
      obtain ⟨h1, h2⟩ := List.pairwise_cons.1 hp
      obtain ⟨h3, h4⟩ := List.nodup_cons.1 hnd
      rw [List.map_cons]
      refine Sy.Str.cons (ih h4 h2) fun x hx => ?_
      obtain ⟨b, hb, rfl⟩ := List.mem_map.1 hx
      have h5 := h1 b hb
      cases h6 : Sy.lt (Sy.turn a) (Sy.turn b) with
      | true => rfl
      | false =>
        have h7 := congrArg Sy.turn (Sy.eq_of_not h6 h5)
        rw [turn_turn, turn_turn] at h7
        rw [h7] at h3
        exact absurd hb h3
  · rw [List.mem_map, List.mem_map]
    constructor
    · rintro ⟨a, ha, rfl⟩; exact ⟨a, h.1.mem_iff.1 ha, rfl⟩
    · rintro ⟨a, ha, rfl⟩; exact ⟨a, h.1.mem_iff.2 ha, rfl⟩
theorem rg_up4' {w2 wa wb : World} {a0 a1 a2 a3 : Addr} {x0 x1 x2 x3 : Value} (h : (wa.cell? a0 = some x0 ∧ wa.cell? a1 = some x1 ∧ wa.cell? a2 = some x2 ∧ wa.cell? a3 = some x3) ∧ Hid (Below w2.heap.size w2 wa)) (hb : Below wa.heap.size wa wb) : (wb.cell? a0 = some x0 ∧ wb.cell? a1 = some x1 ∧ wb.cell? a2 = some x2 ∧ wb.cell? a3 = some x3) ∧ Hid (Below w2.heap.size w2 wb) := rg_up4 hb h
/-- What New answers. -/
def NewAt (a : Addr) (n k s : Int) (es : List Sy.Ed) (w : World) (r : Ending) (w' : World) : Prop :=
  if Sy.right n k s es = true then ∃ (g bs bb cs cb m : Nat), n = (m : Int) ∧ r = .returned (.tuple #[.pointer (some ⟨g, 0, none⟩), .nilIface]) ∧ Gr w' w.heap.size g bs bb cs cb m k s es ∧ Below w.heap.size w w'
  else ∃ x, r = .returned (.tuple #[.pointer none, x]) ∧ Chain w' 0 0 a [sysB] x ∧ Below w.heap.size w w'
set_option maxRecDepth 100000 in
set_option maxHeartbeats 8000000 in
theorem new_any {M : Nat} (hS : SortOk M) (n k s : Int) (v : Value) (es : List Sy.Ed) (a : Addr) (w : World) (hA : Sent w 0 a) (hv : BEdges.Has w v es) (hM : es.length ≤ M) (hm : es.length ≤ 100000) :
    Calls Tryd.prog 9 #[sysV n k s v] w (NewAt a n k s es w) := by
  obtain ⟨w1, hw1⟩ : ∃ w1, w1 = w.alloc (.cells #[.int .i64 n, .int .i64 k, .int .i64 s, v] 24) := ⟨_, rfl⟩
  have hb1 : Below w.heap.size w w1 := by rw [hw1]; exact (Below.refl _ _).alloc (Nat.le_refl _) _
  have hg1 : w1.heap[w.heap.size]? = some (.cells #[.int .i64 n, .int .i64 k, .int .i64 s, v] 24 (0, 0)) := by rw [hw1]; exact heap_alloc_new w _
  have hN := normal_any hS n k s v es a w1 (hA.below hb1) (hv.below hb1) hM (by omega)
  obtain ⟨ao, cap, rfl, _⟩ := hv
  obtain ⟨m0, hm0⟩ : ∃ m0, m0 = es.length := ⟨_, rfl⟩
  rw [← hm0] at hN hg1 hw1 ⊢
  unfold sysV at hN ⊢
  have H1 : Hid _ := And.intro hN (And.intro hb1 (And.intro hg1 (And.intro hw1 hS)))
  have HM : Hid _ := And.intro hM hm
  cases hq : Sy.right n k s es with
  | false =>
    rw [hq] at H1
    unfold NewAt
    rw [hq]
    clear hN hb1 hg1 hw1 hS hA hq hm0 hM hm
    go_enter Tryd.func9, Tryd.ntmps9
    go_wp2_with fail
    rw [← H1.out.2.2.2.1]
    refine Calls.mono H1.out.1 ?_
    rintro r w2 ⟨x, u, rfl, hx, _, hb2⟩
    have hch : Chain w2 0 0 a [sysB] x := by simpa [SErr] using hx
    obtain ⟨T, y, rfl⟩ := hch.iface
    have hg2 := (hb2.block _ (t_lt H1.out.2.2.1)).trans H1.out.2.2.1
    obtain ⟨y0, y1, y2, y3⟩ := four_cells hg2
    have z0 := blk_free hg2 0
    have z1 := blk_free hg2 1
    have z2 := blk_free hg2 2
    have z3 := blk_free hg2 3
    have hbw := H1.out.2.1.trans (hb2.mono H1.out.2.1.size)
    have H2 : Hid _ := And.intro hch (And.intro hbw hg2)
    clear hb2 hg2 hbw hch hx
    go_wp2_with fail
    have hbf := four_below H2.out.2.1 (b := w.heap.size) (Nat.le_refl _) (.int .i64 0) (.int .i64 0) (.int .i64 0) (.slice none 0 0)
    have hcf := chain_st4 H2.out.1 H2.out.2.2 (.int .i64 0) (.int .i64 0) (.int .i64 0) (.slice none 0 0)
    unfold st4 at hcf
    go_ret2
    exact ⟨_, rfl, hcf, hbf⟩
  | true =>
    rw [hq] at H1
    have hrp := right_parts hq
    obtain ⟨q, rfl⟩ : ∃ q : Nat, n = (q : Int) := ⟨n.toNat, by omega⟩
    have HQ : Hid _ := And.intro hq hrp
    unfold NewAt
    rw [hq]
    clear hN hb1 hg1 hw1 hS hA hq hm0 hM hm hrp
    go_enter Tryd.func9, Tryd.ntmps9
    go_wp2_with fail
    rw [← H1.out.2.2.2.1]
    refine Calls.mono H1.out.1 ?_
    rintro r w2 ⟨x, u, rfl, hx, hO, hb2⟩
    have hO := hO trivial
    obtain rfl : x = .nilIface := by simpa [SErr] using hx
    obtain ⟨au, cu, rfl⟩ := row_shape hO
    have hg2 := (hb2.block _ (t_lt H1.out.2.2.1)).trans H1.out.2.2.1
    obtain ⟨y0, y1, y2, y3⟩ := four_cells hg2
    have z0 := blk_free hg2 0
    have z1 := blk_free hg2 1
    have z2 := blk_free hg2 2
    have z3 := blk_free hg2 3
    have hbw := H1.out.2.1.trans (hb2.mono H1.out.2.1.size)
    obtain ⟨L, hL⟩ : ∃ L, L = (Sy.nf es).length := ⟨_, rfl⟩
    obtain ⟨w3, hw3⟩ : ∃ w3, w3 = (((w2.setCell ⟨w.heap.size, 0, none⟩ (.int .i64 q)).setCell ⟨w.heap.size, 1, none⟩ (.int .i64 k)).setCell ⟨w.heap.size, 2, none⟩ (.int .i64 s)).setCell ⟨w.heap.size, 3, none⟩ (.slice au L cu) := ⟨_, rfl⟩
    rw [← hL]
    have hg3 : w3.heap[w.heap.size]? = some (.cells #[.int .i64 q, .int .i64 k, .int .i64 s, .slice au L cu] 24 (0, 0)) := by rw [hw3]; exact four_set hg2
    have hb3 : Below w.heap.size w w3 := by rw [hw3]; exact four_below hbw (Nat.le_refl _) _ _ _ _
    have hO3 : BEdges.Own w3 w.heap.size (.slice au (Sy.nf es).length cu) (Sy.nf es) := by
      rw [hw3]
      refine row_base (trow_at hO fun b hb => ?_) H1.out.2.1.size
      have n1 : b ≠ w.heap.size := fun e => own_bk hO hg2 (by decide) (e ▸ hb)
      rw [set_other _ _ _ _ _ n1, set_other _ _ _ _ _ n1, set_other _ _ _ _ _ n1, set_other _ _ _ _ _ n1]
    have H3 : Hid _ := And.intro hb3 (And.intro hO3 (And.intro hg3 (And.intro hw3 hL)))
    clear hO hb2 hg2 hbw hx hg3 hb3 hO3 hw3 hL
    have hle : L ≤ 10000 := by have := HQ.out.2.2.2.1; have := Sy.nf_len es; have := H3.out.2.2.2.2; omega
    have hqn : q ≤ 1000 := by have := HQ.out.2.1; omega
    have hnr : ∀ e ∈ Sy.nf es, 0 ≤ e.1 ∧ e.1 < (q : Int) ∧ 0 ≤ e.2.2 ∧ e.2.2 < (q : Int) := fun e he => by
      have := HQ.out.2.2.2.2.2.2 e ((Sy.nf_mem es e).1 he)
      exact ⟨this.1, this.2.1, this.2.2.1, this.2.2.2.1⟩
    have hTf : ∀ W, Below w3.heap.size w3 W → Calls Tryd.prog 20 #[.int .i64 q, .slice au L cu, .func (.func 21) #[] #[]] W fun r w' => ∃ bs bb, r = .returned (.agg #[.slice (some ⟨bs, 0, none⟩) L L, .slice (some ⟨bb, 0, none⟩) (q + 1) (q + 1)]) ∧ Tb w' w.heap.size bs bb q (Sy.nf es) ∧ Below W.heap.size W w' := fun W hb => by
      have hLL := H3.out.2.2.2.2
      have hOW : BEdges.Has W (.slice au (Sy.nf es).length cu) (Sy.nf es) := H3.out.2.1.has.below hb
      have h9 := tableOf_any _ _ forward_at q (.slice au (Sy.nf es).length cu) (Sy.nf es) W (by omega) (by omega) hOW (by rw [List.map_id']; exact fun e he => ⟨(hnr e he).1, (hnr e he).2.1⟩) (by rw [List.map_id']; exact nf_rows es)
      rw [List.map_id'] at h9
      rw [← hLL] at h9
      refine h9.mono fun r w' ⟨bs, bb, hr, h1, h2⟩ => ⟨bs, bb, hr, ⟨(Blk.of_arr h1).base ?_, (Blk.of_arr h2).base ?_⟩, h1.bl⟩
      · have := H3.out.1.size; have := hb.size; omega
      · have := H3.out.1.size; have := hb.size; omega
    have hOr : ∀ W, Below w3.heap.size w3 W → Calls Tryd.prog 22 #[.slice au L cu, .func (.func 23) #[] #[]] W fun r w' => ∃ u os, r = .returned u ∧ InOrder Sy.turn (Sy.nf es) os ∧ BEdges.Own w' W.heap.size u os ∧ Below W.heap.size W w' := fun W hb => by
      have hLL := H3.out.2.2.2.2
      have hOW : BEdges.Has W (.slice au (Sy.nf es).length cu) (Sy.nf es) := H3.out.2.1.has.below hb
      have h9 := ordered_any H1.out.2.2.2.2 _ _ backward_at (.slice au (Sy.nf es).length cu) (Sy.nf es) W (by have := Sy.nf_len es; have := HM.out.1; omega) (by omega) hOW
      rw [← hLL] at h9
      exact h9
    have hTb : ∀ W u os B, Below w3.heap.size w3 W → InOrder Sy.turn (Sy.nf es) os → BEdges.Own W B u os → Calls Tryd.prog 20 #[.int .i64 q, u, .func (.func 23) #[] #[]] W fun r w' => ∃ bs bb, r = .returned (.agg #[.slice (some ⟨bs, 0, none⟩) L L, .slice (some ⟨bb, 0, none⟩) (q + 1) (q + 1)]) ∧ Tb w' w.heap.size bs bb q (Sy.nf ((Sy.nf es).map Sy.turn)) ∧ Below W.heap.size W w' := fun W u os B hb hI hO => by
      have hLL := H3.out.2.2.2.2
      have hlo := hI.1.length_eq
      have het := inOrder_turn hI
      have h9 := tableOf_any _ _ backward_at q u os W (by omega) (by omega) hO.has (by
        rw [het]
        intro e he
        rw [Sy.nf_mem] at he
        obtain ⟨x, hx, rfl⟩ := List.mem_map.1 he
        exact ⟨(hnr x hx).2.2.1, (hnr x hx).2.2.2⟩) (by rw [het]; exact nf_rows _)
      rw [het, hlo, ← hLL] at h9
      refine h9.mono fun r w' ⟨bs, bb, hr, h1, h2⟩ => ⟨bs, bb, hr, ⟨(Blk.of_arr h1).base ?_, (Blk.of_arr h2).base ?_⟩, h1.bl⟩
      · have := H3.out.1.size; have := hb.size; omega
      · have := H3.out.1.size; have := hb.size; omega
    have HT : Hid _ := And.intro hTf (And.intro hOr hTb)
    clear hTf hOr hTb hnr
    go_upto_region 4 with fail
    rw [← H3.out.2.2.2.1]
    clear y0 y1 y2 y3 z0 z1 z2 z3
    obtain ⟨x0, x1, x2, x3⟩ := four_cells H3.out.2.2.1
    go_region_held3 (fun w' => (w'.cell? ⟨w.heap.size, 0, none⟩ = some (.int .i64 q) ∧ w'.cell? ⟨w.heap.size, 1, none⟩ = some (.int .i64 k) ∧ w'.cell? ⟨w.heap.size, 2, none⟩ = some (.int .i64 s) ∧ w'.cell? ⟨w.heap.size, 3, none⟩ = some (.slice au L cu)) ∧ Hid (Below w3.heap.size w3 w')) (first | exact rg_up4' (by assumption) hba | exact rg_up4' (by assumption) hbb | exact rg_up4' (by assumption) hbc | exact rg_up4' (by assumption) ((Below.refl _ _).alloc (Nat.le_refl _) _) | exact ⟨⟨x0, x1, x2, x3⟩, ((Below.refl _ _).drew : Below w3.heap.size w3 w3.drew)⟩ | go_keep)
      ((first
        | (go_at_call_of 20 (Value.slice au L cu); refine (HT.out.1 _ (rg_b (by assumption))).mono ?_; rintro r wa ⟨bs, bb, rfl, hTa, hba⟩)
        | (go_at_call 22; refine (HT.out.2.1 _ (rg_b (by assumption))).mono ?_; rintro r wb ⟨u5, os, rfl, hIo, hOb, hbb⟩)
        | (go_at_call_of 20 u5; refine (HT.out.2.2 _ _ os _ (rg_b (by assumption)) hIo (by first | exact hOb | exact trow_at hOb fun b hb => hba.block _ (hOb.lt b hb).2)).mono ?_; rintro r wc ⟨cs, cb, rfl, hTc, hbc⟩)
        | fail))
    have hal : Below wc.heap.size wc (wc.alloc (.cells #[.int .i64 q, .int .i64 k, .int .i64 s, .slice (some ⟨bs, 0, none⟩) L L, .slice (some ⟨bb, 0, none⟩) (q + 1) (q + 1), .slice (some ⟨cs, 0, none⟩) L L, .slice (some ⟨cb, 0, none⟩) (q + 1) (q + 1)] 66)) := (Below.refl _ _).alloc (Nat.le_refl _) _
    have hbx := heap_alloc_new wc (.cells #[.int .i64 q, .int .i64 k, .int .i64 s, .slice (some ⟨bs, 0, none⟩) L L, .slice (some ⟨bb, 0, none⟩) (q + 1) (q + 1), .slice (some ⟨cs, 0, none⟩) L L, .slice (some ⟨cb, 0, none⟩) (q + 1) (q + 1)] 66)
    have hba' := below_of_drew3 hba
    have hsz : w.heap.size ≤ wc.heap.size := by have := H3.out.1.size; have := hba'.size; have := hbb.size; have := hbc.size; omega
    have hbw : Below w.heap.size w (wc.alloc (.cells #[.int .i64 q, .int .i64 k, .int .i64 s, .slice (some ⟨bs, 0, none⟩) L L, .slice (some ⟨bb, 0, none⟩) (q + 1) (q + 1), .slice (some ⟨cs, 0, none⟩) L L, .slice (some ⟨cb, 0, none⟩) (q + 1) (q + 1)] 66)) :=
      (((H3.out.1.trans (hba'.mono H3.out.1.size)).trans (hbb.mono (by have := H3.out.1.size; have := hba'.size; omega))).trans (hbc.mono (by have := H3.out.1.size; have := hba'.size; have := hbb.size; omega))).trans (hal.mono hsz)
    have hGr : Gr (wc.alloc (.cells #[.int .i64 q, .int .i64 k, .int .i64 s, .slice (some ⟨bs, 0, none⟩) L L, .slice (some ⟨bb, 0, none⟩) (q + 1) (q + 1), .slice (some ⟨cs, 0, none⟩) L L, .slice (some ⟨cb, 0, none⟩) (q + 1) (q + 1)] 66)) w.heap.size wc.heap.size bs bb cs cb q k s es :=
      ⟨by rw [← H3.out.2.2.2.2]; exact hbx, hsz, ((hTa.below hbb).below hbc).below hal, hTc.below hal, HQ.out.1⟩
    have HF : Hid _ := And.intro hGr hbw
    clear hal hbx hba' hbw hGr hba hbb hbc hTa hTc hOb hIo x0 x1 x2 x3
    rename_i hS9
    clear hS9
    go_wp2_with fail
    go_ret2
    exact ⟨_, _, _, _, _, q, rfl, rfl, HF.out.1, HF.out.2⟩
theorem new_ok {M : Nat} (hS : SortOk M) (n k s : Int) (v : Value) (es : List Sy.Ed) (a : Addr) (w : World) (hA : Sent w 0 a) (hv : BEdges.Has w v es) (hM : es.length ≤ M) (hm : es.length ≤ 100000) (hq : Sy.right n k s es = true) :
    Calls Tryd.prog 9 #[sysV n k s v] w fun r w' => ∃ (g bs bb cs cb m : Nat), n = (m : Int) ∧ r = .returned (.tuple #[.pointer (some ⟨g, 0, none⟩), .nilIface]) ∧ Gr w' w.heap.size g bs bb cs cb m k s es ∧ Below w.heap.size w w' :=
  (new_any hS n k s v es a w hA hv hM hm).mono fun r w' h => by unfold NewAt at h; rw [if_pos hq] at h; exact h
theorem new_bad {M : Nat} (hS : SortOk M) (n k s : Int) (v : Value) (es : List Sy.Ed) (a : Addr) (w : World) (hA : Sent w 0 a) (hv : BEdges.Has w v es) (hM : es.length ≤ M) (hm : es.length ≤ 100000) (hq : Sy.right n k s es = false) :
    Calls Tryd.prog 9 #[sysV n k s v] w fun r w' => ∃ x, r = .returned (.tuple #[.pointer none, x]) ∧ Chain w' 0 0 a [sysB] x ∧ Below w.heap.size w w' :=
  (new_any hS n k s v es a w hA hv hM hm).mono fun r w' h => by unfold NewAt at h; rw [if_neg (by rw [hq]; simp)] at h; exact h
end
section
open Go.RowKit Go.Maps
attribute [local go_sem ↓] Go.wp_at_zero Go.wp_at_succ
theorem four_cells9 {w : World} {b : Nat} {x0 x1 x2 x3 : Value} {ty : TypeId} (h : w.heap[b]? = some (.cells #[x0, x1, x2, x3] ty (0, 0))) : w.cell? ⟨b, 0, none⟩ = some x0 ∧ w.cell? ⟨b, 1, none⟩ = some x1 ∧ w.cell? ⟨b, 2, none⟩ = some x2 ∧ w.cell? ⟨b, 3, none⟩ = some x3 := ⟨cell0_of h rfl, cell0_of h rfl, cell0_of h rfl, cell0_of h rfl⟩
/-- Of each state those that simulate it, as rows. -/
structure AbAt (w w' : World) (n d : Nat) (es : List Sy.Ed) (ga : Nat) (ra : Nat → Lc) (A : Nat → Nat → Bool) : Prop where
  r : Rws w' w.heap.size ga n d ra A
  sim : ∀ p q, p < n → q < n → (A p q = true ↔ Sm.Sims (EE es) p q)
  bd : ∀ p q, A p q = true → q < n
  bl : Below w.heap.size w w'
theorem AbAt.below {w w' w2 : World} {n d : Nat} {es : List Sy.Ed} {ga : Nat} {ra : Nat → Lc} {A : Nat → Nat → Bool} (h : AbAt w w' n d es ga ra A) (hb : Below w'.heap.size w' w2) : AbAt w w2 n d es ga ra A := ⟨h.r.below hb, h.sim, h.bd, h.bl.trans (hb.mono h.bl.size)⟩
theorem AbAt.els {w w' : World} {n d : Nat} {es : List Sy.Ed} {ga : Nat} {ra : Nat → Lc} {A : Nat → Nat → Bool} (h : AbAt w w' n d es ga ra A) (hd : n ≤ 64 * d) (p : Nat) : Br.els (A p) (64 * d) = Br.els (A p) n := Br.els_skip hd fun z h1 _ => by
  cases h3 : A p z with
  | false => rfl
  | true => have := h.bd p z h3; omega
set_option linter.unusedSimpArgs false in
set_option maxRecDepth 100000 in
set_option maxHeartbeats 4000000 in
theorem aboveOf_ok (hS : SortOk 1000000) (m kk : Nat) (s : Int) (v : Value) (es : List Sy.Ed) (a : Addr) (w : World) (hA : Sent w 0 a) (hT : TabW w) (hv : BEdges.Has w v es) (hm : es.length ≤ 100000) (hq : Sy.right m kk s es = true) (hn : m ≤ 300) :
    Calls Tryd.prog 15 #[sysV m kk s v] w fun r w' => ∃ ga ra A, r = .returned (.tuple #[.slice (some ⟨ga, 0, none⟩) m m, .nilIface]) ∧ AbAt w w' m (Br.wds m) es ga ra A := by
  have hv0 := hv
  obtain ⟨ao, cap, rfl, _⟩ := hv0
  obtain ⟨L, hL⟩ : ∃ L, L = es.length := ⟨_, rfl⟩
  obtain ⟨w1, hw1⟩ : ∃ w1, w1 = w.alloc (.cells #[.int .i64 m, .int .i64 kk, .int .i64 s, .slice ao L cap] 24) := ⟨_, rfl⟩
  have hb1 : Below w.heap.size w w1 := by rw [hw1]; exact (Below.refl _ _).alloc (Nat.le_refl _) _
  have hg1 : w1.heap[w.heap.size]? = some (.cells #[.int .i64 m, .int .i64 kk, .int .i64 s, .slice ao L cap] 24 (0, 0)) := by rw [hw1]; exact heap_alloc_new w _
  have hN := new_ok hS m kk s _ es a w1 (hA.below hb1) (hv.below hb1) (by omega) hm hq
  rw [← hL] at hN ⊢
  unfold sysV at hN ⊢
  obtain ⟨x0, x1, x2, x3⟩ := four_cells9 hg1
  have H1 : Hid _ := And.intro hN (And.intro hb1 (And.intro hw1 (hT.below hT.lt hb1)))
  have HQ : Hid (Sy.right m kk s es = true) := hq
  have hm3 : ¬ (300 : Int) < (m : Int) := by omega
  clear hA hT hv hm hq hN hb1 hw1 hL
  go_enter Tryd.func15, Tryd.ntmps15
  go_upto_region 1 with fail
  rw [← H1.out.2.2.1]
  go_upto_region 2 with (go_at_call 9; refine Calls.mono H1.out.1 ?_; rintro r2 w2 ⟨g, bs, bb, cs, cb, m', hmm, rfl, hG, hb2⟩; obtain rfl : m = m' := (by omega); have H2 : Hid _ := And.intro hG hb2; have y0 := cell_up x0 hb2; clear hmm hG hb2)
  have hT2 := H1.out.2.2.2.below H1.out.2.2.2.lt H2.out.2
  have hOf := sieveOf_any (d := Br.wds m) rfl rfl H2.out.1 hT2
  have HO : Hid _ := hOf
  clear hOf hT2 x0 x1 x2 x3 hg1
  go_upto_region 7 with (go_at_call 33; refine Calls.mono HO.out ?_; rintro r3 w3 ⟨gv, mm, ra, rl, A, L9, rfl, hF⟩; have H3 : Hid (SfAt w2 w3 w1.heap.size g bs bb cs cb m kk s gv kk (Br.wds m) mm es ra rl A L9) := hF; clear hF)
  have hSi := smSift_any (fun h0 => by unfold Br.wds; omega) rfl (by omega) rfl H3.out
  have HSi : Hid _ := hSi
  clear hSi
  go_upto_region 8 with (go_at_call 34; refine Calls.mono HSi.out ?_; rintro r4 w4 ⟨⟨v4, rfl⟩, ra4, rl4, A4, L4, hF4, hno⟩; have z2 := hF4.sv.cells.2.2.1; have H4 : Hid (SfAt w2 w4 w1.heap.size g bs bb cs cb m kk s gv kk (Br.wds m) mm es ra4 rl4 A4 L4 ∧ ∀ p q, p < m → q < m → L4 p q = false) := ⟨hF4, hno⟩; clear hF4 hno)
  go_wp2_with fail
  go_ret2
  have hb04 := H1.out.2.1.trans ((H2.out.2.trans (H4.out.1.e.b.mono H2.out.2.size)).mono H1.out.2.1.size)
  have hab := H4.out.1.sv.above
  have hle : w.heap.size ≤ w2.heap.size := Nat.le_trans H1.out.2.1.size H2.out.2.size
  exact ⟨mm.ga, ra4, A4, rfl, ⟨hab.lst, hab.row, Nat.le_trans hle hab.ug, fun p hp => Nat.le_trans hle (hab.ur p hp)⟩, fun p q hp hq => H4.out.1.inv.done (ee_in HQ.out) H4.out.2 hp hq, fun p q h => H4.out.1.bd p q (by rw [h]; rfl), hb04⟩
theorem Tryd.infoLL : (Tryd.prog.info? 30).map (fun i => (i.zero, i.size, i.bytes)) = some (some (.slice none 0 0), 1, 24) := by kernel_rfl
theorem makeLL (n : Nat) (hn : n ≤ 1000000) (w : World) : (Instr.makeSlice 49 (.int .i64 (n : Int)) (.int .i64 (n : Int))).run Tryd.prog w = .ok (.slice (some ⟨w.heap.size, 0, none⟩) n n) (w.alloc (.cells (madeV (.slice none 0 0) n) 30)) := make_of _ _ _ 24 Tryd.underlying49 Tryd.infoLL n hn (by decide) w
/-- The lists of those that simulate each, in memory. -/
structure AlAt (w w' : World) (n : Nat) (es : List Sy.Ed) (g : Nat) (f : Nat → Value) (i : Nat) : Prop where
  lst : ListAt 30 w' g n fun p => if p < i then f p else .slice none 0 0
  own : ∀ p, p < i → ∃ S : Nat → Bool, OwnI w' w.heap.size (f p) (natI (Br.els S n)) ∧ ∀ q, q < n → (S q = true ↔ Sm.Sims (EE es) p q)
  ug : w.heap.size ≤ g
  bl : Below w.heap.size w w'
theorem own_list {w : World} {B g m p : Nat} {u v : Value} {zs : List Int} {f : Nat → Value} (h : OwnI w B u zs) (k : ListAt 30 w g m f) : OwnI (w.setCell ⟨g, p, none⟩ v) B u zs := trow_at h fun b hb => set_other w g p b v fun e => by
  obtain ⟨c, hc⟩ := row_cells h hb
  obtain ⟨c2, hc2, _⟩ := k
  rw [e, hc2] at hc
  injection hc with e2
  injection e2 with _ e3
  exact absurd e3 (by decide)
theorem AlAt.more {w wo w5 : World} {n g p B : Nat} {es : List Sy.Ed} {f : Nat → Value} {u : Value} {S : Nat → Bool} (h : AlAt w wo n es g f p) (hb : Below wo.heap.size wo w5) (hO : OwnI w5 B u (natI (Br.els S n))) (hB : w.heap.size ≤ B) (hS : ∀ q, q < n → (S q = true ↔ Sm.Sims (EE es) p q)) : AlAt w (w5.setCell ⟨g, p, none⟩ u) n es g (upd f p u) (p + 1) := by
  have hl := h.lst.below hb
  refine ⟨(hl.put u).congr fun q _ => ?_, fun q hq => ?_, h.ug, (h.bl.trans (hb.mono h.bl.size)).trans ((Kept.setCell w5 g p u).below (Nat.le_trans h.bl.size hb.size) fun i hi => by have := h.ug; omega)⟩
  · show (if q = p then u else _) = _
    by_cases e : q = p
    · subst e; rw [if_pos rfl, if_pos (by omega), upd_same]
    · rw [if_neg e, upd_ne _ _ e]
      by_cases e2 : q < p
      · rw [if_pos e2, if_pos (by omega)]
      · rw [if_neg e2, if_neg (by omega)]
  · by_cases e : q = p
    · subst e; rw [upd_same]; exact ⟨S, own_list (row_base hO hB) hl, hS⟩
    · rw [upd_ne _ _ e]
      obtain ⟨T, h1, h2⟩ := h.own q (by omega)
      exact ⟨T, own_list (trow_at h1 fun b hx => hb.block b (h1.lt b hx).2) hl, h2⟩
theorem AbAt.other {w w5 : World} {n d g m p : Nat} {es : List Sy.Ed} {ga : Nat} {ra : Nat → Lc} {A : Nat → Nat → Bool} {f : Nat → Value} {u : Value} (h : AbAt w w5 n d es ga ra A) (k : ListAt 30 w5 g m f) (hg : w.heap.size ≤ g) : AbAt w (w5.setCell ⟨g, p, none⟩ u) n d es ga ra A :=
  ⟨h.r.other k (by decide) (list_list_ne h.r.lst k (by decide)), h.sim, h.bd, h.bl.trans ((Kept.setCell w5 g p u).below h.bl.size fun i hi => by omega)⟩
set_option linter.unusedSimpArgs false in
set_option maxRecDepth 100000 in
set_option maxHeartbeats 8000000 in
theorem above_ok (hS : SortOk 1000000) (m kk : Nat) (s : Int) (v : Value) (es : List Sy.Ed) (a : Addr) (w : World) (hA : Sent w 0 a) (hT : TabW w) (hv : BEdges.Has w v es) (hm : es.length ≤ 100000) (hq : Sy.right m kk s es = true) (hn : m ≤ 300) :
    Calls Tryd.prog 14 #[sysV m kk s v] w fun r w' => ∃ g f, r = .returned (.tuple #[.slice (some ⟨g, 0, none⟩) m m, .nilIface]) ∧ AlAt w w' m es g f m := by
  have hv0 := hv
  obtain ⟨ao, cap, rfl, _⟩ := hv0
  obtain ⟨L, hL⟩ : ∃ L, L = es.length := ⟨_, rfl⟩
  obtain ⟨w1, hw1⟩ : ∃ w1, w1 = w.alloc (.cells #[.int .i64 m, .int .i64 kk, .int .i64 s, .slice ao L cap] 24) := ⟨_, rfl⟩
  have hb1 : Below w.heap.size w w1 := by rw [hw1]; exact (Below.refl _ _).alloc (Nat.le_refl _) _
  have hg1 : w1.heap[w.heap.size]? = some (.cells #[.int .i64 m, .int .i64 kk, .int .i64 s, .slice ao L cap] 24 (0, 0)) := by rw [hw1]; exact heap_alloc_new w _
  have hN := aboveOf_ok hS m kk s _ es a w1 (hA.below hb1) (hT.below hT.lt hb1) (hv.below hb1) hm hq hn
  rw [← hL] at hN ⊢
  unfold sysV at hN ⊢
  obtain ⟨x0, x1, x2, x3⟩ := four_cells9 hg1
  have H1 : Hid _ := And.intro hN (And.intro hb1 (And.intro hw1 hT))
  have mk := fun W => makeLL m (by omega) W
  clear hA hT hv hm hq hN hb1 hw1 hL
  go_enter Tryd.func14, Tryd.ntmps14
  go_upto_region 1 with fail
  rw [← H1.out.2.2.1]
  go_upto_region 5 with (go_at_call 15; refine Calls.mono H1.out.1 ?_; rintro r2 w2 ⟨ga, ra, A, rfl, hAb⟩; have H2 : Hid (AbAt w1 w2 m (Br.wds m) es ga ra A) := hAb; have y0 := cell_up x0 hAb.bl; clear hAb)
  clear mk x0 x1 x2 x3 hg1 y0
  obtain ⟨w3, hw3⟩ : ∃ w3, w3 = w2.alloc (.cells (madeV (.slice none 0 0) m) 30) := ⟨_, rfl⟩
  have hb3 : Below w2.heap.size w2 w3 := by rw [hw3]; exact (Below.refl _ _).alloc (Nat.le_refl _) _
  have hb02 := H1.out.2.1.trans (H2.out.bl.mono H1.out.2.1.size)
  have hL0 : AlAt w w3 m es w2.heap.size (fun _ => .slice none 0 0) 0 := ⟨by rw [hw3]; exact (listAt_new 30 (.slice none 0 0) rfl w2 m).congr fun p _ => by simp, fun p hp => by omega, hb02.size, hb02.trans (hb3.mono hb02.size)⟩
  rw [← hw3]
  have H3 : Hid (AlAt w w3 m es w2.heap.size (fun _ => .slice none 0 0) 0 ∧ AbAt w1 w3 m (Br.wds m) es ga ra A ∧ w2.heap.size < w3.heap.size ∧ Below w.heap.size w w2) := ⟨hL0, H2.out.below hb3, by rw [hw3]; simp, hb02⟩
  clear hw3 hb3 hb02 hL0
  go_wp2_with fail
  go_loopg [23] m (fun q iv wr => ∃ (p : Nat) (f : Nat → Value), q = m - p ∧ p ≤ m ∧ iv = .int .i64 p ∧ AlAt w wr m es w2.heap.size f p ∧ AbAt w1 wr m (Br.wds m) es ga ra A)
  case atStart => exact ⟨0, _, rfl, Nat.zero_le _, rfl, H3.out.1, H3.out.2.1⟩
  case round =>
    obtain ⟨p, f, rfl, hp, rfl, hL, hB⟩ := hrel
    obtain ⟨wo, rfl⟩ : ∃ wo, wo = wr := ⟨_, rfl⟩
    by_cases hlt : p < m
    · have q0 : (0 : Int) ≤ (p : Int) := by omega
      have q1 : (p : Int) < (m : Int) := by omega
      have c0 := hB.r.lst.cell hlt
      have hAl := allRow_any (ra p).b (ra p).o (Br.wds m) (ra p).c wo
      have hT0 : TabW wo := H1.out.2.2.2.below H1.out.2.2.2.lt hL.bl
      obtain ⟨wx, hwx⟩ : ∃ wx, wx = wo.alloc (.cells #[rowV (ra p).b (ra p).o (Br.wds m) (ra p).c] 72) := ⟨_, rfl⟩
      have hbx : Below wo.heap.size wo wx := by rw [hwx]; exact (Below.refl _ _).alloc (Nat.le_refl _) _
      have hcx : wx.cell? ⟨wo.heap.size, 0, none⟩ = some (rowV (ra p).b (ra p).o (Br.wds m) (ra p).c) := by rw [hwx]; exact (Boxed.new wo _ _).cell
      have hCo := collect_any (ra p).b (ra p).o (Br.wds m) (ra p).c wo.heap.size (A p) wx (by unfold Br.wds; omega) hcx ((hB.r.row p hlt).below hbx) (hT0.below hT0.lt hbx)
      rw [hB.els (by unfold Br.wds; omega) p] at hCo
      have HP : Hid _ := And.intro hAl (And.intro hCo (And.intro hwx (And.intro hbx (And.intro hL hB))))
      clear hAl hCo hwx hbx hcx hL hB hT0
      unfold Lc.v at c0
      unfold rowV at c0 HP
      have hlen : (Br.els (A p) m).length ≤ m := Br.els_len _ _
      go_wp2_with (first
        | (have hq := HP.out.1; go_at_call 32; refine Calls.mono HP.out.1 ?_; rintro r3 w4 ⟨rfl, hw4⟩; clear hq; rw [← HP.out.2.2.1] at hw4; obtain rfl := hw4.symm; clear hw4)
        | (go_at_call 31; refine Calls.mono HP.out.2.1 ?_; rintro r5 w5 ⟨u, rfl, hO, hb5⟩; obtain ⟨au, cu, rfl⟩ := row_shape hO; have H5 : Hid _ := And.intro hO hb5; have d0 := ((HP.out.2.2.2.2.1.lst.below HP.out.2.2.2.1).below hb5).cell hlt; have d1 := ((HP.out.2.2.2.2.1.lst.below HP.out.2.2.2.1).below hb5).free p; simp only [Nat.lt_irrefl, if_false] at d0; clear hO hb5))
      have hl5 := (HP.out.2.2.2.2.1.lst.below HP.out.2.2.2.1).below H5.out.2
      have hb5 := HP.out.2.2.2.1.trans (H5.out.2.mono HP.out.2.2.2.1.size)
      have hn := HP.out.2.2.2.2.1.more hb5 H5.out.1 (Nat.le_trans HP.out.2.2.2.2.1.bl.size HP.out.2.2.2.1.size) (fun q hq => HP.out.2.2.2.2.2.sim p q hlt hq)
      have hn2 := (HP.out.2.2.2.2.2.below hb5).other (p := p) (u := .slice au (natI (Br.els (A p) m)).length cu) hl5 H2.out.bl.size
      have HF : Hid _ := And.intro hn hn2
      clear hl5 hb5 hn hn2
      go_roundg (m - (p + 1))
      case measure => omega
      case rel => exact ⟨p + 1, _, rfl, by omega, by go_num, HF.out.1, HF.out.2⟩
    · obtain rfl : m = p := by omega
      have q1 : ¬ (m : Int) < (m : Int) := by omega
      have HP : Hid _ := And.intro hL hB
      clear hL hB
      go_wp2_with fail
      go_ret2
      exact ⟨w2.heap.size, rfl, f, HP.out.1⟩
end
section
open Go.RowKit Go.Maps
attribute [local go_sem ↓] Go.wp_at_zero Go.wp_at_succ
set_option linter.unusedSimpArgs false in
set_option maxRecDepth 100000 in
set_option maxHeartbeats 4000000 in
theorem mbelow_ok (hS : SortOk 1000000) (m kk p q : Nat) (s : Int) (v : Value) (es : List Sy.Ed) (a : Addr) (w : World) (hA : Sent w 0 a) (hT : TabW w) (hv : BEdges.Has w v es) (hm : es.length ≤ 100000) (hq : Sy.right m kk s es = true) (hn : m ≤ 300) (hp : p < m) (hqm : q < m) :
    Calls Tryd.prog 13 #[sysV m kk s v, .int .i64 p, .int .i64 q] w fun r w' => ∃ b, r = .returned (.tuple #[.bool b, .nilIface]) ∧ (b = true ↔ Sm.Sims (EE es) p q) ∧ Below w.heap.size w w' := by
  have hv0 := hv
  obtain ⟨ao, cap, rfl, _⟩ := hv0
  obtain ⟨L, hL⟩ : ∃ L, L = es.length := ⟨_, rfl⟩
  obtain ⟨w1, hw1⟩ : ∃ w1, w1 = w.alloc (.cells #[.int .i64 m, .int .i64 kk, .int .i64 s, .slice ao L cap] 24) := ⟨_, rfl⟩
  have hb1 : Below w.heap.size w w1 := by rw [hw1]; exact (Below.refl _ _).alloc (Nat.le_refl _) _
  have hg1 : w1.heap[w.heap.size]? = some (.cells #[.int .i64 m, .int .i64 kk, .int .i64 s, .slice ao L cap] 24 (0, 0)) := by rw [hw1]; exact heap_alloc_new w _
  have hN := aboveOf_ok hS m kk s _ es a w1 (hA.below hb1) (hT.below hT.lt hb1) (hv.below hb1) hm hq hn
  rw [← hL] at hN ⊢
  unfold sysV at hN ⊢
  obtain ⟨x0, x1, x2, x3⟩ := four_cells9 hg1
  have H1 : Hid _ := And.intro hN (And.intro hb1 hw1)
  have g5 : ¬ min (p : Int) (q : Int) < 0 := by omega
  have g6 : ¬ (m : Int) ≤ max (p : Int) (q : Int) := by omega
  have g7 : (0 : Int) ≤ (p : Int) := by omega
  have g8 : (p : Int) < (m : Int) := by omega
  clear hA hT hv hm hq hN hb1 hw1 hL
  go_enter Tryd.func13, Tryd.ntmps13
  go_upto_region 1 with fail
  rw [← H1.out.2.2]
  go_wp2_with (go_at_call 15; refine Calls.mono H1.out.1 ?_; rintro r2 w2 ⟨ga, ra, A, rfl, hAb⟩; have H2 : Hid (AbAt w1 w2 m (Br.wds m) es ga ra A) := hAb; have y0 := cell_up x0 hAb.bl; have y1 := hAb.r.lst.cell hp; unfold Lc.v rowV at y1; have hHs := hasRow_any (ra p).b (ra p).o (Br.wds m) (ra p).c q (A p) w2 (by unfold Br.wds; omega) (by unfold Br.wds; omega) (hAb.r.row p hp); unfold rowV at hHs; have H3 : Hid _ := hHs; clear hAb hHs)
  refine Calls.mono H3.out ?_
  rintro r3 w3 ⟨rfl, hw3⟩
  obtain rfl := hw3.symm
  clear hw3
  go_wp2_with fail
  go_ret2
  exact ⟨_, rfl, H2.out.sim p q hp hqm, H1.out.2.1.trans (H2.out.bl.mono H1.out.2.1.size)⟩
end
section
open Go.RowKit Go.Maps Go.Shelf
attribute [local go_sem] Oper.semAt_some
/-- The first one that is above a state and below it. -/
def leaS (A : Nat → Nat → Bool) (n p : Nat) : Nat := ((Br.els (A p) n).find? fun q => A q p).getD p
theorem els_before {S : Nat → Bool} {x z : Nat} (h : z ∈ Br.els S x) : z < x := (Br.els_mem.1 h).1
theorem lea_hit {A : Nat → Nat → Bool} {n p x : Nat} (hx : x < n) (hs : A p x = true) (ha : A x p = true) (hno : ∀ z ∈ Br.els (A p) x, A z p = false) : leaS A n p = x := by
  unfold leaS
  have e : ∃ r, Br.els (A p) n = Br.els (A p) x ++ x :: r := by
    obtain ⟨k, rfl⟩ : ∃ k, n = x + 1 + k := ⟨n - x - 1, by omega⟩
    clear hx
    induction k with
    | zero => exact ⟨[], by rw [Nat.add_zero, Br.els_next (Nat.le_refl x) (fun z h1 h2 => by omega) hs]⟩
    | succ k ih =>
      obtain ⟨r, hr⟩ := ih
      cases h : A p (x + 1 + k) with
      | true => exact ⟨r ++ [x + 1 + k], by rw [show x + 1 + (k + 1) = x + 1 + k + 1 by omega, Br.els_next (Nat.le_refl _) (fun z h1 h2 => by omega) h, hr]; simp⟩
      | false => exact ⟨r, by rw [show x + 1 + (k + 1) = x + 1 + k + 1 by omega, Br.els_skip (k := x + 1 + k) (by omega) (fun z h1 h2 => by obtain rfl : x + 1 + k = z := (by omega); exact h), hr]⟩
  obtain ⟨r, hr⟩ := e
  rw [hr, List.find?_append, List.find?_eq_none.2 (fun z hz => by rw [hno z hz]; simp)]
  simp [ha]
theorem lea_none {A : Nat → Nat → Bool} {n p : Nat} (hno : ∀ z ∈ Br.els (A p) n, A z p = false) : leaS A n p = p := by
  unfold leaS
  rw [List.find?_eq_none.2 (fun z hz => by rw [hno z hz]; simp)]
  rfl
set_option linter.unusedSimpArgs false in
set_option maxRecDepth 100000 in
set_option maxHeartbeats 8000000 in
theorem leastOf_any {w0 w : World} {n d ga p : Nat} {es : List Sy.Ed} {ra : Nat → Lc} {A : Nat → Nat → Bool} (hd : d = Br.wds n) (hn : n ≤ 1000) (h : AbAt w0 w n d es ga ra A) (hT : TabW w) (hp : p < n) :
    Calls Tryd.prog 17 #[.slice (some ⟨ga, 0, none⟩) n n, .int .i64 p] w fun r w' => r = .returned (.int .i64 (leaS A n p : Nat)) ∧ Below w.heap.size w w' := by
  have hdd : d ≤ 10000 := by rw [hd]; unfold Br.wds; omega
  have hn64 : n ≤ 64 * d := by rw [hd]; unfold Br.wds; omega
  have c0 := h.r.lst.cell hp
  have H0 : Hid (AbAt w0 w n d es ga ra A ∧ TabW w) := ⟨h, hT⟩
  have q0 : (0 : Int) ≤ (p : Int) := by omega
  have q1 : (p : Int) < (n : Int) := by omega
  clear h hT hd
  unfold Lc.v rowV at c0
  refine (callsIn_wide (n := 3)).1 ?_
  refine callsIn_of_wp_marks Tryd.func17 rfl trivial ?_ rfl
  simp only [Tryd.ntmps17, List.size_toArray, List.length_cons, List.length_nil, Nat.reduceAdd, Nat.reduceSub, Array.replicate_succ, Array.replicate_zero, List.push_toArray, List.append_toArray, List.nil_append, List.cons_append]
  gi_upto_region 1 with fail
  obtain ⟨w3, hw3⟩ : ∃ w3, w3 = ((w.alloc (.cells #[.slice (some ⟨ga, 0, none⟩) n n] 52)).alloc (.cells #[.int .i64 p] 3)).alloc (.cells #[.int .i64 0] 3) := ⟨_, rfl⟩
  have hz3 : w3.heap.size = w.heap.size + 3 := by rw [hw3]; simp
  have hb3 : Below w.heap.size w w3 := by rw [hw3]; exact (((Below.refl _ w).alloc (Nat.le_refl _) _).alloc (by simp) _).alloc (by simp; omega) _
  have hx2 : Boxed w3 w.heap.size 52 (.slice (some ⟨ga, 0, none⟩) n n) := by rw [hw3]; exact ((Boxed.new w _ _).alloc _).alloc _
  have hx3 : Boxed w3 (w.heap.size + 1) 3 (.int .i64 p) := by
    rw [hw3]
    have := Boxed.new (w.alloc (.cells #[.slice (some ⟨ga, 0, none⟩) n n] 52)) 3 (.int .i64 p)
    rw [World.size_alloc] at this
    exact this.alloc _
  have hx4 : Boxed w3 (w.heap.size + 1 + 1) 3 (.int .i64 0) := by
    rw [hw3]
    have := Boxed.new ((w.alloc (.cells #[.slice (some ⟨ga, 0, none⟩) n n] 52)).alloc (.cells #[.int .i64 p] 3)) 3 (.int .i64 0)
    rw [World.size_alloc, World.size_alloc] at this
    exact this
  rw [← hw3]
  have c0 := cell_up c0 hb3
  have d2 := hx2.cell
  have d3 := hx3.cell
  have hA := allRow_any (ra p).b (ra p).o d (ra p).c w3
  unfold rowV allV at hA
  rw [hz3] at hA
  have H3 : Hid (Boxed w3 w.heap.size 52 (.slice (some ⟨ga, 0, none⟩) n n) ∧ Boxed w3 (w.heap.size + 1) 3 (.int .i64 p) ∧ Boxed w3 (w.heap.size + 1 + 1) 3 (.int .i64 0) ∧ Below w.heap.size w w3) := ⟨hx2, hx3, hx4, hb3⟩
  have HA : Hid _ := hA
  clear hw3 hx2 hx3 hx4 hb3 hA
  gi_wp2
  refine ⟨trivial, (callsIn_wide.2 HA.out).mono ?_⟩
  rintro e w6 ⟨rfl, hw6⟩
  have hz6 : w6.heap.size = w.heap.size + 4 := by rw [hw6]; simp; omega
  have hb36 : Below w3.heap.size w3 w6 := by rw [hw6]; exact (Below.refl _ _).alloc (Nat.le_refl _) _
  have hxb : w6.cell? ⟨w.heap.size + 3, 0, none⟩ = some (rowV (ra p).b (ra p).o d (ra p).c) := by
    rw [hw6]
    have := (Boxed.new w3 72 (.slice (some ⟨(ra p).b, (ra p).o, none⟩) d (ra p).c)).cell
    rw [hz3] at this
    exact this
  have hb6 : Below w.heap.size w w6 := H3.out.2.2.2.trans (hb36.mono H3.out.2.2.2.size)
  have lbl := (H0.out.1.r.row p hp).lt
  have ltb := H0.out.2.lt
  have hb4 : Boxed w6 (w.heap.size + 1 + 1) 3 (.int .i64 0) := by
    have h1 : w3.heap[w.heap.size + 1 + 1]? = some (.cells #[.int .i64 0] 3 (0, 0)) := H3.out.2.2.1
    exact (hb36.block _ (t_lt h1)).trans h1
  have H6 : Hid (Below w.heap.size w w6 ∧ (w6.cell? ⟨w.heap.size, 0, none⟩ = some (.slice (some ⟨ga, 0, none⟩) n n) ∧ w6.cell? ⟨w.heap.size + 1, 0, none⟩ = some (.int .i64 p) ∧ Boxed w6 (w.heap.size + 1 + 1) 3 (.int .i64 0)) ∧ w6.cell? ⟨w.heap.size + 3, 0, none⟩ = some (rowV (ra p).b (ra p).o d (ra p).c)) :=
    ⟨hb6, ⟨cell_up H3.out.1.cell hb36, cell_up H3.out.2.1.cell hb36, hb4⟩, hxb⟩
  clear hw6 hb36 hxb hb6 HA H3 hb4 c0 d2 d3
  gi_wp2
  refine loop_tells rfl (by omega) (gf := 47) (lb := #[.pointer (some ⟨w.heap.size + 3, 0, none⟩)]) rfl trivial (enters_of Tryd.func47 (by kernel_rfl) rfl)
    (row_tells 2 (ra p).b (ra p).o d (ra p).c (w.heap.size + 3) (A p) w6 hdd H6.out.2.2 ((H0.out.1.r.row p hp).below H6.out.1) (H0.out.2.below H0.out.2.lt H6.out.1)) (fun h k => h.trans k) (fun W l o o' hl _ _ _ => KpB.put (B := w.heap.size + 4) (by omega) (by omega) (by omega) W l o' (by omega)) (fun pre x W l o o' _ hl ho h => h) (Below.refl _ _) (fun _ => rfl)
    (fun pre W => (∀ z ∈ pre, A z p = false) ∧ Below w6.heap.size w6 W)
    (fun c pre W => (c = .ret ∧ W.cell? ⟨w.heap.size + 1 + 1, 0, none⟩ = some (.int .i64 (leaS A n p : Nat))) ∧ Below w.heap.size w W)
    (fun s A B row hs hg hr => ⟨hs.1, ownFrom_below (β := Unit) (Nat.le_refl _) (Nat.le_refl _) () A B row hs.2 hg hr⟩)
    (fun c s A B row hs hg hr => ⟨⟨hs.1.1, cell_kept hs.1.2 hg (fun r e => (hr r e).2)⟩, ownFrom_below (β := Unit) (Nat.le_refl _) H6.out.1.size () A B row hs.2 hg hr⟩)
    ⟨fun z hz => by simp at hz, Below.refl _ _⟩
    (fun x => { tmps := #[.slice (some ⟨ga, 0, none⟩) n n, .int .i64 p, (.pointer (some ⟨w.heap.size, 0, none⟩)), (.pointer (some ⟨w.heap.size + 1, 0, none⟩)), (.pointer (some ⟨w.heap.size + 1 + 1, 0, none⟩)), .int .i64 x, .slice (some ⟨ga, 0, none⟩) n n, .int .i64 p, (.pointer (some ⟨ga, p, none⟩)), .slice (some ⟨(ra p).b, (ra p).o, none⟩) d (ra p).c, (.func (.func 47) #[] #[.pointer (some ⟨w.heap.size + 3, 0, none⟩)]), .int .i64 x, undef, undef, undef, undef, undef, undef, undef, undef], defers := [] }) ?assign ?body ?done ?stop
  case assign =>
    intro l x W K hK
    gi_wp2
    exact hK
  case body =>
    rintro l pre x W ⟨hpre, hB⟩ ⟨hG, hx, hxs⟩
    have hxn := H0.out.1.bd p x hxs
    have hBw : Below w.heap.size w W := H6.out.1.trans (hB.mono (by omega))
    have hAW := H0.out.1.below hBw
    have c2 := cell_up H6.out.2.1.1 hB
    have c3 := cell_up H6.out.2.1.2.1 hB
    have h4 : Boxed W (w.heap.size + 1 + 1) 3 (.int .i64 0) := by
      have h1 : w6.heap[w.heap.size + 1 + 1]? = some (.cells #[.int .i64 0] 3 (0, 0)) := H6.out.2.1.2.2
      exact (hB.block _ (t_lt h1)).trans h1
    have c4 := h4.cell
    have f4 := h4.frozen
    have c1 := hAW.r.lst.cell hxn
    have hHs := fun W' (hb : Below W.heap.size W W') => hasRow_any (ra x).b (ra x).o d (ra x).c p (A x) W' hdd (by omega) ((hAW.r.row x hxn).below hb)
    obtain ⟨bl, hbl⟩ : ∃ bl, bl = A x p := ⟨_, rfl⟩
    rw [← hbl] at hHs
    have HW : Hid _ := And.intro hHs (And.intro hbl (And.intro hpre (And.intro hB (And.intro hBw (And.intro hG (And.intro hxs h4))))))
    have q2 : (0 : Int) ≤ (x : Int) := by omega
    have q3 : (x : Int) < (n : Int) := by omega
    clear hHs hbl hpre hB hBw hG hxs h4 hAW
    unfold Lc.v rowV at c1
    unfold rowV at HW
    gi_wp2
    refine region_held_round (S := (fun w' => (w'.cell? ⟨w.heap.size, 0, none⟩ = some (.slice (some ⟨ga, 0, none⟩) n n) ∧ w'.cell? ⟨w.heap.size + 1, 0, none⟩ = some (.int .i64 p) ∧ w'.cell? ⟨ga, x, none⟩ = some (.slice (some ⟨(ra x).b, (ra x).o, none⟩) d (ra x).c)) ∧ Hid True)) (by kernel_rfl) (by kernel_rfl) (by rintro ⟨a9, w9, h9⟩; exact h9) ?_ (fun hHeld => ?_)
    · exact ⟨⟨c2, c3, c1⟩, trivial⟩
    refine wpAnyH_take (i := 0) (oi := _) (v := ?_) rfl (by kernel_rfl) (by kernel_rfl) (by kernel_rfl) (fun _ _ _ h => h) (Or.inl ⟨by rfl, ?_⟩) (by assumption) ?_
    rotate_left
    · (intro w hSw; (try dsimp only at hSw); go_simp; (try with_reducible rfl))
    (try simp only [List.getElem_toArray, List.getElem_cons_succ, List.getElem_cons_zero, Act.put, List.setIfInBounds_toArray, List.set_cons_zero, List.set_cons_succ])
    refine wpAnyH_take (i := 1) (oi := _) (v := ?_) rfl (by kernel_rfl) (by kernel_rfl) (by kernel_rfl) (fun _ _ _ h => h) (Or.inl ⟨by rfl, ?_⟩) (by assumption) ?_
    rotate_left
    · (intro w hSw; (try dsimp only at hSw); go_simp; (try with_reducible rfl))
    (try simp only [List.getElem_toArray, List.getElem_cons_succ, List.getElem_cons_zero, Act.put, List.setIfInBounds_toArray, List.set_cons_zero, List.set_cons_succ])
    refine wpAnyH_take (i := 2) (oi := _) (v := ?_) rfl (by kernel_rfl) (by kernel_rfl) (by kernel_rfl) (fun _ _ _ h => h) (Or.inl ⟨by rfl, ?_⟩) (by assumption) ?_
    rotate_left
    · (intro w hSw; (try dsimp only at hSw); go_simp; (try with_reducible rfl))
    (try simp only [List.getElem_toArray, List.getElem_cons_succ, List.getElem_cons_zero, Act.put, List.setIfInBounds_toArray, List.set_cons_zero, List.set_cons_succ])
    refine wpAnyH_take (i := 3) (oi := _) (v := ?_) rfl (by kernel_rfl) (by kernel_rfl) (by kernel_rfl) (fun _ _ _ h => h) (Or.inl ⟨by rfl, ?_⟩) (by assumption) ?_
    rotate_left
    · (intro w hSw; (try dsimp only at hSw); go_simp; (try with_reducible rfl))
    (try simp only [List.getElem_toArray, List.getElem_cons_succ, List.getElem_cons_zero, Act.put, List.setIfInBounds_toArray, List.set_cons_zero, List.set_cons_succ])
    refine wpAnyH_take (i := 4) (oi := _) (v := ?_) rfl (by kernel_rfl) (by kernel_rfl) (by kernel_rfl) (fun _ _ _ h => h) (Or.inl ⟨by rfl, ?_⟩) (by assumption) ?_
    rotate_left
    · (intro w hSw; (try dsimp only at hSw); go_simp; (try with_reducible rfl))
    (try simp only [List.getElem_toArray, List.getElem_cons_succ, List.getElem_cons_zero, Act.put, List.setIfInBounds_toArray, List.set_cons_zero, List.set_cons_succ])
    refine wpAnyH_ready (rs := [5]) (by kernel_rfl) (by simp) ?_
    refine AllReadyH.cons (o := _) rfl (fun K hK => ?_) ?_
    · (go_simp; go_at_call 30; refine Calls.mono (HW.out.1 _ (Below.refl _ _).drew) ?_; rintro r3 w3 ⟨rfl, hw3⟩; obtain rfl := hw3.symm; clear hw3)
      (try go_wp2_with fail)
      refine hK.out _ _ ?_ (fun hHeld => ?_)
      · exact ⟨⟨c2, c3, c1⟩, trivial⟩
      clear hK K
      (try simp only [List.getElem_toArray, List.getElem_cons_succ, List.getElem_cons_zero, Act.put, List.setIfInBounds_toArray, List.set_cons_zero, List.set_cons_succ])
      refine wpAnyH_done (by kernel_rfl) ?_ _
      (try go_simp)
      clear hHeld
      cases bl
      · gi_wp2
        refine ⟨(KeepsFrom.of_below (Below.refl _ _).drew), fun g hg i v hv => hv, ⟨fun z hz => ?_, HW.out.2.2.2.1.trans ((Below.refl _ _).drew.mono (HW.out.2.2.2.1.size))⟩⟩
        rcases List.mem_append.1 hz with h1 | h1
        · exact HW.out.2.2.1 z h1
        · rw [List.mem_singleton.1 h1]; exact HW.out.2.1.symm
      · gi_wp2
        refine ⟨?_, ⟨rfl, ?_⟩, ?_⟩
        · exact ((KeepsOthers.drew _).trans (KeepsOthers.setCell _ _ _)).from _
        · rw [lea_hit hxn HW.out.2.2.2.2.2.2.1 HW.out.2.1.symm (fun z hz => HW.out.2.2.1 z (by rw [HW.out.2.2.2.2.2.1]; exact hz))]
          exact World.cell?_setCell_same' _ _ _ (by show (W.cell? _).isSome = true; rw [c4]; rfl)
        · exact (HW.out.2.2.2.2.1.drew).setCell (p := ⟨w.heap.size + 1 + 1, 0, none⟩) (by simp; omega) _
    exact AllReadyH.nil
  case done =>
    rintro D xs W hD rfl ⟨hno, hB⟩ hKD
    have c3 := cell_up H6.out.2.1.2.1 hB
    have h4 : Boxed W (w.heap.size + 1 + 1) 3 (.int .i64 0) := by
      have h1 : w6.heap[w.heap.size + 1 + 1]? = some (.cells #[.int .i64 0] 3 (0, 0)) := H6.out.2.1.2.2
      exact (hB.block _ (t_lt h1)).trans h1
    have c4 := h4.cell
    have f4 := h4.frozen
    have HW : Hid _ := And.intro hno (And.intro hB h4)
    clear hno hB h4
    gi_wp2
    obtain ⟨W9, hW9⟩ : ∃ W9, W9 = W.setCell ⟨w.heap.size + 1 + 1, 0, none⟩ (.int .i64 p) := ⟨_, rfl⟩
    have hK9 : W9.heap[D]? = some (.deferred (some [])) := by
      rw [hW9]
      exact (KeepsOthers.setCell _ _ _).same D _ hKD rfl
    have k5 : W9.cell? ⟨w.heap.size + 1 + 1, 0, none⟩ = some (.int .i64 p) := by
      rw [hW9]
      exact World.cell?_setCell_same' _ _ _ (by rw [c4]; rfl)
    have hB9 : Below w.heap.size w W9 := by
      rw [hW9]
      exact (H6.out.1.trans (HW.out.2.1.mono (by omega))).setCell (p := ⟨w.heap.size + 1 + 1, 0, none⟩) (by simp; omega) _
    rw [← hW9]
    refine ⟨by simp, .inl ⟨_, _, rfl, run_takeDeferred hK9, ?_⟩⟩
    have k5' := cell_kept k5 (grownBy_putObj' _ D (.deferred none)) (fun r e => by cases e; exact ⟨_, hK9, rfl⟩)
    refine ⟨.int .i64 p, ?_, ?_, ?_⟩
    · simp [results, Tryd.f17, go_sem, k5']
    · rw [lea_none (fun z hz => HW.out.1 z (by rw [H0.out.1.els hn64]; exact hz))]
    · exact hB9.trans (belowK_b (w := w) (Nat.le_refl _) W9 D _ _ (by omega) hK9 rfl rfl)
  case stop =>
    rintro D c pre W hD _ ⟨⟨rfl, k5⟩, hB⟩ hKD
    gi_wp2
    refine ⟨by simp, .inl ⟨_, _, rfl, run_takeDeferred hKD, ?_⟩⟩
    have k5' := cell_kept k5 (grownBy_putObj' _ D (.deferred none)) (fun r e => by cases e; exact ⟨_, hKD, rfl⟩)
    refine ⟨.int .i64 (leaS A n p : Nat), ?_, rfl, ?_⟩
    · simp [results, Tryd.f17, go_sem, k5']
    · exact hB.trans (belowK_b (w := w) (Nat.le_refl _) W D _ _ (by omega) hKD rfl rfl)
end
namespace Sy
theorem place_lt {c : Int} {l : List Int} : place c l < l.length ↔ c ∈ l := by
  induction l with
  | nil => simp [place]
  | cons a r ih =>
    unfold place
    by_cases h : a = c
    · simp [h]
    · rw [if_neg h, List.length_cons, Nat.add_lt_add_iff_right, ih, List.mem_cons]
      exact ⟨fun h1 => .inr h1, fun h1 => h1.elim (fun e => absurd e.symm h) id⟩
theorem place_not {c : Int} {l : List Int} (h : c ∉ l) : place c l = l.length := by
  have h1 := place_le c l
  have h2 : ¬ place c l < l.length := fun h2 => h (place_lt.1 h2)
  omega
theorem place_at {c : Int} {l : List Int} (h : c ∈ l) : l[place c l]? = some c := by
  induction l with
  | nil => simp at h
  | cons a r ih =>
    unfold place
    by_cases h1 : a = c
    · simp [h1]
    · rw [if_neg h1, List.getElem?_cons_succ]
      exact ih ((List.mem_cons.1 h).elim (fun e => absurd e.symm h1) id)
theorem place_inj {a b : Int} {l : List Int} (ha : a ∈ l) (hb : b ∈ l) (h : place a l = place b l) : a = b := by
  have h1 := place_at ha
  rw [h, place_at hb] at h1
  exact (Option.some.inj h1).symm
theorem place_left {c : Int} {a : List Int} (b : List Int) (h : c ∈ a) : place c (a ++ b) = place c a := by
  induction a with
  | nil => simp at h
  | cons x r ih =>
    simp only [List.cons_append, place]
    by_cases h1 : x = c
    · simp [h1]
    · rw [if_neg h1, if_neg h1, ih ((List.mem_cons.1 h).elim (fun e => absurd e.symm h1) id)]
/-- Those seen, with one more. -/
def more (c : Int) (seen : List Int) : List Int := if place c seen < seen.length then seen else seen ++ [c]
theorem more_mem (c : Int) (seen : List Int) : c ∈ more c seen := by
  unfold more
  split
  · next h => exact place_lt.1 h
  · exact List.mem_append_right _ (List.mem_singleton.2 rfl)
theorem more_pre (c : Int) (seen : List Int) : ∃ t, more c seen = seen ++ t := by
  unfold more
  split
  · exact ⟨[], by simp⟩
  · exact ⟨[c], rfl⟩
theorem more_place (c : Int) (seen : List Int) : place c (more c seen) = place c seen := by
  unfold more
  split
  · rfl
  · next h =>
    have h1 : c ∉ seen := fun h1 => h (place_lt.2 h1)
    rw [place_app c seen [c] (fun x hx e => h1 (by rw [← e]; exact hx)), place_not h1]
    simp [place]
theorem seenG_pre (l : List Int) : ∀ seen, ∃ t, seenG seen l = seen ++ t := by
  induction l with
  | nil => intro seen; exact ⟨[], by simp [seenG]⟩
  | cons c r ih =>
    intro seen
    obtain ⟨t, ht⟩ := ih (more c seen)
    obtain ⟨u, hu⟩ := more_pre c seen
    refine ⟨u ++ t, ?_⟩
    show seenG (more c seen) r = _
    rw [ht, hu, List.append_assoc]
theorem seenG_mem (l : List Int) : ∀ seen, ∀ z ∈ l, z ∈ seenG seen l := by
  induction l with
  | nil => intro seen z h; simp at h
  | cons c r ih =>
    intro seen z hz
    show z ∈ seenG (more c seen) r
    rcases List.mem_cons.1 hz with rfl | hz
    · obtain ⟨t, ht⟩ := seenG_pre r (more z seen)
      rw [ht]; exact List.mem_append_left _ (more_mem z seen)
    · exact ih _ z hz
theorem canonG_map (l : List Int) : ∀ seen, canonG seen l = l.map fun z => place z (seenG seen l) := by
  induction l with
  | nil => intro seen; rfl
  | cons c r ih =>
    intro seen
    show place c seen :: canonG (more c seen) r = place c (seenG (more c seen) r) :: r.map fun z => place z (seenG (more c seen) r)
    rw [ih]
    congr 1
    obtain ⟨t, ht⟩ := seenG_pre r (more c seen)
    rw [ht, place_left t (more_mem c seen), more_place]
theorem canon_map (l : List Int) : canon l = l.map fun z => place z (seenG [] l) := canonG_map l []
theorem place_map (f : Int → Int) (c : Int) (l : List Int) (h : ∀ x ∈ l, f x = f c → x = c) : place (f c) (l.map f) = place c l := by
  induction l with
  | nil => rfl
  | cons a r ih =>
    simp only [List.map_cons, place]
    by_cases h1 : a = c
    · simp [h1]
    · rw [if_neg h1, if_neg (fun e => h1 (h a List.mem_cons_self e)), ih fun x hx => h x (List.mem_cons_of_mem _ hx)]
/-- Numbers that are renamed one to one have the same one form. -/
theorem canonG_inj (f : Int → Int) (l : List Int) : ∀ seen, (∀ x ∈ seen ++ l, ∀ y ∈ seen ++ l, f x = f y → x = y) → canonG (seen.map f) (l.map f) = canonG seen l := by
  induction l with
  | nil => intro seen _; rfl
  | cons c r ih =>
    intro seen h
    have hp : place (f c) (seen.map f) = place c seen := place_map f c seen fun x hx e => h x (List.mem_append_left _ hx) c (List.mem_append_right _ List.mem_cons_self) e
    have hm : more (f c) (seen.map f) = (more c seen).map f := by
      unfold more
      rw [hp, List.length_map]
      split
      · rfl
      · simp
    show place (f c) (seen.map f) :: canonG (more (f c) (seen.map f)) (r.map f) = place c seen :: canonG (more c seen) r
    rw [hp, hm, ih (more c seen)]
    have hsub : ∀ x ∈ more c seen ++ r, x ∈ seen ++ c :: r := fun x hx => by
      rcases List.mem_append.1 hx with hx | hx
      · unfold more at hx
        split at hx
        · exact List.mem_append_left _ hx
        · rcases List.mem_append.1 hx with hx | hx
          · exact List.mem_append_left _ hx
          · rw [List.mem_singleton.1 hx]; exact List.mem_append_right _ List.mem_cons_self
      · exact List.mem_append_right _ (List.mem_cons_of_mem _ hx)
    exact fun x hx y hy e => h x (hsub x hx) y (hsub y hy) e
theorem canon_inj (f : Int → Int) (l : List Int) (h : ∀ x ∈ l, ∀ y ∈ l, f x = f y → x = y) : canon (l.map f) = canon l := canonG_inj f l [] (by simpa using h)
theorem natI_map (l : List Int) : natI (canon l) = l.map fun z => ((place z (seenG [] l) : Nat) : Int) := by
  rw [canon_map]; simp [natI]
/-- It is its own one form. -/
theorem canon_idem (l : List Int) : canon (natI (canon l)) = canon l := by
  rw [natI_map]
  refine canon_inj _ l fun x hx y hy e => place_inj (seenG_mem l [] x hx) (seenG_mem l [] y hy) (by omega)
/-- It keeps who is together. -/
theorem canon_eq {l : List Int} {i k : Nat} {x y : Int} (hi : l[i]? = some x) (hk : l[k]? = some y) {u v : Int} (hu : (natI (canon l))[i]? = some u) (hv : (natI (canon l))[k]? = some v) : u = v ↔ x = y := by
  rw [natI_map, List.getElem?_map, hi] at hu
  rw [natI_map, List.getElem?_map, hk] at hv
  simp only [Option.map_some, Option.some.injEq] at hu hv
  subst hu; subst hv
  constructor
  · intro e
    exact place_inj (seenG_mem l [] x (List.mem_of_getElem? hi)) (seenG_mem l [] y (List.mem_of_getElem? hk)) (by omega)
  · rintro rfl; rfl
/-- Two lists have one just if they say the same together. -/
theorem canon_iff {a b : List Int} (hl : a.length = b.length) : canon a = canon b ↔ ∀ (i k : Nat) (x y u v : Int), a[i]? = some x → a[k]? = some y → b[i]? = some u → b[k]? = some v → (x = y ↔ u = v) := by
  constructor
  · intro h i k x y u v hx hy hu hv
    have hil := (List.getElem?_eq_some_iff.1 hx).1
    have hkl := (List.getElem?_eq_some_iff.1 hy).1
    have hn : (natI (canon a)).length = a.length := by rw [natI_map, List.length_map]
    obtain ⟨p, hp⟩ : ∃ p, (natI (canon a))[i]? = some p := ⟨_, List.getElem?_eq_getElem (by rw [hn]; exact hil)⟩
    obtain ⟨q, hq⟩ : ∃ q, (natI (canon a))[k]? = some q := ⟨_, List.getElem?_eq_getElem (by rw [hn]; exact hkl)⟩
    exact (canon_eq hx hy hp hq).symm.trans (canon_eq hu hv (by rw [← h]; exact hp) (by rw [← h]; exact hq))
  · intro h
    have hb : b = a.map fun z => (b[place z a]?).getD 0 := by
      apply List.ext_getElem?
      intro i
      by_cases hi : i < a.length
      · have hx : a[i]? = some a[i] := List.getElem?_eq_getElem hi
        have hu : b[i]? = some (b[i]'(by omega)) := List.getElem?_eq_getElem _
        have hm : a[i] ∈ a := List.getElem_mem hi
        have hp := place_at hm
        have hpl : place a[i] a < a.length := place_lt.2 hm
        have hv : b[place a[i] a]? = some (b[place a[i] a]'(by omega)) := List.getElem?_eq_getElem _
        rw [List.getElem?_map, hx, hu]
        simp only [Option.map_some]
        rw [hv]
        have h2 := (h i (place a[i] a) _ _ _ _ hx hp hu hv).1 rfl
        rw [h2]; rfl
      · rw [List.getElem?_eq_none (by omega), List.getElem?_eq_none (by rw [List.length_map]; omega)]
    rw [hb]
    refine (canon_inj _ a fun x hx y hy e => ?_).symm
    have hxl : place x a < b.length := by rw [← hl]; exact place_lt.2 hx
    have hyl : place y a < b.length := by rw [← hl]; exact place_lt.2 hy
    have hu : b[place x a]? = some b[place x a] := List.getElem?_eq_getElem hxl
    have hv : b[place y a]? = some b[place y a] := List.getElem?_eq_getElem hyl
    rw [hu, hv] at e
    exact (h _ _ _ _ _ _ (place_at hx) (place_at hy) hu hv).2 e
theorem formG_canon (l : List Int) : ∀ seen, formG seen.length (natI (canonG seen l)) = true := by
  induction l with
  | nil => intro seen; rfl
  | cons c r ih =>
    intro seen
    have h1 := ih (more c seen)
    show (decide ((0 : Int) ≤ ((place c seen : Nat) : Int) ∧ ((place c seen : Nat) : Int) ≤ (seen.length : Int)) && formG (if ((place c seen : Nat) : Int) = (seen.length : Int) then seen.length + 1 else seen.length) (natI (canonG (more c seen) r))) = true
    have h2 := place_le c seen
    rw [decide_eq_true (by omega), Bool.true_and]
    have h3 : (more c seen).length = if ((place c seen : Nat) : Int) = (seen.length : Int) then seen.length + 1 else seen.length := by
      unfold more
      by_cases e : place c seen < seen.length
      · rw [if_pos e, if_neg (by omega)]
      · rw [if_neg e, if_pos (by omega)]; simp
    rw [← h3]
    exact h1
/-- It is in the one form. -/
theorem classes_canon (l : List Int) (n : Int) (hn : n = (l.length : Int)) : classes n (natI (canon l)) = true := by
  have h1 : (natI (canon l)).length = l.length := by rw [natI_map, List.length_map]
  unfold classes
  rw [h1, hn, decide_eq_true rfl, Bool.true_and]
  exact formG_canon l []
end Sy
end Go.Proofs.YtladdlkfnfdhaaaDoor
