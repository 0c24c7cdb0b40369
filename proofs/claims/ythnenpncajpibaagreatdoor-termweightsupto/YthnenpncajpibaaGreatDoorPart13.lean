/- Texts of this claim, joined: TmConsts, TmConstsNo, RtRa, RtNeeds0, RtNeeds. -/
import Derived.Test.YthnenpncajpibaaGreatDoorPart12
import Derived.Test.YthnenpncajpibaaGreatDoorPart9
import Derived.Test.YthnenpncajpibaaGreatDoorRtPut
import Derived.Test.YthnenpncajpibaaGreatDoorPart10
/- Contract of the store's Consts. -/
namespace Go.Proofs.YthnenpncajpibaaGreatDoor
open Go.RowKit Go.Maps
attribute [local go_sem ↓] Go.wp_at_zero Go.wp_at_succ
set_option maxRecDepth 100000 in
set_option maxHeartbeats 2000000 in
theorem sort_nil (w : World) : Calls Tryz.prog 29 #[.slice none 0 0] w fun e w' => e = .returned (.tuple #[]) ∧ Below w.heap.size w w' := by
  go_enter Tryz.func29, Tryz.ntmps29
  go_wp2
  refine wp_loop_rounds 1 ?_
  rw [rounds_succ]
  go_wp2
  refine wp_loop_rounds 1 ?_
  rw [rounds_succ]
  go_wp2
  go_end0
  go_wp2
  refine bodyPost_ret (results_none rfl _ _ _) rfl ?_
  go_wp2
  (first | go_end0 | go_ret)
  exact ⟨rfl, Below.refl _ _⟩
theorem filter_next {L : List Tm} {ts : List Int} {j : Nat} {z : Int} (h : ts[j]? = some z) : (ts.take (j + 1)).filterMap (Tm.constAt L) = (ts.take j).filterMap (Tm.constAt L) ++ (Tm.constAt L z).toList := by
  obtain ⟨hj, rfl⟩ := List.getElem?_eq_some_iff.1 h
  rw [List.take_succ_eq_append_getElem hj, List.filterMap_append]
  cases e : Tm.constAt L ts[j] with
  | none => simp [e]
  | some a => simp [e]
theorem filter_len (L : List Tm) (ts : List Int) (j : Nat) : ((ts.take j).filterMap (Tm.constAt L)).length ≤ j := Nat.le_trans (List.length_filterMap_le _ _) (by rw [List.length_take]; omega)
set_option maxRecDepth 100000 in
set_option maxHeartbeats 4000000 in
theorem consts_yes (b : Nat) (L : List Tm) (F : Nat → Prop) (id : Nat) (w : World) (hS : StoB w b L F) (hG : Tm.Good L) (hid : id < L.length) :
    Calls Tryz.prog 10 #[.pointer (some ⟨b, 0, none⟩), .int .i64 id] w fun r w' => ∃ v cs ts, r = .returned (.tuple #[v, .nilIface]) ∧ OwnI w' w.heap.size v cs ∧ Withi L id ts ∧ CsOf L ts cs ∧ cs.length ≤ L.length ∧ Below w.heap.size w w' := by
  have hbig := hS.big
  obtain ⟨ao, cap, hc⟩ := hS.cell
  have hl := lacks_no b ao L.length cap id w hc (by simp [Tm.has]; omega)
  have HL : Hid _ := And.intro hl (within_any b L F id w hS hG hid)
  have HS : Hid _ := And.intro hS hG
  obtain ⟨i0, hi0, hz0, hz1, hz2⟩ := info_parts Tryz.infoI3
  clear hl hS hG hc
  go_enter Tryz.func10, Tryz.ntmps10
  go_wp2_with fail
  refine Calls.mono HL.out.1 ?_
  rintro r w1 ⟨rfl, hw⟩
  obtain rfl := hw.symm
  go_wp2_with fail
  refine Calls.mono HL.out.2 ?_
  rintro r w1 ⟨v, ts, rfl, hO, hWi, hb1⟩
  have htl : ts.length ≤ L.length := nodup_le _ _ (hWi.rise.imp fun h => by omega) hWi.range
  obtain ⟨g, capt, rfl, hgB, htc⟩ := World.ownsRow.form hO (List.length_pos_of_mem hWi.head)
  obtain ⟨n, hn⟩ : ∃ n, n = ts.length := ⟨_, rfl⟩
  rw [← hn] at htl ⊢
  have HQ : Hid _ := And.intro hO (And.intro hWi (And.intro hb1 hn))
  clear hO hWi hb1 hn HL
  go_wp2_with fail
  go_loopg [7, 21] n (fun q cv jv wr => ∃ (j : Nat), q = n - j ∧ j ≤ n ∧ jv = .int .i64 j ∧ OwnI wr w1.heap.size cv ((ts.take j).filterMap (Tm.constAt L)) ∧ Below w1.heap.size w1 wr)
  case atStart => exact ⟨0, rfl, Nat.zero_le _, rfl, World.ownsRow_nil _ _ _ _, Below.refl _ _⟩
  case round =>
    obtain ⟨j, rfl, hj, rfl, hC, hbj⟩ := hrel
    by_cases hlt : j < n
    · obtain ⟨z, hz⟩ : ∃ z, ts[j]? = some z := ⟨ts[j]'(by have := HQ.out.2.2.2; omega), List.getElem?_eq_getElem _⟩
      have hzr := HQ.out.2.1.range z (List.mem_of_getElem? hz)
      obtain ⟨m, rfl⟩ : ∃ m : Nat, z = m := ⟨z.toNat, by omega⟩
      obtain ⟨t, ht⟩ : ∃ t, L[m]? = some t := ⟨L[m]'(by omega), List.getElem?_eq_getElem _⟩
      have hbw : Below w.heap.size w wr := HQ.out.2.2.1.trans (hbj.mono HQ.out.2.2.1.size)
      obtain ⟨gt, ct, vn, vp, hA, _, _, _⟩ := (HS.out.1.below hbw).at ht
      obtain ⟨an, cn, rfl, _⟩ := _root_.id hA.n
      obtain ⟨ap, cp, rfl, _⟩ := _root_.id hA.p
      obtain ⟨c0, x0, x1, x2, x3, x4, x5, _, _⟩ := hA
      have li := cell_up (OwnI.cell HQ.out.1 hz) hbj
      have q0 : (0 : Int) ≤ (j : Int) := by omega
      have q1 : (j : Int) < (n : Int) := by omega
      have q2 : (0 : Int) ≤ (m : Int) := by omega
      have q3 : (m : Int) < (L.length : Int) := by omega
      have hnx := filter_next (L := L) hz
      have hfl := filter_len L ts j
      rw [constAt_of ht] at hnx
      by_cases k7 : t.kind = 7
      · have e7 : (t.kind == 7) = true := by rw [k7]; rfl
        rw [if_pos k7] at hnx
        obtain ⟨al, cl, rfl⟩ := row_shape hC
        obtain ⟨n0, hn0⟩ : ∃ n0, n0 = ((ts.take j).filterMap (Tm.constAt L)).length := ⟨_, rfl⟩
        have hO' : wr.ownsRow w1.heap.size 3 1 (.slice al n0 cl) n0 (iC ((ts.take j).filterMap (Tm.constAt L))) := by rw [hn0]; exact hC
        rw [← hn0] at hfl ⊢
        have hml : n0 + 1 ≤ maxLen := by unfold maxLen; omega
        have hby : (n0 + 1) * 8 ≤ 140737488355328 := by omega
        have HO : Hid _ := And.intro hO' (And.intro hbj (And.intro hnx hn0))
        have hle : w1.heap.size ≤ ((wr.alloc (.cells #[.int .i64 t.kind, .int .i64 t.label, .int .i64 t.a, .int .i64 t.b, .slice an t.names.length cn, .slice ap t.pairs.length cp] 35)).alloc (.cells #[.int .i64 t.a] 3)).heap.size := by have := hbj.size; simp; omega
        clear hC hO' hnx hn0 hz ht k7 hbw
        go_wp2_with (at_builtin; refine wpList_append_own_at _ rfl _ _ 29 rfl w1.heap.size 3 i0 (.int .i64 0) 1 8 Tryz.underlying29 hi0 hz0 hz1 hz2 rfl (by decide) (.slice al n0 cl) n0 (iC ((ts.take j).filterMap (Tm.constAt L))) rfl ((HO.out.1.alloc _).alloc _) ⟨wr.heap.size + 1, 0, none⟩ 1 1 [.int .i64 t.a] rfl rfl (World.news_of_block (cs := #[.int .i64 t.a]) (t := 3) (fr := (0, 0)) (two_alloc wr _ _)) (one_one _) hml hby hle ?_; intro v2 w2 hown2 hgrow2 hnil2 hat2; have H2 : Hid _ := And.intro hown2 hgrow2; clear hown2 hgrow2 hnil2 hat2)
        go_roundg (n - (j + 1))
        case measure => omega
        case rel => exact ⟨j + 1, rfl, by omega, by go_num, by unfold OwnI; rw [HO.out.2.2.1]; simp only [Option.toList_some]; rw [iC_snoc, List.length_append, List.length_singleton, ← HO.out.2.2.2]; exact H2.out.1, ((HO.out.2.1.alloc HO.out.2.1.size _).alloc (by have := HO.out.2.1.size; simp; omega) _).grown H2.out.2 hle (fun k hk => (HO.out.1.lt k hk).1)⟩
      · have e7 : (t.kind == 7) = false := by rw [beq_eq_false_iff_ne]; exact k7
        rw [if_neg k7] at hnx
        have hnx' : (ts.take (j + 1)).filterMap (Tm.constAt L) = (ts.take j).filterMap (Tm.constAt L) := by simpa using hnx
        have HJ : Hid _ := And.intro hC (And.intro hbj hnx')
        clear hC hbj hnx hnx' hz ht k7 hbw
        go_wp2_with fail
        go_roundg (n - (j + 1))
        case measure => omega
        case rel => exact ⟨j + 1, rfl, by omega, by go_num, by rw [HJ.out.2.2]; exact trow_at HJ.out.1 (fun k hk => (MapKept.heap_alloc wr _).2 k (HJ.out.1.lt k hk).2), HJ.out.2.1.alloc HJ.out.2.1.size _⟩
    · obtain rfl : j = n := by omega
      have q1 : ¬ (j : Int) < (j : Int) := by omega
      have hall : ts.take j = ts := List.take_of_length_le (by have := HQ.out.2.2.2; omega)
      rw [hall] at hC
      have hfl := List.length_filterMap_le (Tm.constAt L) ts
      have hjl := HQ.out.2.2.2
      have hb9 : Below w.heap.size w wr := HQ.out.2.2.1.trans (hbj.mono HQ.out.2.2.1.size)
      have nd : ∀ t (i j : Nat), L[i]? = some t → L[j]? = some t → i = j := fun t i j h1 h2 => HS.out.1.nodup h1 h2
      rcases _root_.id hC.2 with ⟨rfl, h0⟩ | ⟨g9, cap9, cur, rfl, _⟩
      · have he : ts.filterMap (Tm.constAt L) = [] := List.eq_nil_of_length_eq_zero h0
        have hcs : CsOf L ts [] := csOf_sorted HS.out.2 nd HQ.out.2.1 (by rw [he]) List.Pairwise.nil
        have HJ : Hid _ := And.intro hcs (And.intro hb9 HQ.out.2.1)
        clear hC hbj hall hfl hjl hb9 nd h0 he hcs
        go_wp2_with fail
        refine (sort_nil wr).mono ?_
        rintro r w2 ⟨rfl, hb2⟩
        have H2 : Hid _ := hb2
        clear hb2
        go_wp2_with fail
        go_ret2
        exact ⟨_, [], ts, rfl, World.ownsRow_nil _ _ _ _, HJ.out.2.2, HJ.out.1, Nat.zero_le _, HJ.out.2.1.trans (H2.out.mono HJ.out.2.1.size)⟩
      · have hso := sortI_any wr w1.heap.size g9 cap9 (ts.filterMap (Tm.constAt L)) hC (by omega)
        have hcs := csOf_sorted HS.out.2 nd HQ.out.2.1 (sort_perm (ts.filterMap (Tm.constAt L))) (sort_rise _)
        have hgl := hC.lt g9 rfl
        have HJ : Hid _ := And.intro hcs (And.intro hb9 (And.intro HQ.out.2.1 (And.intro hso (And.intro hgl (And.intro hfl hjl)))))
        clear hC hbj hall hfl hjl hb9 nd hcs hso hgl
        go_wp2_with fail
        refine Calls.mono HJ.out.2.2.2.1 ?_
        rintro r w2 ⟨rfl, hO2, hg2⟩
        have H2 : Hid _ := And.intro hO2 hg2
        clear hO2 hg2
        go_wp2_with fail
        go_ret2
        have hz9 := HQ.out.2.2.1.size
        refine ⟨_, (ts.filterMap (Tm.constAt L)).mergeSort fun x y => decide (x ≤ y), ts, rfl, row_base H2.out.1 hz9, HJ.out.2.2.1, HJ.out.1, ?_, HJ.out.2.1.grown H2.out.2 HJ.out.2.1.size (fun k hk => ?_)⟩
        · rw [List.length_mergeSort]
          have h1 := HJ.out.2.2.2.2.2.1
          have h2 := HJ.out.2.2.2.2.2.2
          omega
        · have h1 := HJ.out.2.2.2.2.1.1
          have h2 := Option.some.inj hk
          omega
end Go.Proofs.YthnenpncajpibaaGreatDoor
/- Contract of the store's Consts where there is no such term. -/
namespace Go.Proofs.YthnenpncajpibaaGreatDoor
open Go.RowKit Go.Maps
theorem consts_no (b : Nat) (L : List Tm) (F : Nat → Prop) (i : Int) (T : TypeId) (u : Value) (w : World) (hS : StoB w b L F) (hi : Tm.has L.length i = false) (hE : w.cell? ⟨1, 0, none⟩ = some (.iface T u)) :
    Calls Tryz.prog 10 #[.pointer (some ⟨b, 0, none⟩), .int .i64 i] w fun r w' => r = .returned (.tuple #[.slice none 0 0, tFaultV w.heap.size]) ∧ TermFault w' w.heap.size (.iface T u) ∧ Below w.heap.size w w' := by
  obtain ⟨ao, cap, hc⟩ := hS.cell
  have hl := lacks_yes b ao L.length cap i T u w hc hi hE
  unfold tFaultV at hl ⊢
  have HL : Hid _ := hl
  clear hl
  go_enter Tryz.func10, Tryz.ntmps10
  go_wp2_with fail
  refine Calls.mono HL.out ?_
  rintro r w2 ⟨rfl, hF, hb2⟩
  go_wp2_with fail
  go_ret2
  exact ⟨rfl, hF, hb2⟩
end Go.Proofs.YthnenpncajpibaaGreatDoor
/- A list of numbers that the document's Same and Weight make. -/
namespace Go.Proofs.YthnenpncajpibaaGreatDoor
open Go.RowKit Go.Maps
/-- The list of numbers, laid since. -/
structure Ra (w wr : World) (gi : Nat) (xs : List Int) : Prop where
  bl : Below w.heap.size w wr
  ids : ∃ cs, wr.heap[gi]? = some (.cells cs 3 (0, 0)) ∧ cs.toList = iC xs
  gu : w.heap.size ≤ gi
theorem Ra.lt {w wr : World} {gi : Nat} {xs : List Int} (h : Ra w wr gi xs) : gi < wr.heap.size := by
  obtain ⟨cs, hc, _⟩ := h.ids
  exact t_lt hc
theorem Ra.below {w wr w' : World} {gi : Nat} {xs : List Int} (h : Ra w wr gi xs) (hb : Below wr.heap.size wr w') : Ra w w' gi xs := by
  obtain ⟨cs, hc, hx⟩ := h.ids
  exact ⟨h.bl.trans (hb.mono h.bl.size), ⟨cs, (hb.block _ (t_lt hc)).trans hc, hx⟩, h.gu⟩
theorem Ra.cell {w wr : World} {gi : Nat} {xs : List Int} (h : Ra w wr gi xs) {i : Nat} {x : Int} (hi : xs[i]? = some x) : wr.cell? ⟨gi, i, none⟩ = some (.int .i64 x) := by
  obtain ⟨cs, hc, hx⟩ := h.ids
  rw [tb_cell hc, ← Array.getElem?_toList, hx]
  simp [iC, hi]
theorem Ra.free {w wr : World} {gi : Nat} {xs : List Int} (h : Ra w wr gi xs) (i : Nat) : wr.frozen? ⟨gi, i, none⟩ = false := by
  obtain ⟨cs, hc, hx⟩ := h.ids
  exact blk_free hc i
theorem Ra.set {w wr : World} {gi : Nat} {xs : List Int} (h : Ra w wr gi xs) (i : Nat) (x : Int) : Ra w (wr.setCell ⟨gi, i, none⟩ (.int .i64 x)) gi (xs.set i x) := by
  obtain ⟨cs, hc, hx⟩ := h.ids
  refine ⟨h.bl.setCell h.gu _, ⟨_, heap_setCell_same wr gi i cs _ _ hc, ?_⟩, h.gu⟩
  rw [Array.toList_setIfInBounds, hx]
  unfold iC
  rw [List.map_set]
/-- A cell of another block is turned that was laid since. -/
theorem Ra.other {w wr : World} {gi : Nat} {xs : List Int} (h : Ra w wr gi xs) (b o : Nat) (v : Value) (hb : w.heap.size ≤ b) (hne : gi ≠ b) : Ra w (wr.setCell ⟨b, o, none⟩ v) gi xs := by
  obtain ⟨cs, hc, hx⟩ := h.ids
  exact ⟨h.bl.setCell hb _, ⟨cs, (set_other _ _ _ _ _ hne).trans hc, hx⟩, h.gu⟩
end Go.Proofs.YthnenpncajpibaaGreatDoor
/- A list of truths that the document's needs makes; what it tells. -/
namespace Go.Proofs.YthnenpncajpibaaGreatDoor
open Go.RowKit Go.Maps
def bolC (bs : List Bool) : List Value := bs.map Value.bool
/-- The cells of a new list of n falsehoods. -/
def madeB (n : Nat) : Array Value := madeCells (Value.bool false).cells (n * 1)
theorem madeB_eq (n : Nat) : (madeB n).toList = bolC (List.replicate n false) := by
  apply List.ext_getElem
  · simp [madeB, madeCells, bolC]
  · intro i h1 h2
    simp [madeB, madeCells, bolC, Value.cells, Nat.mod_one]
theorem Tryz.infoB3 : (Tryz.prog.info? 4).map (fun i => (i.zero, i.size, i.bytes)) = some (some (.bool false), 1, 1) := by kernel_rfl
theorem make_bools (n : Nat) (hn : n ≤ 100000) (w : World) : (Instr.makeSlice 84 (.int .i64 (n : Int)) (.int .i64 (n : Int))).run Tryz.prog w = .ok (.slice (some ⟨w.heap.size, 0, none⟩) n n) (w.alloc (.cells (madeB n) 4)) := by
  obtain ⟨i0, hi0, hz0, hz1, hz2⟩ := info_parts Tryz.infoB3
  have h := run_makeSlice (P := Tryz.prog) w 84 4 i0 (.bool false) Tryz.underlying84 hi0 hz0 .i64 .i64 (n : Int) (n : Int) (by omega) (Int.le_refl _) (by rw [hz1]; omega) (by rw [hz2]; omega) (by omega)
  rw [h, hz1]
  simp [madeB]
structure Rb (ty : TypeId) (w wr : World) (gi : Nat) (bs : List Bool) : Prop where
  bl : Below w.heap.size w wr
  ids : ∃ cs, wr.heap[gi]? = some (.cells cs ty (0, 0)) ∧ cs.toList = bolC bs
  gu : w.heap.size ≤ gi
theorem Rb.lt {ty : TypeId} {w wr : World} {gi : Nat} {bs : List Bool} (h : Rb ty w wr gi bs) : gi < wr.heap.size := by
  obtain ⟨cs, hc, _⟩ := h.ids
  exact t_lt hc
theorem Rb.below {ty : TypeId} {w wr w' : World} {gi : Nat} {bs : List Bool} (h : Rb ty w wr gi bs) (hb : Below wr.heap.size wr w') : Rb ty w w' gi bs := by
  obtain ⟨cs, hc, hx⟩ := h.ids
  exact ⟨h.bl.trans (hb.mono h.bl.size), ⟨cs, (hb.block _ (t_lt hc)).trans hc, hx⟩, h.gu⟩
theorem Rb.cell {ty : TypeId} {w wr : World} {gi : Nat} {bs : List Bool} (h : Rb ty w wr gi bs) {i : Nat} {x : Bool} (hi : bs[i]? = some x) : wr.cell? ⟨gi, i, none⟩ = some (.bool x) := by
  obtain ⟨cs, hc, hx⟩ := h.ids
  rw [tb_cell hc, ← Array.getElem?_toList, hx]
  simp [bolC, hi]
theorem Rb.free {ty : TypeId} {w wr : World} {gi : Nat} {bs : List Bool} (h : Rb ty w wr gi bs) (i : Nat) : wr.frozen? ⟨gi, i, none⟩ = false := by
  obtain ⟨cs, hc, hx⟩ := h.ids
  exact blk_free hc i
theorem Rb.set {ty : TypeId} {w wr : World} {gi : Nat} {bs : List Bool} (h : Rb ty w wr gi bs) (i : Nat) (x : Bool) : Rb ty w (wr.setCell ⟨gi, i, none⟩ (.bool x)) gi (bs.set i x) := by
  obtain ⟨cs, hc, hx⟩ := h.ids
  refine ⟨h.bl.setCell h.gu _, ⟨_, heap_setCell_same wr gi i cs _ _ hc, ?_⟩, h.gu⟩
  rw [Array.toList_setIfInBounds, hx]
  unfold bolC
  rw [List.map_set]
/-- What the truths say while the loop comes down: all above i have been looked at. -/
structure Nds (L : List Tm) (id : Nat) (ts : List Int) (bs : List Bool) (i : Int) : Prop where
  len : bs.length = id + 1
  snd : ∀ m : Nat, bs[m]? = some true → (m : Int) ∈ ts
  top : bs[id]? = some true
  cmp : ∀ j : Nat, i < (j : Int) → (j : Int) ∈ ts → ∀ p ∈ partsAt L (j : Int), bs[p.toNat]? = some true
theorem Nds.start {L : List Tm} {id : Nat} {ts : List Int} (h : Withi L id ts) (hG : Tm.Good L) : Nds L id ts ((List.replicate (id + 1) false).set id true) (id : Int) := by
  refine ⟨by simp, fun m hm => ?_, by rw [List.getElem?_set_self (by simp)], fun j hj hjt => ?_⟩
  · by_cases e : m = id
    · subst e; exact h.head
    · rw [List.getElem?_set_ne (by omega)] at hm
      rw [List.getElem?_replicate] at hm
      split at hm <;> simp at hm
  · have := withi_le hG h _ hjt
    omega
/-- Is a number within, just if its truth is set. -/
theorem Nds.iff {L : List Tm} {id : Nat} {ts : List Int} {bs : List Bool} {i : Nat} (h : Nds L id ts bs (i : Int)) (hw : Withi L id ts) (hG : Tm.Good L) : bs[i]? = some true ↔ (i : Int) ∈ ts := by
  refine ⟨h.snd i, fun hi => ?_⟩
  rcases hw.frm _ hi with e | ⟨y, hy, e⟩
  · have : i = id := by omega
    rw [this]; exact h.top
  · have hyr := hw.range y hy
    obtain ⟨m, rfl⟩ : ∃ m : Nat, y = m := ⟨y.toNat, by omega⟩
    obtain ⟨t, ht⟩ : ∃ t, L[m]? = some t := ⟨L[m]'(by omega), List.getElem?_eq_getElem _⟩
    have hlt := good_parts hG ht _ (by rw [partsAt_of ht] at e; exact e)
    have := h.cmp m (by omega) hy _ e
    rwa [Int.toNat_natCast] at this
/-- A number that is not within is passed by. -/
theorem Nds.skip {L : List Tm} {id : Nat} {ts : List Int} {bs : List Bool} {i : Nat} (h : Nds L id ts bs (i : Int)) (hn : (i : Int) ∉ ts) : Nds L id ts bs ((i : Int) - 1) :=
  ⟨h.len, h.snd, h.top, fun j hj hjt => by
    by_cases e : j = i
    · subst e; exact absurd hjt hn
    · exact h.cmp j (by omega) hjt⟩
/-- The truths behind a number that is within: its parts' are set. -/
theorem Nds.mark {L : List Tm} {id : Nat} {ts : List Int} {bs cs : List Bool} {i : Nat} {t : Tm} (h : Nds L id ts bs (i : Int)) (hw : Withi L id ts) (hi : (i : Int) ∈ ts) (ht : L[i]? = some t) (hlen : cs.length = bs.length) (hc : ∀ m : Nat, cs[m]? = some true ↔ (bs[m]? = some true ∨ (m : Int) ∈ t.parts)) (hpos : ∀ p ∈ t.parts, 0 ≤ p) : Nds L id ts cs ((i : Int) - 1) := by
  refine ⟨by rw [hlen]; exact h.len, fun m hm => ?_, (hc id).2 (.inl h.top), fun j hj hjt p hp => ?_⟩
  · rcases (hc m).1 hm with e | e
    · exact h.snd m e
    · exact hw.closed _ hi _ (by rw [partsAt_of ht]; exact e)
  · by_cases e : j = i
    · subst e
      rw [partsAt_of ht] at hp
      have := hpos p hp
      exact (hc p.toNat).2 (.inr (by rw [Int.toNat_of_nonneg this]; exact hp))
    · exact (hc p.toNat).2 (.inl (h.cmp j (by omega) hjt p hp))
theorem Nds.fin {L : List Tm} {id : Nat} {ts : List Int} {bs : List Bool} (h : Nds L id ts bs (-1)) (hw : Withi L id ts) (m : Nat) : bs[m]? = some true ↔ (m : Int) ∈ ts := by
  refine ⟨h.snd m, fun hm => ?_⟩
  rcases hw.frm _ hm with e | ⟨y, hy, e⟩
  · have : m = id := by omega
    rw [this]; exact h.top
  · have hyr := hw.range y hy
    obtain ⟨k, rfl⟩ : ∃ k : Nat, y = k := ⟨y.toNat, by omega⟩
    have := h.cmp k (by omega) hy _ e
    rwa [Int.toNat_natCast] at this
end Go.Proofs.YthnenpncajpibaaGreatDoor
/- Contract of the document's needs. -/
namespace Go.Proofs.YthnenpncajpibaaGreatDoor
open Go.RowKit Go.Maps
attribute [local go_sem ↓] Go.wp_at_zero Go.wp_at_succ
theorem set_true {bs : List Bool} {k : Nat} (hk : k < bs.length) (m : Nat) : (bs.set k true)[m]? = some true ↔ (bs[m]? = some true ∨ m = k) := by
  by_cases e : m = k
  · subst e; rw [List.getElem?_set_self hk]; simp
  · rw [List.getElem?_set_ne (fun h => e h.symm)]; simp [e]
theorem or_two (P : Prop) (m a b : Nat) : ((P ∨ m = a) ∨ m = b) ↔ (P ∨ (m : Int) = (a : Int) ∨ (m : Int) = (b : Int)) := by
  rw [or_assoc]
  constructor
  · rintro (h | h | h)
    · exact .inl h
    · exact .inr (.inl (by omega))
    · exact .inr (.inr (by omega))
  · rintro (h | h | h)
    · exact .inl h
    · exact .inr (.inl (by omega))
    · exact .inr (.inr (by omega))
set_option maxRecDepth 100000 in
set_option maxHeartbeats 8000000 in
theorem rneeds_any (b : Nat) (L : List Tm) (F : Nat → Prop) (id : Nat) (ts : List Int) (w : World) (hS : RStoB w b L F) (hG : Tm.Good L) (hid : id < L.length) (hw : Withi L id ts) :
    Calls Tryz.prog 33 #[.pointer (some ⟨b, 0, none⟩), .int .i64 id] w fun r w' => ∃ bs, r = .returned (.slice (some ⟨w.heap.size, 0, none⟩) (id + 1) (id + 1)) ∧ Rb 4 w w' w.heap.size bs ∧ bs.length = id + 1 ∧ ∀ m : Nat, bs[m]? = some true ↔ (m : Int) ∈ ts := by
  have hbig := hS.big
  have hmk := make_bools (id + 1) (by omega) w
  have e1 : ((id + 1 : Nat) : Int) = (id : Int) + 1 := by omega
  rw [e1] at hmk
  have h0 : Rb 4 w (w.alloc (.cells (madeB (id + 1)) 4)) w.heap.size (List.replicate (id + 1) false) := ⟨(Below.refl _ _).alloc (Nat.le_refl _) _, ⟨_, (MapKept.heap_alloc w _).1, madeB_eq _⟩, Nat.le_refl _⟩
  have cI := h0.cell (i := id) (x := false) (by rw [List.getElem?_replicate, if_pos (by omega)])
  have cF := h0.free id
  have hN0 := Nds.start hw hG
  have HS : Hid _ := And.intro hS (And.intro hG hw)
  have h0s : Rb 4 w (w.alloc (.cells ((madeB (id + 1)).setIfInBounds id (.bool true)) 4)) w.heap.size ((List.replicate (id + 1) false).set id true) := ⟨(Below.refl _ _).alloc (Nat.le_refl _) _, ⟨_, (MapKept.heap_alloc w _).1, by rw [Array.toList_setIfInBounds, madeB_eq]; unfold bolC; rw [List.map_set]⟩, Nat.le_refl _⟩
  have HR0 : Hid _ := And.intro h0s hN0
  have q0 : (0 : Int) ≤ (id : Int) := by omega
  have q1 : (id : Int) < (id : Int) + 1 := by omega
  clear hS hG h0 e1 hw hN0 h0s
  go_enter Tryz.func33, Tryz.ntmps33
  go_wp2_with fail
  clear hmk cI cF
  go_loopg [6] (id + 1) (fun q iv wr => ∃ (i : Int) (bs : List Bool), q = (i + 1).toNat ∧ -1 ≤ i ∧ i ≤ (id : Int) ∧ iv = .int .i64 i ∧ Nds L id ts bs i ∧ Rb 4 w wr w.heap.size bs)
  case atStart => exact ⟨(id : Int), _, by omega, by omega, Int.le_refl _, rfl, HR0.out.2, HR0.out.1⟩
  case round =>
    obtain ⟨i, bs, rfl, hi1, hi2, rfl, hNd, hRb⟩ := hrel
    clear HR0 q0 q1
    by_cases hlt : 0 ≤ i
    · obtain ⟨n, rfl⟩ : ∃ n : Nat, i = (n : Int) := ⟨i.toNat, by omega⟩
      obtain ⟨t, ht⟩ : ∃ t, L[n]? = some t := ⟨L[n]'(by omega), List.getElem?_eq_getElem _⟩
      have hbl := hNd.len
      have q2 : (0 : Int) ≤ (n : Int) := by omega
      have q3 : (n : Int) < (id : Int) + 1 := by omega
      have q4 : (n : Int) < (L.length : Int) := by omega
      have hiff := hNd.iff HS.out.2.2 HS.out.2.1
      cases hbv : bs[n]? with
      | none => rw [List.getElem?_eq_none_iff] at hbv; omega
      | some v =>
        have cN := hRb.cell hbv
        cases v with
        | false =>
          have hnot : (n : Int) ∉ ts := fun e => by rw [hiff.2 e] at hbv; cases hbv
          have HJ : Hid _ := And.intro (hNd.skip hnot) hRb
          clear hNd hRb hiff hbv hnot ht
          go_wp2_with fail
          go_roundg n
          case measure => omega
          case rel => exact ⟨(n : Int) - 1, bs, by omega, by omega, by omega, by go_num, HJ.out.1, HJ.out.2⟩
        | true =>
          have hin : (n : Int) ∈ ts := hiff.1 hbv
          obtain ⟨g, cap, vn, vp, hA⟩ := (HS.out.1.below hRb.bl).at ht
          obtain ⟨c0, x0, x1, x2, x3, x4, x5, hn0, hp0⟩ := hA
          obtain ⟨an, cn, rfl, _⟩ := _root_.id hn0
          obtain ⟨ap, cp, rfl, _⟩ := _root_.id hp0
          have hpt := good_parts HS.out.2.1 ht
          obtain ⟨W0, hW0⟩ : ∃ W0, W0 = wr.alloc (.cells #[.int .i64 t.kind, .int .i64 t.label, .int .i64 t.a, .int .i64 t.b, .slice an t.names.length cn, .slice ap t.pairs.length cp] 35) := ⟨_, rfl⟩
          have hb0 : Below wr.heap.size wr W0 := by rw [hW0]; exact (Below.refl _ _).alloc (Nat.le_refl _) _
          have hR0 := hRb.below hb0
          have hX0 : W0.heap[wr.heap.size]? = some (.cells #[.int .i64 t.kind, .int .i64 t.label, .int .i64 t.a, .int .i64 t.b, .slice an t.names.length cn, .slice ap t.pairs.length cp] 35 (0, 0)) := by rw [hW0]; exact (MapKept.heap_alloc wr _).1
          have hgl := hRb.lt
          have HX : Hid _ := And.intro hR0 (And.intro hX0 hW0)
          have HJ : Hid _ := And.intro hNd (And.intro hin ht)
          clear hR0 hX0 hW0 hb0 hNd hRb hiff hbv hin ht hn0 hp0
          go_upto_region 8 with fail
          rw [← HX.out.2.2]
          obtain ⟨y0, y1, y2, y3, y4, y5, yf⟩ := six6 HX.out.2.1
          clear x0 x1 x2 x3 x4 x5 c0 cN yf
          by_cases k34 : t.kind = 3 ∨ t.kind = 4
          · have hpp : t.parts = [t.a, t.b] := by unfold Tm.parts; rw [if_neg (by omega), if_pos k34]
            rw [hpp] at hpt
            have ha := hpt t.a (by simp)
            have hb := hpt t.b (by simp)
            obtain ⟨ma, hma⟩ : ∃ ma : Nat, t.a = ma := ⟨t.a.toNat, by omega⟩
            obtain ⟨mb, hmb⟩ : ∃ mb : Nat, t.b = mb := ⟨t.b.toNat, by omega⟩
            obtain ⟨ua, hua⟩ : ∃ u, bs[ma]? = some u := ⟨bs[ma]'(by omega), List.getElem?_eq_getElem _⟩
            have cA := HX.out.1.cell hua
            have fA := HX.out.1.free ma
            have h1 := HX.out.1.set ma true
            obtain ⟨ub, hub⟩ : ∃ u, (bs.set ma true)[mb]? = some u := ⟨(bs.set ma true)[mb]'(by rw [List.length_set]; omega), List.getElem?_eq_getElem _⟩
            have cB := h1.cell hub
            have fB := h1.free mb
            rw [hma] at y2
            rw [hmb] at y3
            obtain ⟨_, _, _, z3, _, _, _⟩ := six6 ((set_other W0 w.heap.size ma wr.heap.size (.bool true) (by omega)).trans HX.out.2.1)
            rw [hmb] at z3
            have p0 : (0 : Int) ≤ (ma : Int) := by omega
            have p1 : (ma : Int) < (id : Int) + 1 := by omega
            have p2 : (0 : Int) ≤ (mb : Int) := by omega
            have p3 : (mb : Int) < (id : Int) + 1 := by omega
            have hm : Nds L id ts ((bs.set ma true).set mb true) ((n : Int) - 1) := HJ.out.1.mark HS.out.2.2 HJ.out.2.1 HJ.out.2.2 (by simp) (fun m => by
              rw [set_true (by rw [List.length_set]; omega), set_true (by omega), hpp, hma, hmb]
              simp only [List.mem_cons, List.not_mem_nil, or_false]
              exact or_two _ m ma mb) (fun p hp => (by rw [hpp] at hp; exact (hpt p hp).1))
            have hkk : (t.kind == 3) = true ∨ ((t.kind == 3) = false ∧ (t.kind == 4) = true) := by
              rcases k34 with e | e
              · exact .inl (by rw [e]; rfl)
              · exact .inr ⟨by rw [e]; rfl, by rw [e]; rfl⟩
            have HQ : Hid _ := And.intro hm (h1.set mb true)
            clear hm h1 hpt hpp k34 ha hb hma hmb HJ hua hub
            rcases hkk with e3 | ⟨e3, e4⟩
            all_goals
              go_upto_region 11 with fail
              go_region
              go_wp2_with fail
              go_roundg n
              case measure => omega
              case rel => exact ⟨(n : Int) - 1, _, by omega, by omega, by omega, by go_num, HQ.out.1, HQ.out.2.below ((Below.refl _ _).drew)⟩
          have n3 : (t.kind == 3) = false := by rw [beq_eq_false_iff_ne]; omega
          have n4 : (t.kind == 4) = false := by rw [beq_eq_false_iff_ne]; omega
          by_cases k256 : t.kind = 2 ∨ t.kind = 5 ∨ t.kind = 6
          · have hpp : t.parts = [t.a] := by unfold Tm.parts; rw [if_pos k256]
            rw [hpp] at hpt
            have ha := hpt t.a (by simp)
            obtain ⟨ma, hma⟩ : ∃ ma : Nat, t.a = ma := ⟨t.a.toNat, by omega⟩
            obtain ⟨ua, hua⟩ : ∃ u, bs[ma]? = some u := ⟨bs[ma]'(by omega), List.getElem?_eq_getElem _⟩
            have cA := HX.out.1.cell hua
            have fA := HX.out.1.free ma
            rw [hma] at y2
            have p0 : (0 : Int) ≤ (ma : Int) := by omega
            have p1 : (ma : Int) < (id : Int) + 1 := by omega
            have hm : Nds L id ts (bs.set ma true) ((n : Int) - 1) := HJ.out.1.mark HS.out.2.2 HJ.out.2.1 HJ.out.2.2 (by simp) (fun m => by
              rw [set_true (by omega), hpp, hma]
              simp only [List.mem_cons, List.not_mem_nil, or_false]
              have e : (m = ma) ↔ ((m : Int) = (ma : Int)) := by omega
              rw [e]) (fun p hp => (by rw [hpp] at hp; exact (hpt p hp).1))
            have hkk : (t.kind == 2) = true ∨ ((t.kind == 2) = false ∧ (t.kind == 5) = true) ∨ ((t.kind == 2) = false ∧ (t.kind == 5) = false ∧ (t.kind == 6) = true) := by
              rcases k256 with e | e | e
              · exact .inl (by rw [e]; rfl)
              · exact .inr (.inl ⟨by rw [e]; rfl, by rw [e]; rfl⟩)
              · exact .inr (.inr ⟨by rw [e]; rfl, by rw [e]; rfl, by rw [e]; rfl⟩)
            have HQ : Hid _ := And.intro hm (HX.out.1.set ma true)
            clear hm hpt hpp k34 k256 ha hma HJ hua
            rcases hkk with e2 | ⟨e2, e5⟩ | ⟨e2, e5, e6⟩
            all_goals
              go_wp2_with fail
              go_roundg n
              case measure => omega
              case rel => exact ⟨(n : Int) - 1, _, by omega, by omega, by omega, by go_num, HQ.out.1, HQ.out.2⟩
          · have n2 : (t.kind == 2) = false := by rw [beq_eq_false_iff_ne]; omega
            have n5 : (t.kind == 5) = false := by rw [beq_eq_false_iff_ne]; omega
            have n6 : (t.kind == 6) = false := by rw [beq_eq_false_iff_ne]; omega
            have hpp : t.parts = [] := by unfold Tm.parts; rw [if_neg k256, if_neg k34]
            have hm : Nds L id ts bs ((n : Int) - 1) := HJ.out.1.mark HS.out.2.2 HJ.out.2.1 HJ.out.2.2 rfl (fun m => by rw [hpp]; simp) (fun p hp => (by rw [hpp] at hp; cases hp))
            have HQ : Hid _ := And.intro hm HX.out.1
            clear hm hpt hpp k34 k256 HJ
            go_wp2_with fail
            go_roundg n
            case measure => omega
            case rel => exact ⟨(n : Int) - 1, _, by omega, by omega, by omega, by go_num, HQ.out.1, HQ.out.2⟩
    · obtain rfl : i = -1 := by omega
      have HQ : Hid _ := And.intro hNd hRb
      clear hNd hRb
      go_wp2_with fail
      go_ret
      exact ⟨rfl, bs, HQ.out.2, HQ.out.1.len, HQ.out.1.fin HS.out.2.2⟩
end Go.Proofs.YthnenpncajpibaaGreatDoor
