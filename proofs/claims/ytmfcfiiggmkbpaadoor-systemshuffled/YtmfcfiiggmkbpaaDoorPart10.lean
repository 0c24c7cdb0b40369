/- Texts of this claim, joined: SyEdg, SyTurn0. -/
import Derived.Test.YtmfcfiiggmkbpaaDoorPart9
import Derived.Maps.AppendAt
import Derived.Test.YtmfcfiiggmkbpaaDoorPart6
/- Contract of the program's Edges. -/
namespace Go.Proofs.YtmfcfiiggmkbpaaDoor
open Go.RowKit Go.Maps
attribute [local go_sem ↓] Go.wp_at_zero Go.wp_at_succ
/-- A state's steps as edges. -/
def Sy.es1 (st : Int) (zs : List BSteps.El) : List Sy.Ed := zs.map fun x => (st, x.1, x.2)
theorem Sy.es1_steps (l : List Sy.Ed) (st : Int) : Sy.es1 st (Sy.steps l st) = l.filter fun e => e.1 == st := by
  unfold Sy.es1 Sy.steps
  rw [List.map_map]
  have h : ∀ e ∈ l.filter (fun e => e.1 == st), ((fun x : BSteps.El => (st, x.1, x.2)) ∘ fun e : Sy.Ed => (e.2.1, e.2.2)) e = e := fun e he => by
    have := (List.mem_filter.1 he).2
    simp at this
    obtain ⟨a, b, c⟩ := e
    simp at this
    simp [this]
  rw [List.map_congr_left h]
  simp
theorem Sy.take_row {l : List Sy.Ed} (h : Sy.Rows l) (st : Int) : l.take (Sy.cnt l st) ++ Sy.es1 st (Sy.steps l st) = l.take (Sy.cnt l (st + 1)) := by
  rw [Sy.es1_steps, Sy.row_piece h st]
  have h1 := Sy.cnt_mono l st
  conv => rhs; rw [show Sy.cnt l (st + 1) = Sy.cnt l st + (Sy.cnt l (st + 1) - Sy.cnt l st) by omega, List.take_add]
theorem Sy.es1_snoc {st : Int} {zs : List BSteps.El} {k : Nat} {x : BSteps.El} (h : zs[k]? = some x) : Sy.es1 st (zs.take (k + 1)) = Sy.es1 st (zs.take k) ++ [(st, x.1, x.2)] := by
  rw [take_succ_of h]
  simp [Sy.es1]
theorem Sy.es1_len (st : Int) (zs : List BSteps.El) : (Sy.es1 st zs).length = zs.length := by simp [Sy.es1]
theorem Sy.take_all {n k s : Int} {es : List Sy.Ed} (h : Sy.right n k s es = true) : (Sy.nf es).take (Sy.cnt (Sy.nf es) n) = Sy.nf es := by
  rw [Sy.cnt_all fun e he => ((right_parts h).2.2.2.2.2 e ((Sy.nf_mem es e).1 he)).2.1, List.take_length]
theorem Sy.take_none {n k s : Int} {es : List Sy.Ed} (h : Sy.right n k s es = true) : (Sy.nf es).take (Sy.cnt (Sy.nf es) 0) = [] := by
  rw [Sy.cnt_none fun e he => by have := ((right_parts h).2.2.2.2.2 e ((Sy.nf_mem es e).1 he)).1; omega]
  rfl
set_option maxRecDepth 100000 in
set_option maxHeartbeats 8000000 in
theorem edges_any {B g bs bb cs cb n : Nat} {k s : Int} {es : List Sy.Ed} (w : World) (h : Gr w B g bs bb cs cb n k s es) : Calls Tryd.prog 14 #[.pointer (some ⟨g, 0, none⟩)] w fun r w' => ∃ u, r = .returned u ∧ BEdges.Own w' w.heap.size u (Sy.nf es) ∧ Below w.heap.size w w' := by
  obtain ⟨i0, hi0, hz0, hz1, hz2⟩ := info_parts BEdges.Tryd.infoE
  have hSt := states_any w h
  have hs := h.sizes
  have HG : Hid _ := And.intro h (And.intro hSt hs)
  have hn : n ≤ 1000 := hs.1
  obtain ⟨l, hl⟩ : ∃ l, l = Sy.nf es := ⟨_, rfl⟩
  have HL : Hid (l = Sy.nf es ∧ Sy.Rows l ∧ l.take (Sy.cnt l 0) = [] ∧ l.take (Sy.cnt l n) = l) := (by rw [hl]; exact ⟨rfl, nf_rows es, Sy.take_none h.right, Sy.take_all h.right⟩ : l = Sy.nf es ∧ Sy.Rows l ∧ l.take (Sy.cnt l 0) = [] ∧ l.take (Sy.cnt l n) = l)
  rw [← hl]
  clear h hSt hs hl
  go_enter Tryd.func14, Tryd.ntmps14
  go_wp2_with (go_at_call 10; refine Calls.mono HG.out.2.1 ?_; rintro r w1 ⟨rfl, hw⟩; obtain rfl := hw.symm)
  go_loopg [3, 9] n (fun q uv iv wr => ∃ st : Nat, q = n - st ∧ st ≤ n ∧ iv = .int .i64 st ∧ BEdges.Own wr w.heap.size uv (l.take (Sy.cnt l (st : Int))) ∧ Below w.heap.size w wr)
  case atStart => exact ⟨0, rfl, Nat.zero_le _, rfl, by show BEdges.Own w w.heap.size _ (l.take (Sy.cnt l 0)); rw [HL.out.2.2.1]; exact World.ownsRow_nil _ _ _ _, Below.refl _ _⟩
  case round =>
    obtain ⟨st, rfl, hst, rfl, hO, hb⟩ := hrel
    obtain ⟨wq, rfl⟩ : ∃ wq, wq = wr := ⟨_, rfl⟩
    by_cases hlt : st < n
    · have hG := HG.out.1.below hb
      obtain ⟨_, _, _, ⟨c0, c1⟩, _, _⟩ := hG.cells
      have hR := hG.row (st : Int)
      have hT := hG.out
      obtain ⟨L, hL⟩ : ∃ L, L = (Sy.nf es).length := ⟨_, rfl⟩
      have hl1 := Sy.steps_len (Sy.nf es) (st : Int)
      have hsz := HG.out.2.2.2
      rw [rowOf_in _ hlt] at hR
      have HR : Hid _ := And.intro hR (And.intro hb (And.intro hO (And.intro hL hT)))
      rw [← hL] at HR c0 hsz hl1
      have r1 : (st : Int) < (n : Int) := by omega
      clear hG hR hb hL hT hO
      go_wp2_with fail
      refine Calls.mono HR.out.1 ?_
      rintro r w1 ⟨v, rfl, hv, hb1⟩
      obtain ⟨av, cv, rfl, _⟩ := hv wq HR.out.2.2.2.2
      obtain ⟨M, hM⟩ : ∃ M, M = (Sy.steps (Sy.nf es) (st : Int)).length := ⟨_, rfl⟩
      rw [← hM]
      rw [← hM] at hv hl1
      have H1 : Hid _ := And.intro hv (And.intro hb1 hM)
      clear hv hb1 hM c0 c1
      go_wp2_with fail
      go_loopg [3, 19] M (fun q uv kv wr => ∃ k2 : Nat, q = M - k2 ∧ k2 ≤ M ∧ kv = .int .i64 k2 ∧ BEdges.Own wr w.heap.size uv (l.take (Sy.cnt l (st : Int)) ++ Sy.es1 st ((Sy.steps l st).take k2)) ∧ Below w.heap.size w wr)
      case atStart =>
        refine ⟨0, rfl, Nat.zero_le _, rfl, ?_, HR.out.2.1.trans (H1.out.2.1.mono HR.out.2.1.size)⟩
        have h1 : l.take (Sy.cnt l (st : Int)) ++ Sy.es1 st ((Sy.steps l st).take 0) = l.take (Sy.cnt l (st : Int)) := by simp [Sy.es1]
        rw [h1]
        exact trow_at HR.out.2.2.1 fun b hb => H1.out.2.1.block b (HR.out.2.2.1.lt b hb).2
      case round =>
        obtain ⟨k2, rfl, hk, rfl, hO, hb⟩ := hrel
        obtain ⟨ys, hys⟩ : ∃ ys, ys = l.take (Sy.cnt l (st : Int)) ++ Sy.es1 st ((Sy.steps l st).take k2) := ⟨_, rfl⟩
        rw [← hys] at hO
        obtain ⟨au, cu, hu⟩ := row_shape hO
        obtain ⟨N, hN⟩ : ∃ N, N = ys.length := ⟨_, rfl⟩
        rw [← hN] at hu
        subst hu
        have hys1 : N ≤ 100000 := by
          have h2 := List.length_take_le (Sy.cnt l (st : Int)) l
          have h3 := Sy.cnt_le l (st : Int)
          have h4 := List.length_take_le k2 (Sy.steps l st)
          have h5 := HG.out.2.2.2
          rw [← HL.out.1] at h5
          rw [hN, hys, List.length_append, Sy.es1_len]
          omega
        by_cases hkm : k2 < M
        · obtain ⟨x, hx⟩ : ∃ x, (Sy.steps l st)[k2]? = some x := ⟨(Sy.steps l st)[k2]'(by have := H1.out.2.2; rw [← HL.out.1] at this; omega), List.getElem?_eq_getElem _⟩
          have hx' := hx
          rw [HL.out.1] at hx'
          obtain ⟨a, rfl, d0, d1⟩ := step_at (H1.out.1 wr (HG.out.1.out.below hb)) hx'
          have hs1 := Sy.es1_snoc (st := (st : Int)) hx
          obtain ⟨x1, x2⟩ := x
          simp only at d0 d1 hs1
          obtain ⟨wb, hwb⟩ : ∃ wb, wb = wr.alloc (.cells #[.int .i64 x1, .int .i64 x2] 51) := ⟨_, rfl⟩
          have hbb : Below wr.heap.size wr wb := by rw [hwb]; exact (Below.refl _ _).alloc (Nat.le_refl _) _
          have hgb : wb.heap[wr.heap.size]? = some (.cells #[.int .i64 x1, .int .i64 x2] 51 (0, 0)) := by rw [hwb]; exact heap_alloc_new wr _
          have f0 : wb.cell? ⟨wr.heap.size, 0, none⟩ = some (.int .i64 x1) := cell0_of hgb rfl
          have f1 : wb.cell? ⟨wr.heap.size, 1, none⟩ = some (.int .i64 x2) := cell0_of hgb rfl
          have hOb : BEdges.Own wb w.heap.size (.slice au N cu) ys := trow_at hO fun b hb => hbb.block b (hO.lt b hb).2
          have hOz : wb.ownsRow w.heap.size 49 3 (.slice au N cu) N (BEdges.C ys) := by have h1 := hOb; unfold BEdges.Own at h1; rw [← hN] at h1; exact h1
          have hbw : Below w.heap.size w wb := hb.trans (hbb.mono hb.size)
          have hle : w.heap.size ≤ (wb.alloc (.cells #[.int .i64 st, .int .i64 x1, .int .i64 x2] 49)).heap.size := by have := hbw.size; simp; omega
          have hml : N + 1 ≤ maxLen := by unfold maxLen; omega
          have hby : (N + 1) * 24 ≤ 140737488355328 := by omega
          have k0 : (0 : Int) ≤ (k2 : Int) := by omega
          have k1 : (k2 : Int) < (M : Int) := by omega
          have HZ : Hid _ := And.intro hOz (And.intro hbw (And.intro hwb (And.intro hys (And.intro hs1 hN))))
          clear hO hOb hOz hbw hwb hbb hgb hys hs1 hN hx hx' hb
          go_upto_region 8 with fail
          rw [← HZ.out.2.2.1]
          go_wp2_with (at_builtin; refine wpList_append_own_at _ rfl _ _ 22 rfl w.heap.size 49 i0 (.agg #[.int .i64 0, .int .i64 0, .int .i64 0]) 3 24 Tryd.underlying22 hi0 hz0 hz1 hz2 rfl (by decide) (.slice au N cu) N (BEdges.C ys) rfl (HZ.out.1.alloc _) ⟨wb.heap.size, 0, none⟩ 1 1 [.int .i64 st, .int .i64 x1, .int .i64 x2] rfl rfl (World.news_of_block (cs := #[.int .i64 st, .int .i64 x1, .int .i64 x2]) (t := 49) (fr := (0, 0)) (heap_alloc_new wb _)) (by simp [Value.oneCell']) hml hby hle ?_; intro v5 w5 hO5 hg5 hnil5 hat5; have H2 : Hid _ := And.intro hO5 hg5; clear hO5 hg5 hnil5 hat5)
          go_roundg (M - (k2 + 1))
          case measure => omega
          case rel =>
            refine ⟨k2 + 1, rfl, by omega, by go_num, ?_, ?_⟩
            · rw [HZ.out.2.2.2.2.1, ← List.append_assoc, ← HZ.out.2.2.2.1]
              unfold BEdges.Own
              rw [BEdges.C_snoc, List.length_append, ← HZ.out.2.2.2.2.2]
              exact H2.out.1
            · exact HZ.out.2.1.trans ((grown_alloc H2.out.2).below HZ.out.2.1.size fun b hb => (HZ.out.1.lt b hb).1)
        · obtain rfl : k2 = M := by omega
          have k1 : ¬ (k2 : Int) < (k2 : Int) := by omega
          have hfull : ys = l.take (Sy.cnt l ((st : Int) + 1)) := by
            have ht : (Sy.steps l st).take k2 = Sy.steps l st := List.take_of_length_le (by have := H1.out.2.2; rw [← HL.out.1] at this; omega)
            rw [hys, ht]
            exact Sy.take_row HL.out.2.1 st
          have HJ : Hid _ := And.intro hO (And.intro hfull (And.intro hb hN))
          clear hO hfull hb hN hys
          go_wp2_with fail
          go_roundg (n - (st + 1))
          case measure => omega
          case rel =>
            refine ⟨st + 1, rfl, by omega, by go_num, ?_, HJ.out.2.2.1⟩
            rw [show (((st + 1 : Nat) : Int)) = (st : Int) + 1 by omega, ← HJ.out.2.1]
            exact HJ.out.1
    · obtain rfl : st = n := by omega
      have r1 : ¬ (st : Int) < (st : Int) := by omega
      rw [HL.out.2.2.2] at hO
      have HJ : Hid _ := And.intro hO hb
      obtain ⟨au, cu, hu⟩ := row_shape hO
      obtain ⟨N, hN⟩ : ∃ N, N = l.length := ⟨_, rfl⟩
      rw [← hN] at hu
      subst hu
      clear hO hb hN
      go_wp2_with fail
      go_ret
      exact ⟨_, rfl, HJ.out.1, HJ.out.2⟩
end Go.Proofs.YtmfcfiiggmkbpaaDoor
/- GraphTurned: plain facts. -/
namespace Go.Proofs.YtmfcfiiggmkbpaaDoor
open Go.RowKit Go.Maps
theorem res_up7 {W w8 : World} {b : Nat} {o : Obj} (hb : Below W.heap.size W w8) (h : W.heap[b]? = some o) : w8.heap[b]? = some o := (hb.block b (t_lt h)).trans h
theorem cellu7 {w w' : World} {a : Addr} {x : Value} (h : w.cell? a = some x) (hb : Below w.heap.size w w') : w'.cell? a = some x := (hb.cell (World.block_lt_of_cell? w _ h)).trans h
/-- Is it among the first k? -/
def mt {α : Type} [BEq α] (zs : List α) (z : α) (k : Nat) : Bool := (zs.take k).any fun x => x == z
theorem mt_zero {α : Type} [BEq α] (zs : List α) (z : α) : mt zs z 0 = false := by simp [mt]
theorem mt_succ {α : Type} [BEq α] {zs : List α} {k : Nat} {x : α} (z : α) (h : zs[k]? = some x) : mt zs z (k + 1) = (mt zs z k || (x == z)) := by
  unfold mt
  rw [take_succ_of h, List.any_append]
  simp
theorem mt_all {α : Type} [BEq α] [LawfulBEq α] {zs : List α} {z : α} {k : Nat} (hk : k = zs.length) (h : z ∈ zs) : mt zs z k = true := by
  unfold mt
  rw [hk, List.take_length, List.any_eq_true]
  exact ⟨z, h, by simp⟩
theorem Sy.row_mem {n : Nat} {k s : Int} {es : List Sy.Ed} (h : Sy.right n k s es = true) {z : Sy.Ed} (hz : z ∈ Sy.nf es) : (z.2.1, z.2.2) ∈ Sy.rowOf n (Sy.nf es) z.1 := by
  have h1 := (right_parts h).2.2.2.2.2 z ((Sy.nf_mem es z).1 hz)
  unfold Sy.rowOf
  rw [if_pos ⟨h1.1, h1.2.1⟩]
  exact Sy.steps_mem.2 hz
theorem Sy.turn_mem {es : List Sy.Ed} {z : Sy.Ed} (hz : z ∈ Sy.nf es) : Sy.turn z ∈ Sy.nf ((Sy.nf es).map Sy.turn) := (Sy.nf_mem _ _).2 (List.mem_map.2 ⟨z, hz, rfl⟩)
theorem Sy.row_memIn {n : Nat} {k s : Int} {es : List Sy.Ed} (h : Sy.right n k s es = true) {z : Sy.Ed} (hz : z ∈ Sy.nf es) : (z.2.1, z.1) ∈ Sy.rowOf n (Sy.nf ((Sy.nf es).map Sy.turn)) z.2.2 := by
  have h1 := (right_parts h).2.2.2.2.2 z ((Sy.nf_mem es z).1 hz)
  unfold Sy.rowOf
  rw [if_pos ⟨h1.2.2.1, h1.2.2.2.1⟩]
  exact Sy.steps_mem.2 (Sy.turn_mem hz)
/-- As many steps as there are edges ahead. -/
theorem Sy.cnt_row {l : List Sy.Ed} (h : Sy.Rows l) (st : Int) : Sy.cnt l st + (Sy.steps l st).length = Sy.cnt l (st + 1) := by
  have h1 := congrArg List.length (Sy.take_row h st)
  rw [List.length_append, Sy.es1_len, List.length_take, List.length_take] at h1
  have h2 := Sy.cnt_le l st
  have h3 := Sy.cnt_le l (st + 1)
  omega
theorem Sy.cnt_end {n k s : Int} {es : List Sy.Ed} (h : Sy.right n k s es = true) : Sy.cnt (Sy.nf es) n = (Sy.nf es).length := Sy.cnt_all fun e he => ((right_parts h).2.2.2.2.2 e ((Sy.nf_mem es e).1 he)).2.1
theorem Sy.cnt_endIn {n k s : Int} {es : List Sy.Ed} (h : Sy.right n k s es = true) : Sy.cnt (Sy.nf ((Sy.nf es).map Sy.turn)) n = (Sy.nf es).length := by
  rw [Sy.cnt_all fun e he => ?_, nf_turn_len]
  obtain ⟨x, hx, rfl⟩ := List.mem_map.1 ((Sy.nf_mem _ e).1 he)
  exact ((right_parts h).2.2.2.2.2 x ((Sy.nf_mem es x).1 hx)).2.2.2.1
theorem Sy.cnt_nought {n k s : Int} {es : List Sy.Ed} (h : Sy.right n k s es = true) : Sy.cnt (Sy.nf es) 0 = 0 := Sy.cnt_none fun e he => by have := ((right_parts h).2.2.2.2.2 e ((Sy.nf_mem es e).1 he)).1; omega
theorem Sy.cnt_noughtIn {n k s : Int} {es : List Sy.Ed} (h : Sy.right n k s es = true) : Sy.cnt (Sy.nf ((Sy.nf es).map Sy.turn)) 0 = 0 := by
  refine Sy.cnt_none fun e he => ?_
  obtain ⟨x, hx, rfl⟩ := List.mem_map.1 ((Sy.nf_mem _ e).1 he)
  have := ((right_parts h).2.2.2.2.2 x ((Sy.nf_mem es x).1 hx)).2.2.1
  show ¬ x.2.2 < 0
  omega
end Go.Proofs.YtmfcfiiggmkbpaaDoor
