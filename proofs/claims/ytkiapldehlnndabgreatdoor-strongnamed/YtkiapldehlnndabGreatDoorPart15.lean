/- Texts of this claim, joined: SgCls0, SgRef, SgCan, SgClasses, SgReplay, SgAlive, SgSm9, SgNam, SgEd0. -/
import Derived.Test.YtkiapldehlnndabGreatDoorPart2
import Derived.Test.YtkiapldehlnndabGreatDoorPart14
import Derived.Maps.AppendAt
import Derived.Laws.ResultCell
import Derived.Test.YtkiapldehlnndabGreatDoorPart1
import Derived.Test.YtkiapldehlnndabGreatDoorPart12
import Derived.Test.YtkiapldehlnndabGreatDoorPart4
import Derived.Deep.RegionLaw
import Derived.Deep.DeepCutAuto
/- refine: Classes of a partition of no element, too. -/
namespace Go.Proofs.YtkiapldehlnndabGreatDoor
open Go.RowKit Go.Maps
attribute [local go_sem ↓] Go.wp_at_zero Go.wp_at_succ
set_option maxRecDepth 100000 in
set_option maxHeartbeats 4000000 in
theorem classes_none (g : Nat) (c : Nat → Int) (w0 w : World) (hP : Pt w0 w g c) (h0 : c 0 = 0) :
    Calls Tryz.prog 25 #[.pointer (some ⟨g, 0, none⟩)] w fun r w' => ∃ u, r = .returned u ∧ OwnI w' w.heap.size u [] ∧ Below w.heap.size w w' := by
  have c0 := hP.cell (i := 0) (by omega)
  rw [h0] at c0
  have hCn : ∀ (ao : Option Addr) W, Below w.heap.size w W → Calls Tryz.prog 33 #[.slice ao 0 0] W fun r w' => ∃ u, r = .returned u ∧ OwnI w' W.heap.size u [] ∧ Below W.heap.size W w' := fun ao W hW =>
    pCanon (.slice ao 0 0) [] W ⟨ao, 0, rfl, fun i z hz => by simp at hz⟩ (by simp) (fun z hz => by simp at hz)
  have H : Hid _ := And.intro hCn trivial
  clear hCn hP h0
  go_enter Tryz.func25, Tryz.ntmps25
  go_upto_region 3 with fail
  go_region_held3 (fun w' => (w'.cell? ⟨g, 0, none⟩ = some (.int .i64 0) ∧ w'.cell? ⟨g, 0, none⟩ = some (.int .i64 0)) ∧ Hid (Below w.heap.size w w')) (first | exact rgu2 hb5 (by assumption) | exact ⟨⟨c0, c0⟩, ((Below.refl _ _).drew : Below w.heap.size w w.drew)⟩ | go_keep)
    ((first
      | (go_at_call 33; refine Calls.mono (H.out.1 _ _ (rgb3 (by assumption))) ?_; rintro r w5 ⟨u, rfl, hO5, hb5⟩)
      | fail))
  have hbw : Below w.heap.size w w5 := rgb3 (by assumption)
  have HB : Hid (OwnI w5 w.heap.size u [] ∧ Below w.heap.size w w5) := ⟨hO5, hbw⟩
  go_wp2_with fail
  go_ret
  exact ⟨_, rfl, HB.out.1, HB.out.2⟩
theorem classes_all (g : Nat) (c : Nat → Int) (s : Pst) (w0 w : World) (hP : Pt w0 w g c) (hL : Lay c s) (hO : s.Ok) :
    Calls Tryz.prog 25 #[.pointer (some ⟨g, 0, none⟩)] w fun r w' => ∃ u, r = .returned u ∧ OwnI w' w.heap.size u (natI (Sy.canon s.own)) ∧ Below w.heap.size w w' := by
  rcases Nat.eq_zero_or_pos s.n with h | h
  · have h1 := classes_none g c w0 w hP (by rw [hL.n, h]; rfl)
    have h2 : natI (Sy.canon s.own) = [] := by
      have h3 : s.own = [] := by unfold Pst.own; rw [h]; rfl
      rw [h3]; rfl
    rw [h2]
    exact h1
  · exact classes_any g c s w0 w hP hL hO h
end Go.Proofs.YtkiapldehlnndabGreatDoor
/- strong: contract of Refine: the classes, the takings, the gauge of each state. -/
namespace Go.Proofs.YtkiapldehlnndabGreatDoor
open Go.RowKit Go.Maps
attribute [local go_sem ↓] Go.wp_at_zero Go.wp_at_succ
theorem makeG (n : Nat) (hn : n ≤ 1000000) (w : World) : (Instr.makeSlice 27 (.int .i64 (n : Int)) (.int .i64 (n : Int))).run Tryz.prog w = .ok (.slice (some ⟨w.heap.size, 0, none⟩) n n) (w.alloc (.cells (madeV (.int .i64 0) n) 3)) := make_of _ _ _ 8 Tryz.underlying27 Tryz.infoI3 n hn (by decide) w
theorem Tryz.infoRow : (Tryz.prog.info? 27).map (fun i => (i.zero, i.size, i.bytes)) = some (some (.slice none 0 0), 1, 24) := by kernel_rfl
def EndAt (G : Gp) (tk : List (List Int)) (O : Nat → Nat) (H : Nat → Int) : Prop := (G.n = 0 ∧ tk = []) ∨ (tk ≠ [] ∧ ∀ a b, a < G.n → b < G.n → H a = H b → O a = O b)
structure RefAt (w w' : World) (G : Gp) (u vT vG : Value) (tk : List (Value × List Int)) (O : Nat → Nat) : Prop where
  cls : OwnI w' w.heap.size u (natI (Sy.canon ((List.range G.n).map fun e : Nat => (O e : Int))))
  row : w'.ownsRow w.heap.size 27 1 vT tk.length (tk.map (·.1))
  q : QueAll w' w.heap.size ((vG, gOf G.n (gz1 (tk.map (·.2)))) :: tk)
  fl : ∀ z ∈ (vG, gOf G.n (gz1 (tk.map (·.2)))) :: tk, At0 z.1
  far : ∀ b, u.ownBlock = some b → ¬ Foot ((vG, gOf G.n (gz1 (tk.map (·.2)))) :: tk) b
  hist : ∃ H h, Sg.Hist G (tk.map (·.2)) O H h ∧ EndAt G (tk.map (·.2)) O H
  bl : Below w.heap.size w w'
theorem QueAll.base {w : World} {B B' : Nat} {L : List (Value × List Int)} (h : QueAll w B L) (hb : B' ≤ B) : QueAll w B' L :=
  ⟨fun i z hz => by
    rcases h.q i z hz with h1 | ⟨g, off, cap, cur, e, h1, h2⟩
    · exact .inl h1
    · exact .inr ⟨g, off, cap, cur, e, by omega, h2⟩, h.ap⟩
theorem told_first {w2 w3 : World} {m : Nat} (hm : m ≤ 1000) (hw3 : w3 = (w2.alloc (.cells (madeV (.int .i64 0) m) 3)).alloc (.cells #[.slice none 0 0, .slice none 0 0, .slice (some ⟨w2.heap.size, 0, none⟩) m m] 46)) : Told w3 w2.heap.size (w2.heap.size + 1) (.slice none 0 0) (.slice (some ⟨w2.heap.size, 0, none⟩) m m) (gOf m (gz1 [])) [] ∧ Below w2.heap.size w2 w3 := by
  have hA := arr_new 3 (.int .i64 0) rfl m w2
  obtain ⟨wx, hwx⟩ : ∃ wx, wx = w2.alloc (.cells (madeV (.int .i64 0) m) 3) := ⟨_, rfl⟩
  rw [← hwx] at hA hw3
  have hbx : Below wx.heap.size wx w3 := by rw [hw3]; exact (Below.refl _ _).alloc (Nat.le_refl _) _
  have hsx : wx.heap.size = w2.heap.size + 1 := by rw [hwx]; simp
  obtain ⟨cs, hc, hcl⟩ := hA.ids
  have hc3 := bup hbx hc
  have hz : iC (gOf m (gz1 [])) = List.replicate m (.int .i64 0) := by
    unfold iC gOf
    rw [List.map_map]
    apply List.ext_getElem?
    intro i
    rcases Nat.lt_or_ge i m with h | h
    · rw [List.getElem?_map, List.getElem?_range h, List.getElem?_replicate, if_pos h]; rfl
    · rw [List.getElem?_eq_none (by simp; exact h), List.getElem?_eq_none (by simp; exact h)]
  have hsz : cs.size = m := by rw [← Array.length_toList, hcl, List.length_replicate]
  refine ⟨⟨?_, World.ownsRow_nil _ _ _ _, ⟨fun i z hi => ?_, fun i j z y b h1 h2 hne _ => ?_⟩, fun z hz => ?_, by omega⟩, hA.bl.trans (hbx.mono hA.bl.size)⟩
  · rw [hw3, ← hsx]; exact heap_alloc_new wx _
  · match i, hi with
    | 0, hi =>
      cases hi
      refine .inr ⟨w2.heap.size, 0, m, cs, by rw [gOf_len], Nat.le_refl _, hc3, by rw [gOf_len]; exact Nat.le_refl _, by unfold maxLen; omega, .inl (by omega), ?_⟩
      rw [List.drop_zero, gOf_len, hcl, hz]
      exact List.take_of_length_le (by simp)
    | i + 1, hi => simp at hi
  · have a1 := (List.getElem?_eq_some_iff.1 h1).1
    have a2 := (List.getElem?_eq_some_iff.1 h2).1
    simp at a1 a2
    omega
  · rw [List.mem_singleton.1 hz]; exact at0_of _ _ _
set_option linter.unusedSimpArgs false in
set_option maxRecDepth 100000 in
set_option maxHeartbeats 16000000 in
theorem refine_ok (hS : SortOk 1000000) (m kk : Nat) (s : Int) (v : Value) (es : List Sy.Ed) (a : Addr) (w : World) (hA : Sent w 0 a) (hv : BEdges.Has w v es) (hm : es.length ≤ 100000) (hq : Sy.right m kk s es = true) :
    Calls Tryz.prog 18 #[sysV m kk s v] w fun e w' => ∃ (u vT vG : Value) (G : Gp) (tk : List (Value × List Int)) (O : Nat → Nat), e = .returned (.tuple #[.agg #[u, vT, vG], .nilIface]) ∧ (G.n = m ∧ G.kk = kk ∧ G.st = s ∧ G.es = es) ∧ RefAt w w' G u vT vG tk O := by
  obtain ⟨i0, hi0, hz0, hz1, hz2⟩ := info_parts Tryz.infoRow
  have hv0 := hv
  obtain ⟨ao, cap, rfl, _⟩ := hv0
  obtain ⟨L, hL⟩ : ∃ L, L = es.length := ⟨_, rfl⟩
  obtain ⟨w1, hw1⟩ : ∃ w1, w1 = (w.alloc (.cells #[.int .i64 m, .int .i64 kk, .int .i64 s, .slice ao L cap] 24)).alloc (.cells #[.slice none 0 0, .slice none 0 0, .slice none 0 0] 46) := ⟨_, rfl⟩
  have hb1 : Below w.heap.size w w1 := by rw [hw1]; exact ((Below.refl _ _).alloc (Nat.le_refl _) _).alloc (by simp) _
  have hg1 : w1.heap[w.heap.size]? = some (.cells #[.int .i64 m, .int .i64 kk, .int .i64 s, .slice ao L cap] 24 (0, 0)) := by
    rw [hw1]
    exact bup ((Below.refl _ _).alloc (Nat.le_refl _) _) (heap_alloc_new w _)
  have hrc : w1.heap[w.heap.size + 1]? = some (.cells #[.slice none 0 0, .slice none 0 0, .slice none 0 0] 46 (0, 0)) := by
    rw [hw1]
    have h := heap_alloc_new (w.alloc (.cells #[.int .i64 m, .int .i64 kk, .int .i64 s, .slice ao L cap] 24)) (.cells #[.slice none 0 0, .slice none 0 0, .slice none 0 0] 46)
    rw [World.size_alloc] at h
    exact h
  have hN := begin_ok hS m kk s _ es a w1 (hA.below hb1) (hv.below hb1) hm hq
  rw [← hL] at hN ⊢
  unfold sysV at hN ⊢
  have hm1 : m ≤ 1000 := by have := (right_parts hq).1; omega
  have H1 : Hid _ := And.intro hw1 (And.intro hb1 (And.intro hg1 (And.intro hrc hN)))
  obtain ⟨x0, x1, x2, x3⟩ := four_cellsB hg1
  obtain ⟨isb, hisb⟩ : ∃ b, b = decide (0 < m) := ⟨_, rfl⟩
  have HIS : Hid _ := hisb
  clear hA hv hm hq hw1 hb1 hg1 hrc hN hL
  go_enter Tryz.func18, Tryz.ntmps18
  go_upto_region 1 with fail
  rw [← H1.out.1]
  go_upto_region 4 with (go_at_call 19; refine Calls.mono H1.out.2.2.2.2 ?_; rintro r2 w2 ⟨w0, r, g, p, mb, nm, G, x, rfl, hR, hx, hG, hnm, hb0, hb2⟩; clear x0 x1 x2 x3; have hg2 := bup hb2 H1.out.2.2.1; obtain ⟨x0, x1, x2, x3⟩ := four_cellsB hg2; have H2 : Hid _ := And.intro hR (And.intro hx (And.intro hG (And.intro hnm (And.intro hb0 (And.intro hb2 hg2))))); clear hR hx hG hnm hb0 hb2 hg2)
  have hmk := makeG m (by omega) w2
  go_upto_region 5 with fail
  obtain ⟨w3, hw3⟩ : ∃ w3, w3 = (w2.alloc (.cells (madeV (.int .i64 0) m) 3)).alloc (.cells #[.slice none 0 0, .slice none 0 0, .slice (some ⟨w2.heap.size, 0, none⟩) m m] 46) := ⟨_, rfl⟩
  rw [← hw3]
  obtain ⟨hT3, hb3⟩ := told_first hm1 hw3
  clear hmk hw3 x1 x2 x3 x0
  obtain ⟨x0, _⟩ := four_cellsB (bup hb3 H2.out.2.2.2.2.2.2)
  have hR3 := H2.out.1.below hb3
  have hn3 : G.n = m := H2.out.2.2.1.1
  have hlo : p < w2.heap.size ∧ r < w2.heap.size ∧ mb < w2.heap.size := by
    obtain ⟨c, hP, _⟩ := H2.out.1.c
    exact ⟨Arr.lt hP, t_lt H2.out.1.m.box, H2.out.1.cnt.lt⟩
  have hF : RfL w0 w2 w3 r g p mb (w2.heap.size + 1) nm G (Pst.new m) x (.slice none 0 0) (.slice (some ⟨w2.heap.size, 0, none⟩) m m) [] := by
    refine ⟨hR3, ?_, fun b hb hb2 => ?_, hlo, ?_, ?_⟩
    · rw [hn3]; exact hT3
    · rw [hn3] at hb2
      have h1 := (hT3.q.lt hb2).1
      have h2 := (H2.out.1.m.foot_lt hb).2
      omega
    · have h1 : hOf (Pst.new m) x = fun _ => 0 := funext fun e => H2.out.2.1.1 _
      have h2 : (Pst.new m).O = fun _ => 0 := rfl
      rw [h1, h2, H2.out.2.1.2]
      exact Sg.Hist.nil
    · rw [H2.out.2.1.2]
      have := H2.out.2.2.2.1
      simp only [List.length_cons, List.length_nil]
      omega
  obtain ⟨tb, htb⟩ : ∃ tb, tb = w2.heap.size + 1 := ⟨_, rfl⟩
  obtain ⟨gb, hgb⟩ : ∃ gb, gb = w2.heap.size := ⟨_, rfl⟩
  rw [← htb, ← hgb] at hF
  rw [← htb, ← hgb]
  have hks : x.ks.length = 1 := by rw [H2.out.2.1.2]; rfl
  have hfirst : isb = true → MayTake G (Pst.new m) x 0 := fun e => by
    have h0 : 0 < m := of_decide_eq_true (hisb.symm.trans e)
    exact ⟨by show 0 < (if m = 0 then 0 else 1); rw [if_neg (by omega)]; omega, 0, by omega, rfl, .inl (H2.out.2.1.1 _)⟩
  have hlast : isb = false → EndAt G [] (Pst.new m).O (hOf (Pst.new m) x) := fun e => by
    have h0 : ¬ 0 < m := of_decide_eq_false (hisb.symm.trans e)
    exact .inl ⟨by omega, rfl⟩
  have h02 : w0.heap.size ≤ w2.heap.size := H2.out.1.up.size
  have H3 : Hid _ := And.intro hF (And.intro hks (And.intro hfirst (And.intro hlast (And.intro hn3 (And.intro hb3 (And.intro h02 hgb))))))
  clear hT3 hb3 hR3 hn3 hlo hF hks hfirst hlast htb hgb h02 hisb
  have hd : decide (0 < m) = isb := HIS.out.symm
  have hd2 : decide ((m : Int) > 0) = isb := by rw [← hd]; exact decide_eq_decide.2 ⟨fun h => by omega, fun h => by omega⟩
  refine wp_region_held_drew (S := (fun w' => w'.cell? ⟨w.heap.size, 0, none⟩ = some (.int .i64 (m : Int)))) (by kernel_rfl) ?_ (fun hHeld => ?_)
  · exact x0
  refine wpAnyH_take (i := 0) (oi := _) (v := ?_) rfl (by kernel_rfl) (by kernel_rfl) (by kernel_rfl) (fun _ _ _ h => h) (Or.inl ⟨by rfl, ?_⟩) (by assumption) ?_; rotate_left; (focus (intro w hSw; (try dsimp only at hSw); go_simp; (try with_reducible rfl))); (try simp only [List.getElem_toArray, List.getElem_cons_succ, List.getElem_cons_zero, Act.put, List.setIfInBounds_toArray, List.set_cons_zero, List.set_cons_succ])
  refine wpAnyH_take (i := 1) (oi := _) (v := ?_) rfl (by kernel_rfl) (by kernel_rfl) (by kernel_rfl) (fun _ _ _ h => h) (Or.inl ⟨by rfl, ?_⟩) (by assumption) ?_; rotate_left; (focus (intro w hSw; (try dsimp only at hSw); go_simp; (try with_reducible rfl))); (try simp only [List.getElem_toArray, List.getElem_cons_succ, List.getElem_cons_zero, Act.put, List.setIfInBounds_toArray, List.set_cons_zero, List.set_cons_succ])
  refine wpAnyH_take (i := 2) (oi := _) (v := ?_) rfl (by kernel_rfl) (by kernel_rfl) (by kernel_rfl) (fun _ _ _ h => h) (Or.inl ⟨by rfl, ?_⟩) (by assumption) ?_; rotate_left; (focus (intro w hSw; (try dsimp only at hSw); go_simp; (try with_reducible rfl))); (try simp only [List.getElem_toArray, List.getElem_cons_succ, List.getElem_cons_zero, Act.put, List.setIfInBounds_toArray, List.set_cons_zero, List.set_cons_succ])
  refine wpAnyH_take (i := 3) (oi := _) (v := ?_) rfl (by kernel_rfl) (by kernel_rfl) (by kernel_rfl) (fun _ _ _ h => h) (Or.inl ⟨by rfl, ?_⟩) (by assumption) ?_; rotate_left; (focus (intro w hSw; (try dsimp only at hSw); go_simp; (try with_reducible rfl))); (try simp only [List.getElem_toArray, List.getElem_cons_succ, List.getElem_cons_zero, Act.put, List.setIfInBounds_toArray, List.set_cons_zero, List.set_cons_succ])
  refine wpAnyH_take (i := 4) (oi := _) (v := ?_) rfl (by kernel_rfl) (by kernel_rfl) (by kernel_rfl) (fun _ _ _ h => h) (Or.inl ⟨by rfl, ?_⟩) (by assumption) ?_; rotate_left; (focus (intro w hSw; (try dsimp only at hSw); go_simp; (try with_reducible rfl))); (try simp only [List.getElem_toArray, List.getElem_cons_succ, List.getElem_cons_zero, Act.put, List.setIfInBounds_toArray, List.set_cons_zero, List.set_cons_succ])
  refine wpAnyH_done (by kernel_rfl) ?_ _
  (try go_simp)
  clear hHeld
  obtain ⟨wq, hwq⟩ : ∃ wq, wq = w3.drew := ⟨_, rfl⟩
  have hbq : Below w3.heap.size w3 wq := by rw [hwq]; exact (Below.refl _ _).drew
  rw [← hwq]
  clear hwq
  have hFq : RfL w0 w2 wq r g p mb tb nm G (Pst.new m) x (.slice none 0 0) (.slice (some ⟨gb, 0, none⟩) m m) [] := ⟨H3.out.1.run.below hbq, H3.out.1.told.below hbq, H3.out.1.far, H3.out.1.lo, H3.out.1.hist, H3.out.1.nmb⟩
  have H4 : Hid _ := And.intro hFq hbq
  clear hFq hbq
  go_wp2_with fail
  clear hd hd2 x0
  go_loopg [7, 8] (m + 1) (fun q bv iv wr => ∃ (nm : Nat) (s1 : Pst) (x1 : Rv) (vT : Value) (tk : List (Value × List Int)) (bl : Nat) (is : Bool), q = m + 2 - x1.ks.length ∧ bv = .int .i64 bl ∧ iv = .bool is ∧ RfL w0 w2 wr r g p mb tb nm G s1 x1 vT (.slice (some ⟨gb, 0, none⟩) m m) tk ∧ (is = true → MayTake G s1 x1 bl) ∧ (is = false → EndAt G (tk.map (·.2)) s1.O (hOf s1 x1)))
  case atStart => exact ⟨nm, Pst.new m, x, .slice none 0 0, [], 0, isb, by rw [H3.out.2.1]; omega, rfl, rfl, H4.out.1, H3.out.2.2.1, H3.out.2.2.2.1⟩
  case round =>
    obtain ⟨nm1, s1, x1, vT, tk, bl, is, rfl, rfl, rfl, hF, hyes, hno⟩ := hrel
    obtain ⟨wo, hwo⟩ : ∃ wo, wo = wr := ⟨_, rfl⟩
    rw [← hwo] at hF ⊢
    clear hwo
    cases is with
    | true =>
      have hMay := hyes rfl
      obtain ⟨c, hP, hL⟩ := hF.run.c
      have hMem := rmembers_any w0 w0.heap.size r g p mb x1 c s1 bl wo hF.run.m hP hL hF.run.ok hMay.1
      have hheaps := hF.hist.heaps
      have HF : Hid _ := And.intro hF (And.intro hMay (And.intro hMem hheaps))
      clear hF hMay hMem hyes hno hP hL hheaps
      go_upto_region 9 with (go_at_call 36; refine Calls.mono HF.out.2.2.1 ?_; rintro r4 w4 ⟨u, rfl, hu, hb4⟩; obtain ⟨au, cu, hve⟩ := row_shape hu; obtain ⟨M, hM⟩ : ∃ M, M = (s1.mem bl).length := ⟨_, rfl⟩; rw [← hM] at hve; subst hve; have H4 : Hid _ := And.intro hu (And.intro hb4 hM); clear hu hb4 hM)
      have hT4 := HF.out.1.told.below H4.out.2.1
      have hR4 := HF.out.1.run.below H4.out.2.1
      have hM1 : M ≤ 1000 := by
        rw [H4.out.2.2, mem_len HF.out.1.run.ok HF.out.2.1.1]
        have h1 := HF.out.1.run.ok.iv bl HF.out.2.1.1
        have h2 := HF.out.1.run.ok.n1
        omega
      obtain ⟨aT, cT, hvT⟩ := row_shape hT4.row
      have t1 : w4.cell? ⟨tb, 1, none⟩ = some vT := cell0_of hT4.box rfl
      have tf := blk_free hT4.box 1
      obtain ⟨N, hN⟩ : ∃ N, N = tk.length := ⟨_, rfl⟩
      have hNl : N ≤ 1001 := by
        have h1 := HF.out.1.hist.inv.len
        have h2 := HF.out.2.2.2
        have h3 := H3.out.2.2.2.2.1
        rw [List.length_map] at h1
        omega
      have hrow4 : w4.ownsRow w2.heap.size 27 1 vT N (tk.map (·.1)) := by rw [hN]; exact hT4.row
      have hml : N + 1 ≤ maxLen := by unfold maxLen; omega
      have hby : (N + 1) * 24 ≤ 140737488355328 := by omega
      have hle : w2.heap.size ≤ (w4.alloc (.cells #[.slice au M cu] 27)).heap.size := by
        have h1 := hT4.up
        have h2 := t_lt hT4.box
        rw [World.size_alloc]
        omega
      rw [← hN] at hvT
      subst hvT
      have H5 : Hid _ := And.intro hT4 (And.intro hR4 (And.intro hN (And.intro hrow4 (World.size_alloc w4 (.cells #[.slice au M cu] 27)))))
      clear hT4 hR4 hN hrow4
      go_upto_region 10 with (at_builtin; refine wpList_append_own_at _ rfl _ _ 36 rfl w2.heap.size 27 i0 (.slice none 0 0) 1 24 Tryz.underlying36 hi0 hz0 hz1 hz2 rfl (by decide) (.slice aT N cT) N (tk.map (·.1)) rfl (H5.out.2.2.2.1.alloc _) ⟨w4.heap.size, 0, none⟩ 1 1 [.slice au M cu] rfl rfl (World.news_of_block (cs := #[.slice au M cu]) (t := 27) (fr := (0, 0)) (heap_alloc_new w4 _)) (by simp [Value.oneCell']) hml hby hle ?_; intro v7 w7 hO7 hg7 hnil7 hat7; obtain ⟨a7, c7, hv7⟩ := row_shape hO7; subst hv7; have t7 : w7.cell? ⟨tb, 1, none⟩ = some (.slice aT N cT) := (World.cell?_of_block (a := ⟨tb, 1, none⟩) ((grown_alloc hg7).block tb (t_lt H5.out.1.box) (fun e => own_bk H5.out.1.row H5.out.1.box (by decide) e))).trans t1; have tf7 : w7.frozen? ⟨tb, 1, none⟩ = false := (World.frozen?_of_block ((grown_alloc hg7).block tb (t_lt H5.out.1.box) (fun e => own_bk H5.out.1.row H5.out.1.box (by decide) e))).trans tf; have H7 : Hid _ := And.intro hO7 (And.intro hg7 hat7); clear hO7 hg7 hnil7 hat7)
      obtain ⟨w8, hw8⟩ : ∃ w8, w8 = w7.setCell ⟨tb, 1, none⟩ (.slice a7 (N + 1) c7) := ⟨_, rfl⟩
      rw [← hw8]
      have hT8 : Told w8 w2.heap.size tb (.slice a7 (N + 1) c7) (.slice (some ⟨gb, 0, none⟩) m m) (gOf G.n (gz1 (tk.map (·.2)))) (tk ++ [(.slice au M cu, s1.mem bl)]) ∧ Kept (fun b => b = tb ∨ (Value.slice aT N cT).ownBlock = some b) w4 w8 ∧ OwnI w8 w2.heap.size (.slice au M cu) (s1.mem bl) := by
        rw [hw8]
        have h2 : w2.heap.size ≤ wo.heap.size := Nat.le_trans HF.out.1.told.up (Nat.le_of_lt (t_lt HF.out.1.told.box))
        have h3 := H7.out.2.2
        rw [H5.out.2.2.2.2] at h3
        have h4 : OwnI w4 w2.heap.size (.slice au M cu) (s1.mem bl) := row_base H4.out.1 h2
        refine H5.out.1.tell h4 (fun b hb hf => ?_) (by rw [H5.out.2.2.1]) H7.out.1 H7.out.2.1 h3
        have h5 := (H4.out.1.lt b hb).1
        have h6 := (HF.out.1.told.q.lt hf).2
        omega
      have hR8 : RunAt w0 w8 r g p mb nm1 G s1 x1 := H5.out.2.1.kept hT8.2.1 fun b hb => told_far (wS := w2) H5.out.2.1 H5.out.1 HF.out.1.lo H3.out.2.2.2.2.2.2.1 b hb
      have hbl8 : ∀ b, x1.foot b → b < wo.heap.size := fun b hb => (HF.out.1.run.m.foot_lt hb).2
      have H8 : Hid _ := And.intro hT8 (And.intro hR8 hbl8)
      clear hT8 hR8 hw8 t7 tf7 t1 tf hml hby hle hbl8
      go_wp2_with fail
      go_loopg [46] M (fun q iv wr => ∃ (i : Nat) (f : Nat → Int), q = M - i ∧ i ≤ M ∧ iv = .int .i64 i ∧ Told wr w2.heap.size tb (.slice a7 (N + 1) c7) (.slice (some ⟨gb, 0, none⟩) m m) (gOf G.n f) (tk ++ [(.slice au M cu, s1.mem bl)]) ∧ Kept (fun b => b = gb) w8 wr ∧ ∀ e, f e = gz1 (tk.map (·.2)) e + (((s1.mem bl).take i).count (e : Int) : Nat))
      case atStart => exact ⟨0, gz1 (tk.map (·.2)), rfl, Nat.zero_le _, rfl, H8.out.1.1, Kept.refl _ _, fun e => by simp⟩
      case round =>
        obtain ⟨i, f, rfl, hi, rfl, hT, hKp, hf⟩ := hrel
        have hgT : gb < w4.heap.size ∧ wo.heap.size ≤ w4.heap.size := by
          refine ⟨?_, H4.out.2.1.size⟩
          have h1 := H5.out.1.q.lt (b := gb) ⟨_, List.mem_cons_self, rfl⟩
          exact h1.2
        have hgo : gb < wo.heap.size := (HF.out.1.told.q.lt (b := gb) ⟨_, List.mem_cons_self, rfl⟩).2
        by_cases hlt : i < M
        · have q0 : (0 : Int) ≤ (i : Int) := by omega
          have q1 : (i : Int) < (M : Int) := by omega
          obtain ⟨z, hz⟩ : ∃ z, (s1.mem bl)[i]? = some z := ⟨(s1.mem bl)[i]'(by rw [← H4.out.2.2]; exact hlt), List.getElem?_eq_getElem _⟩
          obtain ⟨e, he, hOe, rfl⟩ := mem_mem.1 (List.mem_of_getElem? hz)
          have hem : e < m := by have := HF.out.1.run.n; have := H3.out.2.2.2.2.1; omega
          have hOw : OwnI wr w2.heap.size (.slice au M cu) (s1.mem bl) := own_up H8.out.1.2.2 hKp fun b hb e9 => by
            have h5 := (H4.out.1.lt b hb).1
            omega
          obtain ⟨gs, rfl, hce⟩ := own_num hOw hz
          have t2 : wr.cell? ⟨tb, 2, none⟩ = some (.slice (some ⟨gb, 0, none⟩) m m) := cell0_of hT.box rfl
          have hge : (gOf G.n f)[e]? = some (f e) := gOf_at (by rw [H3.out.2.2.2.2.1]; exact hem)
          obtain ⟨gc, gf⟩ := Que.cellAt (hT.q.q 0 _ rfl) hge
          rw [Nat.zero_add] at gc gf
          have hfe := hf e
          have hgz : gz1 (tk.map (·.2)) e ≤ 1001 ∧ 0 ≤ gz1 (tk.map (·.2)) e := by
            have h1 := List.countP_le_length (p := fun m : List Int => decide ((e : Int) ∈ m)) (l := tk.map (·.2))
            rw [List.length_map] at h1
            have h2 := H5.out.2.2.1
            unfold gz1
            omega
          have hct := List.count_le_length (a := (e : Int)) (l := (s1.mem bl).take i)
          rw [List.length_take] at hct
          obtain ⟨y, hy⟩ : ∃ y, y = f e := ⟨_, rfl⟩
          rw [← hy] at gc hfe
          have pw : IntKind.i64.wrap (y + 1) = y + 1 := wrap_small (by omega) (by omega)
          have r0 : (0 : Int) ≤ (e : Int) := by omega
          have r1 : (e : Int) < (m : Int) := by omega
          have hB := hT.bump (k := e) (n := gb) (by rw [gOf_len, H3.out.2.2.2.2.1]; exact hem) (y + 1) rfl
          rw [gOf_set] at hB
          have hf2 : ∀ e2, (if e2 = e then y + 1 else f e2) = gz1 (tk.map (·.2)) e2 + (((s1.mem bl).take (i + 1)).count (e2 : Int) : Nat) := fun e2 => by
            rw [take_succ_of hz, List.count_append, List.count_singleton]
            by_cases h1 : e2 = e
            · subst h1
              rw [if_pos rfl, hfe]
              simp
              omega
            · rw [if_neg h1, hf e2]
              have h2 : ((e : Int) == (e2 : Int)) = false := by simp; omega
              rw [h2]
              simp
          have HB : Hid _ := And.intro hB (And.intro hf2 hKp)
          clear hT hKp hf hOw hge hfe hy hB hf2 hz hgT hgo he hOe hgz hct
          go_wp2_with fail
          go_roundg (M - (i + 1))
          case measure => omega
          case rel => exact ⟨i + 1, _, rfl, by omega, by go_num, HB.out.1.1, HB.out.2.2.trans HB.out.1.2, HB.out.2.1⟩
        · obtain rfl : i = M := by omega
          have q1 : ¬ (i : Int) < (i : Int) := by omega
          have hfarg : ∀ b, b = gb → w0.heap.size ≤ b ∧ b ≠ p ∧ b ≠ r ∧ b ≠ mb ∧ ¬ x1.foot b := fun b e => by
            have h1 := (HF.out.1.told.q.lt (b := gb) ⟨_, List.mem_cons_self, rfl⟩).1
            have h2 := HF.out.1.lo
            have h3 := H3.out.2.2.2.2.2.2.1
            refine ⟨by omega, by omega, by omega, by omega, fun hb => HF.out.1.far b hb ?_⟩
            rw [e]
            exact ⟨_, List.mem_cons_self, rfl⟩
          have hRW := H8.out.2.1.kept hKp hfarg
          have hTW : Told wr w2.heap.size tb (.slice a7 (N + 1) c7) (.slice (some ⟨gb, 0, none⟩) m m) (gOf G.n (gz1 ((tk ++ [(Value.slice au i cu, s1.mem bl)]).map (·.2)))) (tk ++ [(.slice au i cu, s1.mem bl)]) := by
            have h1 : gOf G.n f = gOf G.n (gz1 ((tk ++ [(Value.slice au i cu, s1.mem bl)]).map (·.2))) := gOf_congr fun e _ => by
              rw [hf e, List.map_append]
              show _ = gz1 (tk.map (·.2) ++ [s1.mem bl]) e
              rw [gz1_snoc _ _ (mem_nodup s1 bl), H4.out.2.2, List.take_length]
            rw [← h1]
            exact hT
          have hfW : ∀ b, x1.foot b → ¬ Foot ((Value.slice (some ⟨gb, 0, none⟩) m m, gOf G.n (gz1 ((tk ++ [(Value.slice au i cu, s1.mem bl)]).map (·.2)))) :: (tk ++ [(Value.slice au i cu, s1.mem bl)])) b := fun b hb hf2 => by
            obtain ⟨z, hz, hzb⟩ := hf2
            rcases List.mem_cons.1 hz with rfl | hz
            · exact HF.out.1.far b hb ⟨_, List.mem_cons_self, hzb⟩
            · rcases List.mem_append.1 hz with hz | hz
              · exact HF.out.1.far b hb ⟨z, List.mem_cons_of_mem _ hz, hzb⟩
              · rw [List.mem_singleton.1 hz] at hzb
                have h1 := (H4.out.1.lt b hzb).1
                have h2 := H8.out.2.2 b hb
                omega
          have hkl : x1.ks.length ≤ 100000 := by have := HF.out.2.2.2; have := H3.out.2.2.2.2.1; omega
          have hTk := take_any w0 r g p mb nm1 G s1 x1 bl wr hRW HF.out.2.1.1 (by have := HF.out.1.nmb; have := HF.out.2.2.2; have := H3.out.2.2.2.2.1; omega) hkl
          have HW : Hid _ := And.intro hRW (And.intro hTW (And.intro hfW hTk))
          clear hT hKp hf hfarg hRW hTW hfW hkl hTk hgT hgo
          go_upto_region 7 with (go_at_call 23; refine Calls.mono HW.out.2.2.2 ?_; rintro r9 w9 ⟨rfl, nm2, s2, x2, hR9, hA9⟩; have H9 : Hid _ := And.intro hR9 hA9; clear hR9 hA9)
          have hF9 := RfL.take HW.out.1 HW.out.2.1 HW.out.2.2.1 HF.out.1.lo HF.out.1.hist HF.out.1.nmb HF.out.2.1 H9.out.1 H9.out.2
          have hNx := next_all hF9.run
          have hks9 : x2.ks.length = x1.ks.length + 1 := H9.out.2.ks
          have hne9 : tk ++ [(Value.slice au i cu, s1.mem bl)] ≠ [] := by simp
          have H10 : Hid _ := And.intro hF9 (And.intro hNx (And.intro hks9 hne9))
          clear hF9 hNx hks9 hne9
          go_wp2_with (go_at_call 35; refine Calls.mono H10.out.2.1 ?_; rintro r10 w10 ⟨k10, u10, b9, is9, rfl, hN10, hyes9, hno9⟩; have HX : Hid _ := And.intro (H10.out.1.next hN10) (And.intro hyes9 hno9); clear hN10 hyes9 hno9)
          go_roundg (m + 2 - x2.ks.length)
          case measure => have h1 := H10.out.2.2.1; have h2 := HF.out.2.2.2; have h3 := H3.out.2.2.2.2.1; omega
          case rel => exact ⟨nm2, s2, x2.wait k10 u10, _, _, b9, is9, rfl, rfl, rfl, HX.out.1, HX.out.2.1, fun h => .inr ⟨by rw [List.map_append]; simp, HX.out.2.2 h⟩⟩
    | false =>
      have hEnd := hno rfl
      obtain ⟨c, hP, hL⟩ := hF.run.c
      have hCl := classes_all p c s1 w0 wo hP hL hF.run.ok
      have hbw : Below w.heap.size w wo := H1.out.2.1.trans ((H2.out.2.2.2.2.1.trans (hF.run.up.mono H2.out.2.2.2.2.1.size)).mono H1.out.2.1.size)
      have hrc : wo.heap[w.heap.size + 1]? = some (.cells #[.slice none 0 0, .slice none 0 0, .slice none 0 0] 46 (0, 0)) := bup (H2.out.2.2.2.2.1.trans (hF.run.up.mono H2.out.2.2.2.2.1.size)) H1.out.2.2.2.1
      have hne : w.heap.size + 1 ≠ tb := fun e => by
        have h1 := hF.told.up
        have h2 := t_lt H1.out.2.2.2.1
        have h3 := H2.out.2.2.2.2.2.1.size
        omega
      obtain ⟨aT, cT, hvT⟩ := row_shape hF.told.row
      obtain ⟨N, hN⟩ : ∃ N, N = tk.length := ⟨_, rfl⟩
      rw [← hN] at hvT
      subst hvT
      have c1 := (seven_cells hF.run.m.box).2.1
      have HF : Hid _ := And.intro hF (And.intro hEnd (And.intro hCl (And.intro hbw (And.intro hrc (And.intro hne hN)))))
      clear hF hEnd hCl hyes hno hP hL hbw hrc hne hN
      go_upto_region 17 with (go_at_call 25; refine Calls.mono HF.out.2.2.1 ?_; rintro r5 w5 ⟨u, rfl, hu, hb5⟩; obtain ⟨au, cu, hve⟩ := row_shape hu; obtain ⟨M, hM⟩ : ∃ M, M = (natI (Sy.canon s1.own)).length := ⟨_, rfl⟩; rw [← hM] at hve; subst hve; have t0 : w5.cell? ⟨tb, 0, none⟩ = some (.slice none 0 0) := cell0_of (HF.out.1.told.below hb5).box rfl; have tf := blk_free (HF.out.1.told.below hb5).box 0; have H5 : Hid _ := And.intro hu (And.intro hb5 hM); clear hu hb5 hM)
      obtain ⟨w6, hw6⟩ : ∃ w6, w6 = w5.setCell ⟨tb, 0, none⟩ (.slice au M cu) := ⟨_, rfl⟩
      rw [← hw6]
      have hT5 := HF.out.1.told.below H5.out.2.1
      have hbx6 : w6.heap[tb]? = some (.cells #[.slice au M cu, .slice aT N cT, .slice (some ⟨gb, 0, none⟩) m m] 46 (0, 0)) := by rw [hw6]; exact box_put hT5.box _
      have hrc6 : w6.heap[w.heap.size + 1]? = some (.cells #[.slice none 0 0, .slice none 0 0, .slice none 0 0] 46 (0, 0)) := by rw [hw6]; exact (set_other _ _ _ _ _ HF.out.2.2.2.2.2.1).trans (bup H5.out.2.1 HF.out.2.2.2.2.1)
      have hk6 : Kept (fun b => b = tb) w5 w6 := by rw [hw6]; exact Kept.setCell w5 tb 0 _
      have d0 : w6.cell? ⟨tb, 0, none⟩ = some (.slice au M cu) := cell0_of hbx6 rfl
      have d1 : w6.cell? ⟨tb, 1, none⟩ = some (.slice aT N cT) := cell0_of hbx6 rfl
      have d2 : w6.cell? ⟨tb, 2, none⟩ = some (.slice (some ⟨gb, 0, none⟩) m m) := cell0_of hbx6 rfl
      have e0 : w6.cell? ⟨w.heap.size + 1, 0, none⟩ = some (.slice none 0 0) := cell0_of hrc6 rfl
      have e1 : w6.cell? ⟨w.heap.size + 1, 1, none⟩ = some (.slice none 0 0) := cell0_of hrc6 rfl
      have e2 : w6.cell? ⟨w.heap.size + 1, 2, none⟩ = some (.slice none 0 0) := cell0_of hrc6 rfl
      have f0 := blk_free hrc6 0
      have f1 := blk_free hrc6 1
      have f2 := blk_free hrc6 2
      have H6 : Hid _ := And.intro hbx6 (And.intro hrc6 hk6)
      clear hT5 hbx6 hrc6 hk6 hw6 t0 tf
      go_wp2_with fail
      obtain ⟨w7, hw7⟩ : ∃ w7, w7 = ((w6.setCell ⟨w.heap.size + 1, 0, none⟩ (.slice au M cu)).setCell ⟨w.heap.size + 1, 1, none⟩ (.slice aT N cT)).setCell ⟨w.heap.size + 1, 2, none⟩ (.slice (some ⟨gb, 0, none⟩) m m) := ⟨_, rfl⟩
      rw [← hw7]
      have hbx7 : w7.heap[w.heap.size + 1]? = some (.cells #[.slice au M cu, .slice aT N cT, .slice (some ⟨gb, 0, none⟩) m m] 46 (0, 0)) := by rw [hw7]; exact box_put (box_put (box_put H6.out.2.1 _) _) _
      have hk7 : Kept (fun b => b = w.heap.size + 1) w6 w7 := by rw [hw7]; exact ((Kept.setCell _ _ _ _).trans (Kept.setCell _ _ _ _)).trans (Kept.setCell _ _ _ _)
      have hk57 : Kept (fun b => b = tb ∨ b = w.heap.size + 1) w5 w7 := (H6.out.2.2.mono fun _ _ e => .inl e).trans (hk7.mono fun _ _ e => .inr e)
      have hT5 := HF.out.1.told.below H5.out.2.1
      have hrc5 : w5.heap[w.heap.size + 1]? = some (.cells #[.slice none 0 0, .slice none 0 0, .slice none 0 0] 46 (0, 0)) := bup H5.out.2.1 HF.out.2.2.2.2.1
      have hint : ∀ {b : Nat} {cs : Array Value} {t : TypeId}, w5.heap[b]? = some (.cells cs t (0, 0)) → 46 ≠ t → ¬ (b = tb ∨ b = w.heap.size + 1) := fun {b cs t} hc ht e => by
        rcases e with e | e
        · exact tne hT5.box hc ht e.symm
        · exact tne hrc5 hc ht e.symm
      have hbo : Below w.heap.size w wo := HF.out.2.2.2.1
      have hlo2 : w.heap.size ≤ w2.heap.size := Nat.le_trans H1.out.2.1.size H2.out.2.2.2.2.2.1.size
      clear hw7 d0 d1 d2 e0 e1 e2 f0 f1 f2
      have d0 : w7.cell? ⟨w.heap.size + 1, 0, none⟩ = some (.slice au M cu) := cell0_of hbx7 rfl
      have d1 : w7.cell? ⟨w.heap.size + 1, 1, none⟩ = some (.slice aT N cT) := cell0_of hbx7 rfl
      have d2 : w7.cell? ⟨w.heap.size + 1, 2, none⟩ = some (.slice (some ⟨gb, 0, none⟩) m m) := cell0_of hbx7 rfl
      refine bodyPost_ret (v := .tuple #[.agg #[.slice au M cu, .slice aT N cT, .slice (some ⟨gb, 0, none⟩) m m], .nilIface]) ?_ rfl ?_
      · rw [results_cell_tmp rfl]
        go_simp
      · refine ⟨_, _, _, G, tk, s1.O, rfl, H2.out.2.2.1, ?_, ?_, ?_, HF.out.1.told.fl, fun b hb hf => ?_, ⟨hOf s1 x1, x1.ks.length, HF.out.1.hist, HF.out.2.1⟩, ?_⟩
        · have h1 := own_up H5.out.1 hk57 fun b hb => by obtain ⟨cs, hc⟩ := row_cells H5.out.1 hb; exact hint hc (by decide)
          have h2 : s1.own = (List.range G.n).map fun e : Nat => (s1.O e : Int) := by unfold Pst.own; rw [HF.out.1.run.n]
          rw [← h2]
          exact row_base h1 hbo.size
        · have h1 := own_up hT5.row hk57 fun b hb => by obtain ⟨cs, hc⟩ := row_cells hT5.row hb; exact hint hc (by decide)
          exact row_base h1 hlo2
        · exact (hT5.q.kept hk57 fun b hb => by obtain ⟨cs, hc⟩ := hT5.q.typed hb; exact hint hc (by decide)).base hlo2
        · have h1 := (H5.out.1.lt b hb).1
          have h2 := (HF.out.1.told.q.lt hf).2
          omega
        · have h1 : Below w.heap.size w w5 := hbo.trans (H5.out.2.1.mono hbo.size)
          exact h1.trans (hk57.below h1.size fun b e => by
            have h2 := HF.out.1.told.up
            rcases e with e | e <;> omega)
end Go.Proofs.YtkiapldehlnndabGreatDoor
/- The one form by the numbers of keys. Plain facts. -/
namespace Go.Proofs.YtkiapldehlnndabGreatDoor
namespace Sg
theorem seen_more (l : List Int) : ∀ seen, Sy.seenG seen l = l.foldl (fun s c => Ro.more c s) seen := by
  have hp : ∀ (c : Int) (l : List Int), Sy.place c l = Ro.place c l := fun c l => by
    induction l with
    | nil => rfl
    | cons a r ih => simp only [Sy.place, Ro.place, ih]
  induction l with
  | nil => intro seen; rfl
  | cons c r ih =>
    intro seen
    simp only [Sy.seenG, List.foldl_cons, ih, hp]
    congr 1
    unfold Ro.more
    by_cases h : c ∈ seen
    · rw [if_pos h, if_pos (Ro.place_lt.2 h)]
    · rw [if_neg h, if_neg (fun h1 => h (Ro.place_lt.1 h1))]
theorem canon_num (l : List Int) : Sy.canon l = Ro.num l := by
  have hp : ∀ (c : Int) (l : List Int), Sy.place c l = Ro.place c l := fun c l => by
    induction l with
    | nil => rfl
    | cons a r ih => simp only [Sy.place, Ro.place, ih]
  rw [Sy.canon_map, seen_more]
  unfold Ro.num
  exact List.map_congr_left fun z _ => hp z _
theorem canon_nat (l : List Nat) : Sy.canon (l.map fun e : Nat => (e : Int)) = Ro.num l := by
  rw [canon_num]
  refine Ro.num_congr (by simp) fun i j x y u v hx hy hu hv => ?_
  rw [List.getElem?_map, hu] at hx
  rw [List.getElem?_map, hv] at hy
  cases hx; cases hy
  exact Int.ofNat_inj
end Sg
end Go.Proofs.YtkiapldehlnndabGreatDoor
/- strong: contract of Classes: the classes of the last round, or system.Check's error within a fault of strong. -/
namespace Go.Proofs.YtkiapldehlnndabGreatDoor
open Go.RowKit Go.Maps
attribute [local go_sem ↓] Go.wp_at_zero Go.wp_at_succ
theorem Chain.keptF {w w' : World} {l c : Int} {a : Addr} {F : Nat → Prop} (hk : Kept F w w') (hF : ∀ (b : Nat) (cs : Array Value), w.heap[b]? = some (.cells cs 90 (0, 0)) → ¬ F b) : ∀ {ls : List ByteArray} {v : Value}, Chain w l c a ls v → Chain w' l c a ls v
  | [], _, h => h
  | _ :: _, _, ⟨b, u, e, hb, h⟩ => ⟨b, u, e, (hk.block b (t_lt hb) (hF b _ hb)).trans hb, Chain.keptF hk hF h⟩
def strB : ByteArray := ⟨#[115, 116, 114, 111, 110, 103]⟩
set_option maxRecDepth 100000 in
set_option maxHeartbeats 4000000 in
theorem sfault_any (T : TypeId) (u : Value) (w : World) (a : Addr) (ls : List ByteArray) (h : Chain w 0 0 a ls (.iface T u)) : Calls Tryz.prog 20 #[.iface T u] w fun r w' => ∃ b, r = .returned (.iface 88 (.pointer (some ⟨b, 0, none⟩))) ∧ Chain w' 0 0 a (strB :: ls) (.iface 88 (.pointer (some ⟨b, 0, none⟩))) ∧ Below w.heap.size w w' := by
  have HC : Hid (Chain w 0 0 a ls (.iface T u)) := h
  clear h
  go_enter Tryz.func20, Tryz.ntmps20
  go_wp2
  go_ret
  have hb : Below w.heap.size w (w.alloc (.cells #[.string strB, .int .i64 0, .int .i64 0, .iface T u] 90)) := (Below.refl _ _).alloc (Nat.le_refl _) _
  exact ⟨_, rfl, ⟨_, _, rfl, heap_alloc_new w _, HC.out.below hb⟩, hb⟩
namespace Sg
theorem end_classes {G : Gp} {tk : List (List Int)} {O : Nat → Nat} {H : Nat → Int} {h R : Nat} (hr : Sy.right G.n (G.kk : Int) G.st G.es = true) (hR : Ro.Last G.n (outG G) R) (hh : Hist G tk O H h) (he : EndAt G tk O H) : Sy.canon ((List.range G.n).map fun e : Nat => (O e : Int)) = Ro.rnd G.n (outG G) R := by
  have h1 : ((List.range G.n).map fun e : Nat => (O e : Int)) = ((List.range G.n).map O).map fun e : Nat => (e : Int) := by rw [List.map_map]; rfl
  rw [h1, canon_nat]
  rcases he with ⟨h0, _⟩ | ⟨ht, hd⟩
  · have h2 : (Ro.rnd G.n (outG G) R).length = 0 := by rw [Ro.rnd_len, h0]
    rw [List.length_eq_zero_iff.1 h2, h0]
    rfl
  · exact hh.ends hr hR ht hd
end Sg
set_option linter.unusedSimpArgs false in
set_option maxRecDepth 100000 in
set_option maxHeartbeats 4000000 in
theorem refine_bad (hS : SortOk 1000000) (n k s : Int) (v : Value) (es : List Sy.Ed) (a : Addr) (w : World) (hA : Sent w 0 a) (hv : BEdges.Has w v es) (hm : es.length ≤ 100000) (hq : Sy.right n k s es = false) :
    Calls Tryz.prog 18 #[sysV n k s v] w fun r w' => ∃ b, r = .returned (.tuple #[.agg #[.slice none 0 0, .slice none 0 0, .slice none 0 0], .iface 88 (.pointer (some ⟨b, 0, none⟩))]) ∧ Chain w' 0 0 a [strB, sysB] (.iface 88 (.pointer (some ⟨b, 0, none⟩))) ∧ Below w.heap.size w w' := by
  have hv0 := hv
  obtain ⟨ao, cap, rfl, _⟩ := hv0
  obtain ⟨L, hL⟩ : ∃ L, L = es.length := ⟨_, rfl⟩
  obtain ⟨w1, hw1⟩ : ∃ w1, w1 = (w.alloc (.cells #[.int .i64 n, .int .i64 k, .int .i64 s, .slice ao L cap] 24)).alloc (.cells #[.slice none 0 0, .slice none 0 0, .slice none 0 0] 46) := ⟨_, rfl⟩
  have hb1 : Below w.heap.size w w1 := by rw [hw1]; exact ((Below.refl _ _).alloc (Nat.le_refl _) _).alloc (by simp) _
  have hg1 : w1.heap[w.heap.size]? = some (.cells #[.int .i64 n, .int .i64 k, .int .i64 s, .slice ao L cap] 24 (0, 0)) := by
    rw [hw1]
    exact bup ((Below.refl _ _).alloc (Nat.le_refl _) _) (heap_alloc_new w _)
  have hrc : w1.heap[w.heap.size + 1]? = some (.cells #[.slice none 0 0, .slice none 0 0, .slice none 0 0] 46 (0, 0)) := by
    rw [hw1]
    have h := heap_alloc_new (w.alloc (.cells #[.int .i64 n, .int .i64 k, .int .i64 s, .slice ao L cap] 24)) (.cells #[.slice none 0 0, .slice none 0 0, .slice none 0 0] 46)
    rw [World.size_alloc] at h
    exact h
  have hN := begin_bad hS n k s _ es a w1 (hA.below hb1) (hv.below hb1) hm hq
  rw [← hL] at hN ⊢
  unfold sysV at hN ⊢
  have H1 : Hid _ := And.intro hw1 (And.intro hb1 (And.intro hrc hN))
  obtain ⟨x0, x1, x2, x3⟩ := four_cellsB hg1
  clear hA hv hm hq hw1 hb1 hg1 hrc hN hL
  go_enter Tryz.func18, Tryz.ntmps18
  go_upto_region 1 with fail
  rw [← H1.out.1]
  go_upto_region 3 with (go_at_call 19; refine Calls.mono H1.out.2.2.2 ?_; rintro r2 w2 ⟨T, u, rfl, hC2, hb2⟩; have H2 : Hid _ := And.intro hC2 hb2; clear hC2 hb2)
  have hFa := sfault_any T u w2 a [sysB] H2.out.1
  go_wp2_with (go_at_call 20; refine Calls.mono hFa ?_; rintro r3 w3 ⟨b, rfl, hC3, hb3⟩; have hrc3 := bup (H2.out.2.trans (hb3.mono H2.out.2.size)) H1.out.2.2.1; have e0 : w3.cell? ⟨w.heap.size + 1, 0, none⟩ = some (.slice none 0 0) := cell0_of hrc3 rfl; have e1 : w3.cell? ⟨w.heap.size + 1, 1, none⟩ = some (.slice none 0 0) := cell0_of hrc3 rfl; have e2 : w3.cell? ⟨w.heap.size + 1, 2, none⟩ = some (.slice none 0 0) := cell0_of hrc3 rfl; have f0 := blk_free hrc3 0; have f1 := blk_free hrc3 1; have f2 := blk_free hrc3 2; have H3 : Hid _ := And.intro hC3 (And.intro hb3 hrc3); clear hC3 hb3 hrc3)
  clear hFa
  obtain ⟨w7, hw7⟩ : ∃ w7, w7 = ((w3.setCell ⟨w.heap.size + 1, 0, none⟩ (.slice none 0 0)).setCell ⟨w.heap.size + 1, 1, none⟩ (.slice none 0 0)).setCell ⟨w.heap.size + 1, 2, none⟩ (.slice none 0 0) := ⟨_, rfl⟩
  rw [← hw7]
  have hbx7 : w7.heap[w.heap.size + 1]? = some (.cells #[.slice none 0 0, .slice none 0 0, .slice none 0 0] 46 (0, 0)) := by rw [hw7]; exact box_put (box_put (box_put H3.out.2.2 _) _) _
  have hk7 : Kept (fun b => b = w.heap.size + 1) w3 w7 := by rw [hw7]; exact ((Kept.setCell _ _ _ _).trans (Kept.setCell _ _ _ _)).trans (Kept.setCell _ _ _ _)
  clear hw7 e0 e1 e2 f0 f1 f2
  have d0 : w7.cell? ⟨w.heap.size + 1, 0, none⟩ = some (.slice none 0 0) := cell0_of hbx7 rfl
  have d1 : w7.cell? ⟨w.heap.size + 1, 1, none⟩ = some (.slice none 0 0) := cell0_of hbx7 rfl
  have d2 : w7.cell? ⟨w.heap.size + 1, 2, none⟩ = some (.slice none 0 0) := cell0_of hbx7 rfl
  have h3 : Below w.heap.size w w3 := H1.out.2.1.trans ((H2.out.2.trans (H3.out.2.1.mono H2.out.2.size)).mono H1.out.2.1.size)
  refine bodyPost_ret (v := .tuple #[.agg #[.slice none 0 0, .slice none 0 0, .slice none 0 0], .iface 88 (.pointer (some ⟨b, 0, none⟩))]) ?_ rfl ?_
  · rw [results_cell_tmp rfl]
    go_simp
  · exact ⟨b, rfl, Chain.keptF hk7 (fun b cs hc e => tne hc H3.out.2.2 (by decide) e) H3.out.1, h3.trans (hk7.below h3.size fun b e => by omega)⟩
set_option linter.unusedSimpArgs false in
set_option maxRecDepth 100000 in
set_option maxHeartbeats 4000000 in
theorem sclasses_ok (hS : SortOk 1000000) (m kk : Nat) (s : Int) (v : Value) (es : List Sy.Ed) (a : Addr) (w : World) (hA : Sent w 0 a) (hv : BEdges.Has w v es) (hm : es.length ≤ 100000) (hq : Sy.right m kk s es = true) :
    Calls Tryz.prog 9 #[sysV m kk s v] w fun e w' => ∃ (u : Value) (R : Nat), e = .returned (.tuple #[u, .nilIface]) ∧ Ro.Last m (fun i => Sy.rowOf m (Sy.nf es) (i : Int)) R ∧ OwnI w' w.heap.size u (natI (Ro.rnd m (fun i => Sy.rowOf m (Sy.nf es) (i : Int)) R)) ∧ Below w.heap.size w w' := by
  obtain ⟨R, hR⟩ := Ro.exists_last m (fun i => Sy.rowOf m (Sy.nf es) (i : Int))
  have hv0 := hv
  obtain ⟨ao, cap, rfl, _⟩ := hv0
  obtain ⟨L, hL⟩ : ∃ L, L = es.length := ⟨_, rfl⟩
  obtain ⟨w1, hw1⟩ : ∃ w1, w1 = w.alloc (.cells #[.int .i64 m, .int .i64 kk, .int .i64 s, .slice ao L cap] 24) := ⟨_, rfl⟩
  have hb1 : Below w.heap.size w w1 := by rw [hw1]; exact (Below.refl _ _).alloc (Nat.le_refl _) _
  have hg1 : w1.heap[w.heap.size]? = some (.cells #[.int .i64 m, .int .i64 kk, .int .i64 s, .slice ao L cap] 24 (0, 0)) := by rw [hw1]; exact heap_alloc_new w _
  have hRf := (refine_ok hS m kk s _ es a w1 (hA.below hb1) (hv.below hb1) hm hq).mono (R' := fun e w' => ∃ (u vT vG : Value), e = .returned (.tuple #[.agg #[u, vT, vG], .nilIface]) ∧ OwnI w' w1.heap.size u (natI (Ro.rnd m (fun i => Sy.rowOf m (Sy.nf es) (i : Int)) R)) ∧ (∃ a n c, vT = .slice a n c) ∧ (∃ a n c, vG = .slice a n c) ∧ Below w1.heap.size w1 w') fun e w' ⟨u, vT, vG, G, tk, O, he, ⟨g1, g2, g3, g4⟩, hA⟩ => by
    obtain ⟨H, h, hh, hE⟩ := hA.hist
    have hr : Sy.right G.n (G.kk : Int) G.st G.es = true := by rw [g1, g2, g3, g4]; exact hq
    have hR2 : Ro.Last G.n (Sg.outG G) R := by unfold Sg.outG; rw [g1, g4]; exact hR
    have h1 := hA.cls
    rw [Sg.end_classes hr hR2 hh hE] at h1
    unfold Sg.outG at h1
    rw [g1, g4] at h1
    obtain ⟨a1, c1, e1⟩ := row_shape hA.row
    obtain ⟨a2, c2, e2, _⟩ := (hA.q.q 0 _ rfl).shape
    exact ⟨u, vT, vG, he, h1, ⟨_, _, _, e1⟩, ⟨_, _, _, e2⟩, hA.bl⟩
  rw [← hL] at hRf ⊢
  unfold sysV at hRf ⊢
  obtain ⟨cl, hcl⟩ : ∃ cl, cl = natI (Ro.rnd m (fun i => Sy.rowOf m (Sy.nf es) (i : Int)) R) := ⟨_, rfl⟩
  rw [← hcl] at hRf
  obtain ⟨x0, x1, x2, x3⟩ := four_cellsB hg1
  have H1 : Hid _ := And.intro hRf (And.intro hR (And.intro hcl (And.intro hb1 hw1)))
  clear hRf hR hcl hA hv hm hq hb1 hw1 hg1 hL
  go_enter Tryz.func9, Tryz.ntmps9
  go_upto_region 1 with fail
  rw [← H1.out.2.2.2.2]
  go_wp2_with (go_at_call 18; refine Calls.mono H1.out.1 ?_; rintro r2 w2 ⟨u, vT, vG, rfl, hu, ⟨aT, nT, cT, rfl⟩, ⟨aG, nG, cG, rfl⟩, hb2⟩; obtain ⟨au, cu, hve⟩ := row_shape hu; obtain ⟨M, hM⟩ : ∃ M, M = cl.length := ⟨_, rfl⟩; rw [← hM] at hve; subst hve; have H2 : Hid _ := And.intro hu (And.intro hb2 hM); clear hu hb2 hM)
  go_ret2
  have hb3 : Below w2.heap.size w2 (w2.alloc (.cells #[.slice au M cu, .slice aT nT cT, .slice aG nG cG] 46)) := (Below.refl _ _).alloc (Nat.le_refl _) _
  have hb13 := H2.out.2.1.trans (hb3.mono H2.out.2.1.size)
  refine ⟨_, R, rfl, H1.out.2.1, ?_, H1.out.2.2.2.1.trans (hb13.mono H1.out.2.2.2.1.size)⟩
  rw [← H1.out.2.2.1]
  exact row_base (trow_at H2.out.1 fun b hb => hb3.block b (H2.out.1.lt b hb).2) H1.out.2.2.2.1.size
set_option linter.unusedSimpArgs false in
set_option maxRecDepth 100000 in
set_option maxHeartbeats 4000000 in
theorem sclasses_bad (hS : SortOk 1000000) (n k s : Int) (v : Value) (es : List Sy.Ed) (a : Addr) (w : World) (hA : Sent w 0 a) (hv : BEdges.Has w v es) (hm : es.length ≤ 100000) (hq : Sy.right n k s es = false) :
    Calls Tryz.prog 9 #[sysV n k s v] w fun r w' => ∃ b, r = .returned (.tuple #[.slice none 0 0, .iface 88 (.pointer (some ⟨b, 0, none⟩))]) ∧ Chain w' 0 0 a [strB, sysB] (.iface 88 (.pointer (some ⟨b, 0, none⟩))) ∧ Below w.heap.size w w' := by
  have hv0 := hv
  obtain ⟨ao, cap, rfl, _⟩ := hv0
  obtain ⟨L, hL⟩ : ∃ L, L = es.length := ⟨_, rfl⟩
  obtain ⟨w1, hw1⟩ : ∃ w1, w1 = w.alloc (.cells #[.int .i64 n, .int .i64 k, .int .i64 s, .slice ao L cap] 24) := ⟨_, rfl⟩
  have hb1 : Below w.heap.size w w1 := by rw [hw1]; exact (Below.refl _ _).alloc (Nat.le_refl _) _
  have hg1 : w1.heap[w.heap.size]? = some (.cells #[.int .i64 n, .int .i64 k, .int .i64 s, .slice ao L cap] 24 (0, 0)) := by rw [hw1]; exact heap_alloc_new w _
  have hRf := refine_bad hS n k s _ es a w1 (hA.below hb1) (hv.below hb1) hm hq
  rw [← hL] at hRf ⊢
  unfold sysV at hRf ⊢
  obtain ⟨x0, x1, x2, x3⟩ := four_cellsB hg1
  have H1 : Hid _ := And.intro hRf (And.intro hb1 hw1)
  clear hRf hA hv hm hq hb1 hw1 hg1 hL
  go_enter Tryz.func9, Tryz.ntmps9
  go_upto_region 1 with fail
  rw [← H1.out.2.2]
  go_wp2_with (go_at_call 18; refine Calls.mono H1.out.1 ?_; rintro r2 w2 ⟨b, rfl, hC2, hb2⟩; have H2 : Hid _ := And.intro hC2 hb2; clear hC2 hb2)
  go_ret2
  have hb3 : Below w2.heap.size w2 (w2.alloc (.cells #[.slice none 0 0, .slice none 0 0, .slice none 0 0] 46)) := (Below.refl _ _).alloc (Nat.le_refl _) _
  have hb13 := H2.out.2.trans (hb3.mono H2.out.2.size)
  exact ⟨_, rfl, H2.out.1.below hb3, H1.out.2.1.trans (hb13.mono H1.out.2.1.size)⟩
end Go.Proofs.YtkiapldehlnndabGreatDoor
/- strong: contract of Replay: a run is played as the plain one is. -/
namespace Go.Proofs.YtkiapldehlnndabGreatDoor
open Go.RowKit Go.Maps
attribute [local go_sem ↓] Go.wp_at_zero Go.wp_at_succ
def HasR (w : World) (vt : Value) (tk : List (List Int)) : Prop := ∃ ao cap, vt = .slice ao tk.length cap ∧ ∀ (i : Nat) (zs : List Int), tk[i]? = some zs → ∃ a v, ao = some a ∧ w.cell? (a.add i) = some v ∧ HasI w v zs
theorem HasR.below {w w' : World} {vt : Value} {tk : List (List Int)} (h : HasR w vt tk) (hb : Below w.heap.size w w') : HasR w' vt tk := by
  obtain ⟨ao, cap, h1, h2⟩ := h
  refine ⟨ao, cap, h1, fun i zs hi => ?_⟩
  obtain ⟨a, v, e1, e2, e3⟩ := h2 i zs hi
  exact ⟨a, v, e1, fcell e2 hb, e3.below hb⟩
structure EnvS (w : World) (aS aC a1 a3 : Addr) : Prop where
  sy : Sent w 0 aS
  cl : Sent w 1 aC
  re : EnvR w a1 a3
theorem EnvS.below {w w' : World} {aS aC a1 a3 : Addr} (h : EnvS w aS aC a1 a3) (hb : Below w.heap.size w w') : EnvS w' aS aC a1 a3 := ⟨h.sy.below hb, h.cl.below hb, h.re.below hb⟩
def gp (m kk : Nat) (s : Int) (es : List Sy.Ed) : Gp := ⟨0, 0, 0, 0, 0, m, kk, s, es⟩
theorem gp_replay (G : Gp) (tk : List (List Int)) : Sg.mReplay G tk = Sg.mReplay (gp G.n G.kk G.st G.es) tk := rfl
def RepAt (w w' : World) (aC : Addr) (e : Ending) (o : Option (List Nat)) : Prop := Below w.heap.size w w' ∧ match o with
  | some cl => ∃ u, e = .returned (.tuple #[u, .nilIface]) ∧ OwnI w' w.heap.size u (natI cl)
  | none => ∃ b, e = .returned (.tuple #[.slice none 0 0, .iface 88 (.pointer (some ⟨b, 0, none⟩))]) ∧ Chain w' 0 0 aC [strB] (.iface 88 (.pointer (some ⟨b, 0, none⟩)))
theorem new_play (m : Nat) {x : Rv} {G : Gp} (hx : x.Zero m) : Sg.Play G [] (Pst.new m).O (hOf (Pst.new m) x) x.ks.length := by
  have h1 : hOf (Pst.new m) x = fun _ => 0 := funext fun e => hx.1 _
  have h2 : (Pst.new m).O = fun _ => 0 := rfl
  rw [h1, h2, hx.2]
  exact Sg.Play.nil G
set_option linter.unusedSimpArgs false in
set_option maxRecDepth 100000 in
set_option maxHeartbeats 8000000 in
theorem replay_ok (hS : SortOk 1000000) (m kk : Nat) (s : Int) (v vt : Value) (es : List Sy.Ed) (tk : List (List Int)) (aS aC a1 a3 : Addr) (w : World) (hE : EnvS w aS aC a1 a3) (hv : BEdges.Has w v es) (ht : HasR w vt tk) (hm : es.length ≤ 100000) (htl : tk.length ≤ 1000000) (hq : Sy.right m kk s es = true) :
    Calls Tryz.prog 11 #[sysV m kk s v, vt] w fun e w' => RepAt w w' aC e (Sg.mReplay (gp m kk s es) tk) := by
  have hv0 := hv
  obtain ⟨ao, cap, rfl, _⟩ := hv0
  obtain ⟨L, hL⟩ : ∃ L, L = es.length := ⟨_, rfl⟩
  have ht0 := ht
  obtain ⟨ta, tc, rfl, _⟩ := ht0
  obtain ⟨N, hN⟩ : ∃ N, N = tk.length := ⟨_, rfl⟩
  obtain ⟨w1, hw1⟩ : ∃ w1, w1 = w.alloc (.cells #[.int .i64 m, .int .i64 kk, .int .i64 s, .slice ao L cap] 24) := ⟨_, rfl⟩
  have hb1 : Below w.heap.size w w1 := by rw [hw1]; exact (Below.refl _ _).alloc (Nat.le_refl _) _
  have hg1 : w1.heap[w.heap.size]? = some (.cells #[.int .i64 m, .int .i64 kk, .int .i64 s, .slice ao L cap] 24 (0, 0)) := by rw [hw1]; exact heap_alloc_new w _
  have hBg := begin_ok hS m kk s _ es aS w1 (hE.sy.below hb1) (hv.below hb1) hm hq
  rw [← hL] at hBg ⊢
  rw [← hN] at ht htl ⊢
  unfold sysV at hBg ⊢
  obtain ⟨x0, x1, x2, x3⟩ := four_cellsB hg1
  have hm1 : m ≤ 1000 := by have := (right_parts hq).1; omega
  have H1 : Hid _ := And.intro hw1 (And.intro hb1 (And.intro hBg (And.intro hE (And.intro ht (And.intro hN (And.intro hq hm1))))))
  clear hE hv ht hm hq hw1 hb1 hg1 hBg hL hN hm1
  go_enter Tryz.func11, Tryz.ntmps11
  go_upto_region 1 with fail
  rw [← H1.out.1]
  go_upto_region 4 with (go_at_call 19; refine Calls.mono H1.out.2.2.1 ?_; rintro r2 w2 ⟨w0, r, g, p, mb, nm, G, x, rfl, hR, hx, hG, hnm, hb0, hb2⟩; have H2 : Hid _ := And.intro hR (And.intro hx (And.intro hG (And.intro hnm (And.intro hb0 hb2)))); clear hR hx hG hnm hb0 hb2 x0 x1 x2 x3)
  have hr : Sy.right G.n (G.kk : Int) G.st G.es = true := by obtain ⟨g1, g2, g3, g4⟩ := H2.out.2.2.1; rw [g1, g2, g3, g4]; exact H1.out.2.2.2.2.2.2.1
  have hmod : Sg.mReplay (gp m kk s es) tk = Sg.mReplay G tk := by obtain ⟨g1, g2, g3, g4⟩ := H2.out.2.2.1; rw [gp_replay G, g1, g2, g3, g4]
  have hGn : G.n ≤ 1000 := by have := H2.out.2.2.1.1; have := H1.out.2.2.2.2.2.2.2; omega
  have HG : Hid _ := And.intro hr (And.intro hmod hGn)
  clear hr hmod hGn
  go_wp2_with fail
  go_loopg [23] N (fun q iv wr => ∃ (i nm1 : Nat) (s1 : Pst) (x1 : Rv), q = N - i ∧ i ≤ N ∧ iv = .int .i64 i ∧ RunAt w0 wr r g p mb nm1 G s1 x1 ∧ Sg.Play G (tk.take i) s1.O (hOf s1 x1) x1.ks.length ∧ nm1 ≤ 10000 + x1.ks.length * 10000000)
  case atStart => exact ⟨0, nm, Pst.new m, x, rfl, Nat.zero_le _, rfl, H2.out.1, new_play m H2.out.2.1, by have := H2.out.2.2.2.1; omega⟩
  case round =>
    obtain ⟨i, nm1, s1, x1, rfl, hi, rfl, hR, hPl, hnm1⟩ := hrel
    obtain ⟨wo, hwo⟩ : ∃ wo, wo = wr := ⟨_, rfl⟩
    rw [← hwo] at hR ⊢
    clear hwo
    have hbw : Below w.heap.size w wo := H1.out.2.1.trans ((H2.out.2.2.2.2.1.trans (hR.up.mono H2.out.2.2.2.2.1.size)).mono H1.out.2.1.size)
    have hkl := hPl.hist.heaps
    have hEo := H1.out.2.2.2.1.below hbw
    by_cases hlt : i < N
    · have q0 : (0 : Int) ≤ (i : Int) := by omega
      have q1 : (i : Int) < (N : Int) := by omega
      obtain ⟨zs, hzs⟩ : ∃ zs, tk[i]? = some zs := ⟨tk[i]'(by have := H1.out.2.2.2.2.2.1; omega), List.getElem?_eq_getElem _⟩
      obtain ⟨ta', tc', e1, hrows⟩ := H1.out.2.2.2.2.1.below hbw
      have e4 : ta = ta' := by injection e1
      obtain ⟨a, vz, e2, hcz, hIz⟩ := hrows i zs hzs
      have e3 : ta = some a := e4.trans e2
      clear e1 e2 e4 hrows
      subst e3
      obtain ⟨za, zc, hvz, _⟩ := id hIz
      subst hvz
      obtain ⟨zn, hzn⟩ : ∃ zn, zn = zs.length := ⟨_, rfl⟩
      have hFd := find_any hR (.slice za zs.length zc) zs a1 a3 hEo.re hIz
      rw [← hzn] at hFd hcz
      have htk : tk.take (i + 1) = tk.take i ++ [zs] := by rw [List.take_add_one, hzs]; rfl
      have HA : Hid _ := And.intro hR (And.intro hPl (And.intro hnm1 (And.intro hbw (And.intro hkl (And.intro hEo (And.intro hFd (And.intro hzs htk)))))))
      clear hR hPl hnm1 hbw hkl hEo hFd hzs htk hIz hzn
      go_upto_region 8 with (go_at_call 21; refine Calls.mono HA.out.2.2.2.2.2.2.1 ?_; rintro r3 w3 ⟨b, is, rfl, hb3, hyes, hno⟩; have H3 : Hid _ := And.intro hb3 (And.intro hyes hno); clear hb3 hyes hno)
      have hR3 := HA.out.1.below H3.out.1
      have hn3 := hR3.n
      have hstop : (∀ e0, e0 < G.n → zs = Sg.memb G.n s1.O (s1.O e0) → ¬ (hOf s1 x1 e0 = 0 ∨ 2 * Sg.bc G.n s1.O (s1.O e0) ≤ hc G.n (hOf s1 x1) (hOf s1 x1 e0))) → Sg.mReplay G tk = none := fun hst => by
        have h1 := Sg.Play.stop HA.out.2.1 (l := zs) hst
        rw [← HA.out.2.2.2.2.2.2.2.2] at h1
        have h2 := Sg.mReplay_none (r := tk.drop (i + 1)) (fun e => by have h9 := congrArg List.length e; rw [HA.out.2.2.2.2.2.2.2.2] at h9; simp at h9) h1
        rw [List.take_append_drop] at h2
        exact h2
      have hEr : ∀ w4, Below w3.heap.size w3 w4 → Calls Tryz.prog 20 #[.iface 220 (.pointer (some aC))] w4 fun r' w' => ∃ b, r' = .returned (.iface 88 (.pointer (some ⟨b, 0, none⟩))) ∧ Chain w' 0 0 aC [strB] (.iface 88 (.pointer (some ⟨b, 0, none⟩))) ∧ Below w4.heap.size w4 w' := fun w4 _ => sfault_any _ _ w4 aC [] rfl
      have hgc : ∀ w4, Below w3.heap.size w3 w4 → w4.cell? ⟨1, 0, none⟩ = some (.iface 220 (.pointer (some aC))) := fun w4 hb4 => ((HA.out.2.2.2.2.2.1.below H3.out.1).below hb4).cl.1
      have HE : Hid _ := And.intro hR3 (And.intro hn3 (And.intro hstop (And.intro hEr hgc)))
      clear hR3 hn3 hstop hEr hgc
      cases is with
      | false =>
        have gc := HE.out.2.2.2.2 w3 (Below.refl _ _)
        go_wp2_with (go_at_call 20; refine Calls.mono (HE.out.2.2.2.1 w3 (Below.refl _ _)) ?_; rintro r4 w4 ⟨b4, rfl, hC4, hb4⟩; have H4 : Hid _ := And.intro hC4 hb4; clear hC4 hb4)
        go_ret2
        have hnone := HE.out.2.2.1 (fun e0 he0 hl _ => H3.out.2.2 (by first | rfl | trivial) (s1.O e0) (HE.out.1.ok.o e0 (by have := HE.out.2.1; omega)).1 (by rw [memb_eq, HE.out.2.1]; exact hl))
        unfold RepAt
        rw [HG.out.2.1, hnone]
        exact ⟨(HA.out.2.2.2.1.trans (H3.out.1.mono HA.out.2.2.2.1.size)).trans (H4.out.2.mono (Nat.le_trans HA.out.2.2.2.1.size H3.out.1.size)), b4, rfl, H4.out.1⟩
      | true =>
        obtain ⟨hbl, hzm⟩ := H3.out.2.1 (by first | rfl | trivial)
        have hMy := may_all HE.out.1 hbl
        obtain ⟨e0, he0, hOe⟩ := block_state HE.out.1.ok hbl
        have heG : e0 < G.n := by rw [← HE.out.2.1]; exact he0
        have HB : Hid _ := And.intro hMy (And.intro hbl (And.intro hzm (And.intro heG hOe)))
        clear hMy hbl hzm heG hOe he0
        go_upto_if 40 with (go_at_call 22; refine Calls.mono HB.out.1 ?_; rintro r4 w4 ⟨ok, rfl, hb4, hok⟩; have H4 : Hid _ := And.intro hb4 hok; clear hb4 hok)
        cases ok with
        | false =>
          have gc := HE.out.2.2.2.2 w4 H4.out.1
          go_wp2_with (go_at_call 20; refine Calls.mono (HE.out.2.2.2.1 w4 H4.out.1) ?_; rintro r5 w5 ⟨b5, rfl, hC5, hb5⟩; have H5 : Hid _ := And.intro hC5 hb5; clear hC5 hb5)
          go_ret2
          have hnone := HE.out.2.2.1 (fun e1 he1 hl hh => by
            have h1 : s1.O e1 = b := by
              have h2 : ((e1 : Nat) : Int) ∈ s1.mem b := by rw [← HB.out.2.2.1, hl]; exact Sg.memb_mem.2 ⟨e1, he1, rfl, rfl⟩
              obtain ⟨e2, _, h3, h4⟩ := mem_mem.1 h2
              have h5 : e1 = e2 := by omega
              rw [h5]; exact h3
            have h6 := (H4.out.2 e1 he1 h1).2 (by rw [h1] at hh; exact hh)
            cases h6)
          unfold RepAt
          rw [HG.out.2.1, hnone]
          have h7 := HA.out.2.2.2.1.trans (H3.out.1.mono HA.out.2.2.2.1.size)
          have h8 := h7.trans (H4.out.1.mono h7.size)
          exact ⟨h8.trans (H5.out.2.mono h8.size), b5, rfl, H5.out.1⟩
        | true =>
          have hR4 := HE.out.1.below H4.out.1
          have hTk := take_any w0 r g p mb nm1 G s1 x1 b w4 hR4 HB.out.2.1 (by have := HA.out.2.2.1; have := HA.out.2.2.2.2.1; have := HG.out.2.2; omega) (by have := HA.out.2.2.2.2.1; have := HG.out.2.2; omega)
          have HT : Hid _ := And.intro hTk trivial
          clear hR4 hTk
          go_wp2_with (go_at_call 23; refine Calls.mono HT.out.1 ?_; rintro r5 w5 ⟨rfl, nm2, s2, x2, hR5, hA5⟩; have H5 : Hid _ := And.intro hR5 hA5; clear hR5 hA5)
          go_roundg (N - (i + 1))
          case measure => omega
          case rel =>
            have hh := (H4.out.2 e0 HB.out.2.2.2.1 HB.out.2.2.2.2).1 (by first | rfl | trivial)
            have hA := H5.out.2
            have hn := HE.out.2.1
            have hst := Sg.Play.step (O' := s2.O) (H' := hOf s2 x2) HG.out.1 HA.out.2.1 HB.out.2.2.2.1 (by rw [HB.out.2.2.2.2]; exact hh) (by
              have h2 := hA.sp
              rw [hn] at h2
              have h3 : hOf s1 x1 e0 = x1.of b := by unfold hOf; rw [HB.out.2.2.2.2]
              rw [HB.out.2.2.2.2, h3]
              exact h2) (fun e hE => by rw [hA.hp e (by rw [hn]; exact hE), HB.out.2.2.2.2])
            have h4 : zs = Sg.memb G.n s1.O (s1.O e0) := by rw [HB.out.2.2.2.2, HB.out.2.2.1, memb_eq, hn]
            rw [← h4, ← HA.out.2.2.2.2.2.2.2.2, ← hA.ks] at hst
            exact ⟨i + 1, nm2, s2, x2, rfl, by omega, by go_num, H5.out.1, hst, by have h5 := hA.nm; have h6 := HA.out.2.2.1; rw [hA.ks]; omega⟩
    · obtain rfl : i = N := by omega
      have q1 : ¬ (i : Int) < (i : Int) := by omega
      have hall : tk.take i = tk := by rw [H1.out.2.2.2.2.2.1]; exact List.take_length
      rw [hall] at hPl
      have hk0 : 0 < x1.ks.length := by have := hPl.hist.inv.len; omega
      have hDn := isDone_any hR hk0 (by have := HG.out.2.2; omega)
      have hfin := Sg.Play.fin hR.ok hR.n hPl
      obtain ⟨d, hd⟩ : ∃ d, d = decide (s1.nb = x1.ks.length - 1) := ⟨_, rfl⟩
      rw [← hd] at hDn
      have HA : Hid _ := And.intro hR (And.intro hPl (And.intro hbw (And.intro hEo (And.intro hDn (And.intro hfin hd)))))
      clear hR hPl hbw hEo hDn hfin hd hall hk0 hkl hnm1
      cases d with
      | false =>
        go_wp2_with (first
          | (go_at_call 24; refine Calls.mono HA.out.2.2.2.2.1 ?_; rintro r3 w3 ⟨rfl, hb3⟩; have gc := (HA.out.2.2.2.1.below hb3).cl.1; have H3 : Hid _ := And.intro hb3 (sfault_any _ _ w3 aC [] rfl); clear hb3)
          | (go_at_call 20; refine Calls.mono H3.out.2 ?_; rintro r4 w4 ⟨b4, rfl, hC4, hb4⟩; have H4 : Hid _ := And.intro hC4 hb4; clear hC4 hb4))
        go_ret2
        unfold RepAt
        rw [HG.out.2.1, HA.out.2.2.2.2.2.1, if_neg (of_decide_eq_false HA.out.2.2.2.2.2.2.symm)]
        have h7 := HA.out.2.2.1.trans (H3.out.1.mono HA.out.2.2.1.size)
        exact ⟨h7.trans (H4.out.2.mono h7.size), b4, rfl, H4.out.1⟩
      | true =>
        obtain ⟨c, hP, hLy⟩ := HA.out.1.c
        have hCl := fun W (hb : Below wo.heap.size wo W) => classes_all p c s1 w0 W (hP.below hb) hLy HA.out.1.ok
        have HC : Hid _ := And.intro hCl trivial
        clear hCl hP hLy
        go_wp2_with (first
          | (go_at_call 24; refine Calls.mono HA.out.2.2.2.2.1 ?_; rintro r3 w3 ⟨rfl, hb3⟩; have c1 := (seven_cells (HA.out.1.below hb3).m.box).2.1; have H3 : Hid _ := And.intro hb3 trivial; clear hb3)
          | (go_at_call 25; refine Calls.mono (HC.out.1 w3 H3.out.1) ?_; rintro r4 w4 ⟨u, rfl, hu, hb4⟩; have H4 : Hid _ := And.intro hu hb4; clear hu hb4))
        go_ret2
        unfold RepAt
        rw [HG.out.2.1, HA.out.2.2.2.2.2.1, if_pos (of_decide_eq_true HA.out.2.2.2.2.2.2.symm)]
        have h7 := HA.out.2.2.1.trans (H3.out.1.mono HA.out.2.2.1.size)
        refine ⟨h7.trans (H4.out.2.mono h7.size), _, rfl, ?_⟩
        have h8 : Sy.canon s1.own = Ro.num ((List.range G.n).map s1.O) := by
          rw [← Sg.canon_nat]
          unfold Pst.own
          rw [HA.out.1.n, List.map_map]
          rfl
        rw [← h8]
        exact row_base H4.out.1 h7.size
end Go.Proofs.YtkiapldehlnndabGreatDoor
/- Contract of the law's alive of chapter 9: first calls whose answers the document fixes. -/
namespace Go.Proofs.YtkiapldehlnndabGreatDoor
open Go.RowKit Go.Maps
attribute [local go_sem ↓] Go.wp_at_zero Go.wp_at_succ
def esT9 : List Sy.Ed := [(0, 1, 1), (1, 1, 2), (3, 1, 2)]
def tkT9 : List (List Int) := [[0, 1, 2, 3], [2], [0]]
theorem esT9_right : Sy.right ((4 : Nat) : Int) ((2 : Nat) : Int) 0 esT9 = true := by decide
theorem esT9_last : Ro.Last 4 (fun i => Sy.rowOf 4 (Sy.nf esT9) (i : Int)) 2 := by
  refine ⟨by decide, fun j hj => ?_⟩
  match j, hj with
  | 0, _ => decide
  | 1, _ => decide
theorem esT9_rnd : natI (Ro.rnd 4 (fun i => Sy.rowOf 4 (Sy.nf esT9) (i : Int)) 2) = [0, 1, 2, 1] := by decide
theorem esT9_rep : Sg.mReplay (gp 4 2 0 esT9) tkT9 = some [0, 1, 2, 1] := by decide
theorem esT9_has (w : World) : BEdges.Has (w.alloc (.cells #[.int .i64 0, .int .i64 1, .int .i64 1, .int .i64 1, .int .i64 1, .int .i64 2, .int .i64 3, .int .i64 1, .int .i64 2] 33)) (.slice (some ⟨w.heap.size, 0, none⟩) 3 3) esT9 := by
  refine ⟨some ⟨w.heap.size, 0, none⟩, 3, rfl, fun j u hj => ⟨_, rfl, ?_⟩⟩
  rw [addz]
  refine cell0_of (heap_alloc_new w _) ?_
  rw [← Array.getElem?_toList]
  exact hj
theorem hasI_lit {w : World} {b : Nat} {zs : List Int} {cs : Array Value} (h : w.heap[b]? = some (.cells cs 3 (0, 0))) (hc : cs.toList = iC zs) {n c : Nat} (hn : n = zs.length) : HasI w (.slice (some ⟨b, 0, none⟩) n c) zs := by
  subst hn
  refine ⟨_, c, rfl, fun i z hz => ⟨_, rfl, ?_⟩⟩
  rw [addz]
  refine cell0_of h ?_
  rw [← Array.getElem?_toList, hc]
  unfold iC
  rw [List.getElem?_map, hz]
  rfl
theorem tkT9_has {w w4 : World} (hw : w4 = (((w.alloc (.cells #[.int .i64 0, .int .i64 1, .int .i64 2, .int .i64 3] 3)).alloc (.cells #[.int .i64 2] 3)).alloc (.cells #[.int .i64 0] 3)).alloc (.cells #[.slice (some ⟨w.heap.size, 0, none⟩) 4 4, .slice (some ⟨w.heap.size + 1, 0, none⟩) 1 1, .slice (some ⟨w.heap.size + 1 + 1, 0, none⟩) 1 1] 27)) :
    HasR w4 (.slice (some ⟨w.heap.size + 1 + 1 + 1, 0, none⟩) 3 3) tkT9 ∧ Below w.heap.size w w4 := by
  obtain ⟨wa, hwa⟩ : ∃ wa, wa = w.alloc (.cells #[.int .i64 0, .int .i64 1, .int .i64 2, .int .i64 3] 3) := ⟨_, rfl⟩
  obtain ⟨wb, hwb⟩ : ∃ wb, wb = wa.alloc (.cells #[.int .i64 2] 3) := ⟨_, rfl⟩
  obtain ⟨wc, hwc⟩ : ∃ wc, wc = wb.alloc (.cells #[.int .i64 0] 3) := ⟨_, rfl⟩
  rw [← hwa, ← hwb, ← hwc] at hw
  have sa : wa.heap.size = w.heap.size + 1 := by rw [hwa]; simp
  have sb : wb.heap.size = w.heap.size + 1 + 1 := by rw [hwb, World.size_alloc, sa]
  have sc : wc.heap.size = w.heap.size + 1 + 1 + 1 := by rw [hwc, World.size_alloc, sb]
  have ba : Below w.heap.size w wa := by rw [hwa]; exact (Below.refl _ _).alloc (Nat.le_refl _) _
  have bb : Below wa.heap.size wa wb := by rw [hwb]; exact (Below.refl _ _).alloc (Nat.le_refl _) _
  have bc : Below wb.heap.size wb wc := by rw [hwc]; exact (Below.refl _ _).alloc (Nat.le_refl _) _
  have bd : Below wc.heap.size wc w4 := by rw [hw]; exact (Below.refl _ _).alloc (Nat.le_refl _) _
  have h0 : w4.heap[w.heap.size]? = some (.cells #[.int .i64 0, .int .i64 1, .int .i64 2, .int .i64 3] 3 (0, 0)) := bup bd (bup bc (bup bb (by rw [hwa]; exact heap_alloc_new w _)))
  have h1 : w4.heap[w.heap.size + 1]? = some (.cells #[.int .i64 2] 3 (0, 0)) := bup bd (bup bc (by rw [hwb, ← sa]; exact heap_alloc_new wa _))
  have h2 : w4.heap[w.heap.size + 1 + 1]? = some (.cells #[.int .i64 0] 3 (0, 0)) := bup bd (by rw [hwc, ← sb]; exact heap_alloc_new wb _)
  have h3 : w4.heap[w.heap.size + 1 + 1 + 1]? = some (.cells #[.slice (some ⟨w.heap.size, 0, none⟩) 4 4, .slice (some ⟨w.heap.size + 1, 0, none⟩) 1 1, .slice (some ⟨w.heap.size + 1 + 1, 0, none⟩) 1 1] 27 (0, 0)) := by rw [hw, ← sc]; exact heap_alloc_new wc _
  refine ⟨⟨_, 3, rfl, fun i zs hz => ?_⟩, ba.trans ((bb.trans ((bc.trans (bd.mono bc.size)).mono bb.size)).mono ba.size)⟩
  match i, hz with
  | 0, hz => cases hz; exact ⟨_, _, rfl, by rw [addz]; exact cell0_of h3 rfl, hasI_lit h0 rfl rfl⟩
  | 1, hz => cases hz; exact ⟨_, _, rfl, by rw [addz]; exact cell0_of h3 rfl, hasI_lit h1 rfl rfl⟩
  | 2, hz => cases hz; exact ⟨_, _, rfl, by rw [addz]; exact cell0_of h3 rfl, hasI_lit h2 rfl rfl⟩
  | i + 3, hz => simp [tkT9] at hz
def PAl9 (w : World) : Prop := ∀ W, Below w.heap.size w W → Calls Tryz.prog 8 #[] W fun r w' => r = .returned (.bool true) ∧ Below W.heap.size W w'
set_option maxRecDepth 100000 in
set_option maxHeartbeats 4000000 in
theorem pAl9 (hS : SortOk 1000000) (aS aC a1 a3 : Addr) (w : World) (hE0 : EnvS w aS aC a1 a3) : PAl9 w := fun W hb => by
  have hE := hE0.below hb
  clear hE0 hb
  obtain ⟨w1, hw1⟩ : ∃ w1, w1 = W.alloc (.cells #[.int .i64 0, .int .i64 1, .int .i64 1, .int .i64 1, .int .i64 1, .int .i64 2, .int .i64 3, .int .i64 1, .int .i64 2] 33) := ⟨_, rfl⟩
  have hb1 : Below W.heap.size W w1 := by rw [hw1]; exact (Below.refl _ _).alloc (Nat.le_refl _) _
  have hv := esT9_has W
  rw [← hw1] at hv
  obtain ⟨w2, hw2⟩ : ∃ w2, w2 = w1.alloc (.cells #[.int .i64 4, .int .i64 2, .int .i64 0, .slice (some ⟨W.heap.size, 0, none⟩) 3 3] 24) := ⟨_, rfl⟩
  have hb2 : Below w1.heap.size w1 w2 := by rw [hw2]; exact (Below.refl _ _).alloc (Nat.le_refl _) _
  have hg2 : w2.heap[w1.heap.size]? = some (.cells #[.int .i64 4, .int .i64 2, .int .i64 0, .slice (some ⟨W.heap.size, 0, none⟩) 3 3] 24 (0, 0)) := by rw [hw2]; exact heap_alloc_new w1 _
  have hbW : Below W.heap.size W w2 := hb1.trans (hb2.mono hb1.size)
  have hCl := sclasses_ok hS 4 2 0 (.slice (some ⟨W.heap.size, 0, none⟩) 3 3) esT9 aS w2 (hE.below hbW).sy (hv.below hb2) (by decide) esT9_right
  have hRp := fun W4 vt (h4 : Below w2.heap.size w2 W4) (ht : HasR W4 vt tkT9) => replay_ok hS 4 2 0 (.slice (some ⟨W.heap.size, 0, none⟩) 3 3) vt esT9 tkT9 aS aC a1 a3 W4 ((hE.below hbW).below h4) ((hv.below hb2).below h4) ht (by decide) (by decide) esT9_right
  unfold sysV at hCl hRp
  have hsz : w1.heap.size = W.heap.size + 1 := by rw [hw1]; simp
  have H1 : Hid _ := And.intro hw2 (And.intro hw1 (And.intro hg2 (And.intro hCl (And.intro hbW hRp))))
  obtain ⟨x0, x1, x2, x3⟩ := four_cellsB hg2
  clear hw1 hb1 hv hw2 hb2 hg2 hbW hCl hE hRp
  go_enter Tryz.func8, Tryz.ntmps8
  go_upto_region 2 with fail
  rw [← H1.out.2.1, ← H1.out.1]
  rw [hsz] at x0 x1 x2 x3
  go_wp2_with fail
  refine Calls.mono H1.out.2.2.2.1 ?_
  rintro r w3 ⟨u3, R, rfl, hR, hO3, hb3⟩
  obtain rfl : R = 2 := hR.unique esT9_last
  rw [esT9_rnd] at hO3
  obtain ⟨a3', c3, hu3⟩ := row_shape hO3
  simp only [List.length_cons, List.length_nil] at hu3
  subst hu3
  have hg3 := bup hb3 H1.out.2.2.1
  rw [hsz] at hg3
  obtain ⟨gs3, hga, hl3⟩ := own_num hO3 (j := 3) (z := 1) rfl
  subst hga
  obtain ⟨w4, hw4⟩ : ∃ w4, w4 = (((w3.alloc (.cells #[.int .i64 0, .int .i64 1, .int .i64 2, .int .i64 3] 3)).alloc (.cells #[.int .i64 2] 3)).alloc (.cells #[.int .i64 0] 3)).alloc (.cells #[.slice (some ⟨w3.heap.size, 0, none⟩) 4 4, .slice (some ⟨w3.heap.size + 1, 0, none⟩) 1 1, .slice (some ⟨w3.heap.size + 1 + 1, 0, none⟩) 1 1] 27) := ⟨_, rfl⟩
  obtain ⟨hT4, hb4⟩ := tkT9_has hw4
  have hRp := H1.out.2.2.2.2.2 w4 _ (hb3.trans (hb4.mono hb3.size)) hT4
  rw [esT9_rep] at hRp
  have H3 : Hid _ := And.intro hRp (And.intro hb3 (And.intro hb4 (And.intro hw4 hl3)))
  clear x0 x1 x2 x3 hR hO3 hb3 hRp hT4 hb4 hw4 hl3
  obtain ⟨x0, x1, x2, x3⟩ := four_cellsB hg3
  clear hg3
  go_wp2_with fail
  rw [← H3.out.2.2.2.1]
  refine Calls.mono H3.out.1 ?_
  rintro r w5 ⟨hb5, u5, rfl, hO5⟩
  have e5 : natI [0, 1, 2, 1] = [0, 1, 2, 1] := rfl
  rw [e5] at hO5
  obtain ⟨a5, c5, hu5⟩ := row_shape hO5
  simp only [List.length_cons, List.length_nil] at hu5
  subst hu5
  obtain ⟨gs5, hga5, hl5⟩ := own_num hO5 (j := 2) (z := 2) rfl
  subst hga5
  have hl35 := cell_up (cell_up H3.out.2.2.2.2 H3.out.2.2.1) hb5
  have H5 : Hid _ := And.intro hb5 trivial
  clear hO5 hb5 x0 x1 x2 x3 e5
  go_wp2_with fail
  go_ret
  have h6 : Below W.heap.size W w3 := H1.out.2.2.2.2.1.trans (H3.out.2.1.mono H1.out.2.2.2.2.1.size)
  have h7 := h6.trans (H3.out.2.2.1.mono h6.size)
  exact ⟨rfl, h7.trans (H5.out.1.mono h7.size)⟩
end Go.Proofs.YtkiapldehlnndabGreatDoor
/- Chapter 9's laws: small. -/
namespace Go.Proofs.YtkiapldehlnndabGreatDoor
open Go.RowKit Go.Maps
attribute [local go_sem ↓] Go.wp_at_zero Go.wp_at_succ
theorem alb (w : World) : Hid (∀ o, Below w.heap.size w (w.alloc o)) := fun _ => (Below.refl _ _).alloc (Nat.le_refl _) _
set_option maxRecDepth 100000 in
set_option maxHeartbeats 4000000 in
theorem small_in (n k s : Int) (ao : Option Addr) (L cap : Nat) (w : World) (hn : n ≤ 80) (hl : L ≤ 600) :
    Calls Tryz.prog 7 #[sysV n k s (.slice ao L cap)] w fun r w' => r = .returned (.bool true) ∧ Below w.heap.size w w' := by
  have q1 : decide (n ≤ (80 : Int)) = true := by simpa using hn
  have q2 : decide ((L : Int) ≤ (600 : Int)) = true := by simp; omega
  have HB := alb w
  unfold sysV
  clear hn hl
  go_enter Tryz.func7, Tryz.ntmps7
  go_wp2
  go_ret
  exact ⟨rfl, HB.out _⟩
set_option maxRecDepth 100000 in
set_option maxHeartbeats 4000000 in
theorem small_out (n k s : Int) (ao : Option Addr) (L cap : Nat) (w : World) (h : 80 < n ∨ 600 < L) :
    Calls Tryz.prog 7 #[sysV n k s (.slice ao L cap)] w fun r w' => r = .returned (.bool false) ∧ Below w.heap.size w w' := by
  have HB := alb w
  unfold sysV
  by_cases hn : n ≤ 80
  · have q1 : decide (n ≤ (80 : Int)) = true := by simpa using hn
    have q2 : decide ((L : Int) ≤ (600 : Int)) = false := by simp; omega
    clear hn h
    go_enter Tryz.func7, Tryz.ntmps7
    go_wp2
    go_ret
    exact ⟨rfl, HB.out _⟩
  · have q1 : decide (n ≤ (80 : Int)) = false := by simpa using hn
    clear hn h
    go_enter Tryz.func7, Tryz.ntmps7
    go_wp2
    go_ret
    exact ⟨rfl, HB.out _⟩
end Go.Proofs.YtkiapldehlnndabGreatDoor
/- Rounds of a system whose edges stand in another order, or whose states are numbered otherwise. Plain facts. -/
namespace Go.Proofs.YtkiapldehlnndabGreatDoor.Sg
open Ro
theorem rnd_stay {n : Nat} {out : Nat → List St} {R : Nat} (h : Last n out R) : ∀ d, rnd n out (R + d) = rnd n out R
  | 0 => rfl
  | d + 1 => by
    have h1 : rnd n out (R + (d + 1)) = nx n out (rnd n out (R + d)) := rfl
    rw [h1, rnd_stay h d]
    exact h.1
theorem row_mem {m : Nat} {es : List Sy.Ed} {i : Int} {z : BSteps.El} (hi : 0 ≤ i ∧ i < (m : Int)) : z ∈ Sy.rowOf m (Sy.nf es) i ↔ (i, z.1, z.2) ∈ es := by
  unfold Sy.rowOf
  rw [if_pos hi]
  unfold Sy.steps
  rw [List.mem_map]
  constructor
  · rintro ⟨e, he, rfl⟩
    obtain ⟨h1, h2⟩ := List.mem_filter.1 he
    have h3 : e.1 = i := by simpa using h2
    rw [← h3]
    exact (Sy.nf_mem es e).1 h1
  · intro h
    exact ⟨_, List.mem_filter.2 ⟨(Sy.nf_mem es _).2 h, by simp⟩, rfl⟩
theorem rnd_named {n : Nat} {out out' : Nat → List St} {f : Nat → Nat} (hn : n ≤ 1000) (hf : ∀ p, p < n → f p < n) (hfit : ∀ p, p < n → ∀ z ∈ out p, 0 ≤ z.2 ∧ z.2 < (n : Int))
    (hout : ∀ p, p < n → ∀ b t, (b, t) ∈ out' (f p) ↔ ∃ t0 : Nat, t0 < n ∧ (b, (t0 : Int)) ∈ out p ∧ t = (f t0 : Int)) :
    ∀ k p q u v x y, p < n → q < n → (rnd n out k)[p]? = some u → (rnd n out k)[q]? = some v → (rnd n out' k)[f p]? = some x → (rnd n out' k)[f q]? = some y → (u = v ↔ x = y) := by
  intro k
  induction k with
  | zero =>
    intro p q u v x y _ _ hu hv hx hy
    have e1 := List.eq_of_mem_replicate (List.mem_of_getElem? hu)
    have e2 := List.eq_of_mem_replicate (List.mem_of_getElem? hv)
    have e3 := List.eq_of_mem_replicate (List.mem_of_getElem? hx)
    have e4 := List.eq_of_mem_replicate (List.mem_of_getElem? hy)
    rw [e1, e2, e3, e4]
  | succ k ih =>
    intro p q u v x y hp hq hu hv hx hy
    have at' : ∀ (o : Nat → List St) (i : Nat), i < n → ∃ a, (rnd n o k)[i]? = some a := fun o i hi => ⟨_, List.getElem?_eq_getElem (by rw [rnd_len]; exact hi)⟩
    obtain ⟨u0, hu0⟩ := at' out p hp
    obtain ⟨v0, hv0⟩ := at' out q hq
    obtain ⟨x0, hx0⟩ := at' out' (f p) (hf p hp)
    obtain ⟨y0, hy0⟩ := at' out' (f q) (hf q hq)
    rw [nx_eq (rnd_len n out k) hn (fun u hu => rnd_lt hu) (show (nx n out (rnd n out k))[p]? = some u from hu) hv hu0 hv0,
      nx_eq (rnd_len n out' k) hn (fun u hu => rnd_lt hu) (show (nx n out' (rnd n out' k))[f p]? = some x from hx) hy hx0 hy0]
    have cls : ∀ a b, a < n → b < n → (cl (rnd n out k) (a : Int) = cl (rnd n out k) (b : Int) ↔ cl (rnd n out' k) (f a : Int) = cl (rnd n out' k) (f b : Int)) := fun a b ha hb => by
      obtain ⟨c1, h1⟩ := at' out a ha
      obtain ⟨c2, h2⟩ := at' out b hb
      obtain ⟨c3, h3⟩ := at' out' (f a) (hf a ha)
      obtain ⟨c4, h4⟩ := at' out' (f b) (hf b hb)
      have := ih a b c1 c2 c3 c4 ha hb h1 h2 h3 h4
      simpa [cl, h1, h2, h3, h4] using this
    have half : ∀ p q, p < n → q < n → ((∀ b j, leads (rnd n out k) (out p) b j → leads (rnd n out k) (out q) b j) ↔ ∀ b j, leads (rnd n out' k) (out' (f p)) b j → leads (rnd n out' k) (out' (f q)) b j) := fun p q hp hq => by
      constructor
      · rintro h b j ⟨⟨b', t⟩, hz, rfl, rfl⟩
        obtain ⟨t0, ht0, hm, rfl⟩ := (hout p hp b' t).1 hz
        obtain ⟨⟨b2, t2⟩, hz2, e1, e2⟩ := h b' (cl (rnd n out k) (t0 : Int)) ⟨_, hm, rfl, rfl⟩
        simp only at e1 e2
        subst e1
        have hf2 := hfit q hq _ hz2
        simp only at hf2
        obtain ⟨t3, rfl⟩ : ∃ t3 : Nat, t2 = (t3 : Int) := ⟨t2.toNat, by omega⟩
        have h3 : t3 < n := by omega
        exact ⟨(b2, (f t3 : Int)), (hout q hq _ _).2 ⟨t3, h3, hz2, rfl⟩, rfl, (cls t3 t0 h3 ht0).1 e2⟩
      · rintro h b j ⟨⟨b', t⟩, hz, rfl, rfl⟩
        have hf2 := hfit p hp _ hz
        simp only at hf2
        obtain ⟨t0, rfl⟩ : ∃ t0 : Nat, t = (t0 : Int) := ⟨t.toNat, by omega⟩
        have h0 : t0 < n := by omega
        obtain ⟨⟨b2, t2⟩, hz2, e1, e2⟩ := h b' (cl (rnd n out' k) (f t0 : Int)) ⟨_, (hout p hp _ _).2 ⟨t0, h0, hz, rfl⟩, rfl, rfl⟩
        simp only at e1 e2
        subst e1
        obtain ⟨t3, h3, hm, rfl⟩ := (hout q hq b2 t2).1 hz2
        exact ⟨(b2, (t3 : Int)), hm, rfl, (cls t3 t0 h3 h0).2 e2⟩
    have hpq := half p q hp hq
    have hqp := half q p hq hp
    rw [ih p q u0 v0 x0 y0 hp hq hu0 hv0 hx0 hy0]
    constructor
    · rintro ⟨h1, h2⟩
      exact ⟨h1, fun b j => ⟨hpq.1 (fun b j => (h2 b j).1) b j, hqp.1 (fun b j => (h2 b j).2) b j⟩⟩
    · rintro ⟨h1, h2⟩
      exact ⟨h1, fun b j => ⟨hpq.2 (fun b j => (h2 b j).1) b j, hqp.2 (fun b j => (h2 b j).2) b j⟩⟩
end Go.Proofs.YtkiapldehlnndabGreatDoor.Sg
/- StrongEdges: what it leans on, and the systems that it leaves alone. (Written by mkedges.py.) -/
namespace Go.Proofs.YtkiapldehlnndabGreatDoor
open Go.RowKit Go.Maps
attribute [local go_sem ↓] Go.wp_at_zero Go.wp_at_succ
def Sy.shuf (es : List Sy.Ed) (k : Nat) (x : Sy.Ed) : List Sy.Ed := (es.drop k ++ es.take k) ++ [x]
theorem bel8 {w W w8 : World} (hb : Below W.heap.size W w8) (h : Below w.heap.size w W) : Below w.heap.size w w8 := h.trans (hb.mono h.size)
structure ShAt9 (w w1 w2 wx : World) (n k s s' : Int) (a : Addr) (L cap : Nat) (es : List Sy.Ed) (K : Nat) (x : Sy.Ed) : Prop where
  u : ∃ u, wx.heap[w1.heap.size]? = some (.cells #[.int .i64 n, .int .i64 k, .int .i64 s', u] 24 (0, 0)) ∧ BEdges.Own wx w2.heap.size u (Sy.shuf es K x)
  b : wx.heap[w.heap.size]? = some (.cells #[.int .i64 n, .int .i64 k, .int .i64 s, .slice (some a) L cap] 24 (0, 0))
  bl : Below w1.heap.size w1 wx
end Go.Proofs.YtkiapldehlnndabGreatDoor
