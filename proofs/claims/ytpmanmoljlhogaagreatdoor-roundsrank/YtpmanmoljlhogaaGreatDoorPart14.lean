/- Texts of this claim, joined: RoRank, RoRank2, RoDRank, RoAlive. -/
import Derived.Test.YtpmanmoljlhogaaGreatDoorPart12
import Derived.Test.YtpmanmoljlhogaaGreatDoorPart13
import Derived.Test.YtpmanmoljlhogaaGreatDoorErCode
/- Contracts of the program's parting and Rank. -/
namespace Go.Proofs.YtpmanmoljlhogaaGreatDoor
open Go.RowKit Go.Maps Go.Shelf
attribute [local go_sem] Oper.semAt_some
/-- The boxes of parting: the system, both states, both results. -/
structure PgAt (w w1 : World) (n k s p q : Int) (ao : Option Addr) (L cap : Nat) : Prop where
  bl : Below w.heap.size w w1
  bs : w1.heap[w.heap.size]? = some (.cells #[.int .i64 n, .int .i64 k, .int .i64 s, .slice ao L cap] 24 (0, 0))
  bp : Boxed w1 (w.heap.size + 1) 3 (.int .i64 p)
  bq : Boxed w1 (w.heap.size + 2) 3 (.int .i64 q)
  br : Boxed w1 (w.heap.size + 3) 3 (.int .i64 0)
  be : Boxed w1 (w.heap.size + 4) 46 .nilIface
theorem PgAt.below {w w1 w2 : World} {n k s p q : Int} {ao : Option Addr} {L cap : Nat} (h : PgAt w w1 n k s p q ao L cap) (hb : Below w1.heap.size w1 w2) : PgAt w w2 n k s p q ao L cap :=
  ⟨bel6 hb h.bl, res_up6 hb h.bs, res_up6 hb h.bp, res_up6 hb h.bq, res_up6 hb h.br, res_up6 hb h.be⟩
def pgW (w : World) (n k s p q : Int) (ao : Option Addr) (L cap : Nat) : World := ((((w.alloc (.cells #[.int .i64 n, .int .i64 k, .int .i64 s, .slice ao L cap] 24)).alloc (.cells #[.int .i64 p] 3)).alloc (.cells #[.int .i64 q] 3)).alloc (.cells #[.int .i64 0] 3)).alloc (.cells #[.nilIface] 46)
theorem heap_new' (w : World) (o : Obj) (g : Nat) (h : g = w.heap.size) : (w.alloc o).heap[g]? = some o := by subst h; exact World.alloc_heap_new w o
theorem pg_new (w : World) (n k s p q : Int) (ao : Option Addr) (L cap : Nat) : PgAt w (pgW w n k s p q ao L cap) n k s p q ao L cap := by
  have up : ∀ {W : World} {b : Nat} {o : Obj} (x : Obj), W.heap[b]? = some o → (W.alloc x).heap[b]? = some o := fun {W b o} x h => (Below.heap_alloc W x b (t_lt h)).trans h
  unfold pgW
  refine ⟨?_, ?_, ?_, ?_, ?_, ?_⟩
  · refine Below.alloc (Below.alloc (Below.alloc (Below.alloc (Below.alloc (Below.refl _ _) (by simp) _) (by simp) _) (by simp; omega) _) (by simp; omega) _) (by simp; omega) _
  · exact up _ (up _ (up _ (up _ (heap_new' _ _ _ rfl))))
  · exact up _ (up _ (up _ (heap_new' _ _ _ (by simp))))
  · exact up _ (up _ (heap_new' _ _ _ (by simp)))
  · exact up _ (heap_new' _ _ _ (by simp))
  · exact heap_new' _ _ _ (by simp)
theorem Chain.set {w : World} {l c : Int} {a : Addr} {g o : Nat} {x : Value} {t : TypeId} {cs : Array Value} (hg : w.heap[g]? = some (.cells cs t (0, 0))) (ht : t ≠ 79) : ∀ {ls : List ByteArray} {v : Value}, Chain w l c a ls v → Chain (w.setCell ⟨g, o, none⟩ x) l c a ls v
  | [], _, h => h
  | s :: r, v, h => by
    obtain ⟨b, u, h1, h2, h3⟩ := h
    have hne : b ≠ g := fun e => by
      rw [← e, h2] at hg
      injection hg with hg
      injection hg with _ h4
      exact ht h4.symm
    exact ⟨b, u, h1, (setCell_other _ hne).trans h2, Chain.set hg ht h3⟩
theorem pg_ret {w w2 : World} {n k s p q : Int} {ao : Option Addr} {L cap : Nat} (hg : PgAt w w2 n k s p q ao L cap) (x y : Value) :
    ((w2.setCell ⟨w.heap.size + 1 + 1 + 1, 0, none⟩ x).setCell ⟨w.heap.size + 1 + 1 + 1 + 1, 0, none⟩ y).cell? ⟨w.heap.size + 1 + 1 + 1, 0, none⟩ = some x ∧ ((w2.setCell ⟨w.heap.size + 1 + 1 + 1, 0, none⟩ x).setCell ⟨w.heap.size + 1 + 1 + 1 + 1, 0, none⟩ y).cell? ⟨w.heap.size + 1 + 1 + 1 + 1, 0, none⟩ = some y ∧ Below w.heap.size w ((w2.setCell ⟨w.heap.size + 1 + 1 + 1, 0, none⟩ x).setCell ⟨w.heap.size + 1 + 1 + 1 + 1, 0, none⟩ y) := by
  have d3 : w2.cell? ⟨w.heap.size + 1 + 1 + 1, 0, none⟩ = some (.int .i64 0) := hg.br.cell
  have d4 : w2.cell? ⟨w.heap.size + 1 + 1 + 1 + 1, 0, none⟩ = some .nilIface := hg.be.cell
  have hne34 : (w.heap.size + 1 + 1 + 1) ≠ (w.heap.size + 1 + 1 + 1 + 1) := by omega
  refine ⟨?_, ?_, (hg.bl.setCell (p := ⟨w.heap.size + 1 + 1 + 1, 0, none⟩) (by simp; omega) _).setCell (p := ⟨w.heap.size + 1 + 1 + 1 + 1, 0, none⟩) (by simp; omega) _⟩
  · rw [cell_block (setCell_other _ hne34)]
    exact World.cell?_setCell_same' _ _ _ (by rw [d3]; rfl)
  · exact World.cell?_setCell_same' _ _ _ (by rw [cell_block (setCell_other _ (fun e => hne34 e.symm)), d4]; rfl)
set_option maxRecDepth 100000 in
set_option maxHeartbeats 4000000 in
theorem parting_ok (hS : SortOk 1000000) (m p q : Nat) (k s : Int) (v : Value) (es : List Sy.Ed) (a aN : Addr) (w : World) (hA : Sent w 14 a) (hN : Sent w 0 aN) (hP : Pow w) (hv : BEdges.Has w v es) (hm : es.length ≤ 100000) (hq : Sy.right m k s es = true) (hp : p < m) (hq2 : q < m) :
    Calls Tryz.prog 82 #[sysV m k s v, .int .i64 p, .int .i64 q] w fun r w' => ∃ R, Ro.Last m (outOf m es) R ∧ Below w.heap.size w w' ∧
      ((∃ j : Nat, j ≤ R ∧ r = .returned (.tuple #[.int .i64 j, .nilIface]) ∧ (Ro.rnd m (outOf m es) j)[p]? ≠ (Ro.rnd m (outOf m es) j)[q]? ∧ ∀ i, i < j → (Ro.rnd m (outOf m es) i)[p]? = (Ro.rnd m (outOf m es) i)[q]?) ∨
       (r = .returned (.tuple #[.int .i64 0, .iface 305 (.pointer (some aN))]) ∧ ∀ i, i ≤ R → (Ro.rnd m (outOf m es) i)[p]? = (Ro.rnd m (outOf m es) i)[q]?)) := by
  have hv0 := hv
  obtain ⟨ao, cap, rfl, _⟩ := hv0
  obtain ⟨L, hL⟩ : ∃ L, L = es.length := ⟨_, rfl⟩
  obtain ⟨w1, hw1⟩ : ∃ w1, w1 = pgW w m k s p q ao L cap := ⟨_, rfl⟩
  have hg1 : PgAt w w1 m k s p q ao L cap := by rw [hw1]; exact pg_new _ _ _ _ _ _ _ _ _
  have hO := roundsOf_ok hS m k s _ es a w1 (hA.below hg1.bl) (hv.below hg1.bl) hm hq
  rw [← hL] at hO ⊢
  unfold sysV at hO ⊢
  have hm1 : m ≤ 1000 := by have := (right_parts hq).1; omega
  have hF := steps_fit hq
  obtain ⟨out, hout⟩ : ∃ out, out = outOf m es := ⟨_, rfl⟩
  have H1 : Hid _ := And.intro hw1 (And.intro hg1 (And.intro hO (And.intro hP (And.intro hF (And.intro hout hN)))))
  obtain ⟨x0, x1, x2, x3⟩ := four_cells hg1.bs
  unfold pgW at H1
  clear hA hv hm hq hw1 hg1 hO hL hP hF hout hN
  refine (callsIn_wide (n := 3)).1 ?_
  refine callsIn_of_wp_marks Tryz.func82 rfl trivial ?_ rfl
  simp only [Tryz.ntmps82, List.size_toArray, List.length_cons, List.length_nil, Nat.reduceAdd, Nat.reduceSub, Array.replicate_succ, Array.replicate_zero, List.push_toArray, List.append_toArray, List.nil_append, List.cons_append]
  gi_upto_region 1 with fail
  rw [← H1.out.1]
  gi_wp2
  refine ⟨trivial, (callsIn_wide.2 H1.out.2.2.1).mono ?_⟩
  rintro r w2 ⟨b1, b2, gs, rfl, hO2⟩
  unfold roundsV
  have hg2 := H1.out.2.1.below hO2.bl
  have hRd := Reads.of hO2 (H1.out.2.2.2.1.below hg2.bl)
  have c1 := hg2.bp.cell
  have c2 := hg2.bq.cell
  obtain ⟨y0, y1, y2, y3⟩ := four_cells hg2.bs
  have g1 : (0 : Int) ≤ (p : Int) := by omega
  have g2 : (0 : Int) ≤ (q : Int) := by omega
  have g3 : (p : Int) < (m : Int) := by omega
  have g4 : (q : Int) < (m : Int) := by omega
  have g5 : ¬ min (p : Int) (q : Int) < 0 := by omega
  have g6 : ¬ (m : Int) ≤ max (p : Int) (q : Int) := by omega
  have H2 : Hid _ := And.intro hg2 hRd
  clear hg2 hRd hO2 x0 x1 x2 x3
  gi_wp2
  have hF := H1.out.2.2.2.2.1
  have hR := H2.out.2
  rw [← H1.out.2.2.2.2.2.1] at hF hR
  refine loop_tells rfl (by omega) (gf := 97) (lb := #[.pointer (some ⟨b1, 0, none⟩), .pointer (some ⟨b2, 0, none⟩)]) rfl trivial (enters_of Tryz.func97 (by kernel_rfl) rfl)
    (rounds_tell 2 w2.heap.size b1 b2 gs m out w2 (Nat.le_refl _) hm1 hF hR) (fun h k => h.trans k) (kpr_put (Nat.le_refl _)) (fun pre x W l o o' _ hl ho h => good_put pre x W l o o' hl ho h) (Below.refl _ _) (fun _ => rfl)
    (fun pre W => (∀ i, i < pre.length → (Ro.rnd m out i)[p]? = (Ro.rnd m out i)[q]?) ∧ Below w2.heap.size w2 W)
    (fun c pre W => (c = .ret ∧ ∃ j : Nat, pre.length = j + 1 ∧ (Ro.rnd m out j)[p]? ≠ (Ro.rnd m out j)[q]? ∧ (∀ i, i < j → (Ro.rnd m out i)[p]? = (Ro.rnd m out i)[q]?) ∧ W.cell? ⟨w.heap.size + 1 + 1 + 1, 0, none⟩ = some (.int .i64 j) ∧ W.cell? ⟨w.heap.size + 1 + 1 + 1 + 1, 0, none⟩ = some .nilIface) ∧ Below w.heap.size w W)
    (fun s A B row hs hg hr => ⟨hs.1, ownFrom_below (β := Unit) (Nat.le_refl _) (Nat.le_refl _) () A B row hs.2 hg hr⟩)
    (fun c s A B row hs hg hr => by
      obtain ⟨⟨h1, j, h2, h3, h4, h5, h6⟩, h7⟩ := hs
      exact ⟨⟨h1, j, h2, h3, h4, cell_kept h5 hg (fun r e => (hr r e).2), cell_kept h6 hg (fun r e => (hr r e).2)⟩, ownFrom_below (β := Unit) (Nat.le_refl _) H2.out.1.bl.size () A B row h7 hg hr⟩)
    ⟨fun i hi => by simp at hi, Below.refl _ _⟩
    (fun x => { tmps := #[(.agg #[.int .i64 m, .int .i64 k, .int .i64 s, .slice ao L cap]), .int .i64 (p : Int), .int .i64 (q : Int), .pointer (some ⟨w.heap.size, 0, none⟩), .pointer (some ⟨w.heap.size + 1, 0, none⟩), .pointer (some ⟨w.heap.size + 1 + 1, 0, none⟩), .pointer (some ⟨w.heap.size + 1 + 1 + 1, 0, none⟩), .pointer (some ⟨w.heap.size + 1 + 1 + 1 + 1, 0, none⟩), (.func (.func 97) #[] #[.pointer (some ⟨b1, 0, none⟩), .pointer (some ⟨b2, 0, none⟩)]), .nilIface, .int .i64 x.1, (.slice (some ⟨x.2, 0, none⟩) m m), .tuple #[(.func (.func 97) #[] #[.pointer (some ⟨b1, 0, none⟩), .pointer (some ⟨b2, 0, none⟩)]), .nilIface], (.agg #[.int .i64 m, .int .i64 k, .int .i64 s, .slice ao L cap]), .tuple #[(.func (.func 97) #[] #[.pointer (some ⟨b1, 0, none⟩), .pointer (some ⟨b2, 0, none⟩)]), .nilIface], (.func (.func 97) #[] #[.pointer (some ⟨b1, 0, none⟩), .pointer (some ⟨b2, 0, none⟩)]), .nilIface, .bool false, .nilIface, .bool false, undef, .bool (decide (min (p : Int) (q : Int) < 0) || decide ((m : Int) ≤ max (p : Int) (q : Int))), .int .i64 (p : Int), .int .i64 (q : Int), .int .i64 (min (p : Int) (q : Int)), .bool (decide (min (p : Int) (q : Int) < 0)), .bool (decide (min (p : Int) (q : Int) < 0)), .int .i64 (p : Int), .int .i64 (q : Int), .int .i64 (max (p : Int) (q : Int)), .pointer (some ⟨w.heap.size, 0, none⟩), .int .i64 m, .bool (decide ((m : Int) ≤ max (p : Int) (q : Int))), .bool (decide (min (p : Int) (q : Int) < 0) || decide ((m : Int) ≤ max (p : Int) (q : Int))), undef, (.func (.func 97) #[] #[.pointer (some ⟨b1, 0, none⟩), .pointer (some ⟨b2, 0, none⟩)]), .int .i64 x.1, (.slice (some ⟨x.2, 0, none⟩) m m), undef, undef, undef, undef, undef, undef, undef, undef, undef, undef, undef], defers := [] }) ?assign ?body ?done ?stop
  case assign =>
    intro l x W K hK
    unfold rdV
    gi_wp2
    exact hK
  case body =>
    rintro l pre x W ⟨hpre, hB⟩ hG
    have hg := H2.out.1.below hB
    have d1 := hg.bp.cell
    have d2 : W.cell? ⟨w.heap.size + 1 + 1, 0, none⟩ = some (.int .i64 q) := hg.bq.cell
    have d3 : W.cell? ⟨w.heap.size + 1 + 1 + 1, 0, none⟩ = some (.int .i64 0) := hg.br.cell
    have d4 : W.cell? ⟨w.heap.size + 1 + 1 + 1 + 1, 0, none⟩ = some .nilIface := hg.be.cell
    have f3 : W.frozen? ⟨w.heap.size + 1 + 1 + 1, 0, none⟩ = false := hg.br.frozen
    have f4 : W.frozen? ⟨w.heap.size + 1 + 1 + 1 + 1, 0, none⟩ = false := hg.be.frozen
    obtain ⟨cs, hcs, hcl⟩ := hG.blk
    have hl := Ro.rnd_len m out x.1
    obtain ⟨cp, hcp⟩ : ∃ cp, (Ro.rnd m out x.1)[p]? = some cp := ⟨_, List.getElem?_eq_getElem (by omega)⟩
    obtain ⟨cq, hcq⟩ : ∃ cq, (Ro.rnd m out x.1)[q]? = some cq := ⟨_, List.getElem?_eq_getElem (by omega)⟩
    have e1 : W.cell? ⟨x.2, p, none⟩ = some (.int .i64 cp) := cell0_of hcs (by rw [← Array.getElem?_toList, hcl]; simp [natC, hcp])
    have e2 : W.cell? ⟨x.2, q, none⟩ = some (.int .i64 cq) := cell0_of hcs (by rw [← Array.getElem?_toList, hcl]; simp [natC, hcq])
    have HG : Hid _ := And.intro hG (And.intro hpre (And.intro hB (And.intro hcp (And.intro hcq hg))))
    clear hG hpre hB hcp hcq hcs hcl hl hg
    by_cases hne : cp = cq
    · have n1 : ((cp : Int) != (cq : Int)) = false := by simp [hne]
      have HN : Hid _ := hne
      clear hne
      gi_wp2
      refine region_round (F := Fence.wide) rfl (by kernel_rfl) (by kernel_rfl) (by kernel_rfl) ?_
      repeat (gi_big_quiet_step (fail))
      refine wpQuietIn_nil ?_
      intro _ hw'
      obtain ⟨nq, hw''⟩ := hw'
      subst hw''
      gi_wp2
      refine ⟨⟨Nat.le_refl _, fun _ _ _ h _ => h⟩, ⟨below_drewN (Below.refl _ _) _, fun _ _ _ h => h⟩, fun i hi => ?_, below_drewN HG.out.2.2.1 _⟩
      rcases Nat.lt_or_ge i pre.length with h1 | h1
      · exact HG.out.2.1 i h1
      · have e : i = x.1 := by have := HG.out.1.num; simp at hi; omega
        rw [e, HG.out.2.2.2.1, HG.out.2.2.2.2.1, HN.out]
    · have n1 : ((cp : Int) != (cq : Int)) = true := by simp; omega
      have HN : Hid _ := hne
      clear hne
      gi_wp2
      refine region_round (F := Fence.wide) rfl (by kernel_rfl) (by kernel_rfl) (by kernel_rfl) ?_
      repeat (gi_big_quiet_step (fail))
      refine wpQuietIn_nil ?_
      intro _ hw'
      obtain ⟨nq, hw''⟩ := hw'
      subst hw''
      gi_wp2
      have hne34 : (w.heap.size + 1 + 1 + 1) ≠ (w.heap.size + 1 + 1 + 1 + 1) := by omega
      refine ⟨⟨?_, fun b o hb ho hc => ?_⟩, ⟨rfl, x.1, ?_, ?_, fun i hi => ?_, ?_, ?_⟩, ?_⟩
      · simp
      · exact ((KeepsOthers.setCell _ _ _).trans (KeepsOthers.setCell _ _ _)).same b o ho hc
      · simp [HG.out.1.num]
      · rw [HG.out.2.2.2.1, HG.out.2.2.2.2.1]
        intro e
        exact HN.out (Option.some.inj e)
      · exact HG.out.2.1 i (by have := HG.out.1.num; omega)
      · rw [cell_block (setCell_other _ hne34)]
        exact World.cell?_setCell_same' _ _ _ (by show (W.cell? _).isSome = true; rw [d3]; rfl)
      · exact World.cell?_setCell_same' _ _ _ (by rw [cell_block (setCell_other _ (fun e => hne34 e.symm))]; show (W.cell? _).isSome = true; rw [d4]; rfl)
      · exact ((bel6 (below_drewN HG.out.2.2.1 _) H2.out.1.bl).setCell (p := ⟨w.heap.size + 1 + 1 + 1, 0, none⟩) (by simp; omega) _).setCell (p := ⟨w.heap.size + 1 + 1 + 1 + 1, 0, none⟩) (by simp; omega) _
  case done =>
    rintro D xs W hD ⟨R, hRl, hxl⟩ ⟨hall, hB⟩ hK
    have hg := H2.out.1.below hB
    have d3 : W.cell? ⟨w.heap.size + 1 + 1 + 1, 0, none⟩ = some (.int .i64 0) := hg.br.cell
    have d4 : W.cell? ⟨w.heap.size + 1 + 1 + 1 + 1, 0, none⟩ = some .nilIface := hg.be.cell
    have f3 : W.frozen? ⟨w.heap.size + 1 + 1 + 1, 0, none⟩ = false := hg.br.frozen
    have f4 : W.frozen? ⟨w.heap.size + 1 + 1 + 1 + 1, 0, none⟩ = false := hg.be.frozen
    have hsN := (H1.out.2.2.2.2.2.2.below hg.bl).1
    have mixed : Tryz.prog.follows .mixedOrders = true := by kernel_rfl
    have HW : Hid _ := And.intro hg (And.intro hall (And.intro hRl hxl))
    clear hg hall hRl hxl hB
    gi_wp2
    gi_region
    gi_wp2
    obtain ⟨W9, hW9⟩ : ∃ W9, W9 = ((W.setCell ⟨w.heap.size + 1 + 1 + 1, 0, none⟩ (.int .i64 0)).setCell ⟨w.heap.size + 1 + 1 + 1 + 1, 0, none⟩ (.iface 305 (.pointer (some aN)))).drew := ⟨_, rfl⟩
    have hne34 : (w.heap.size + 1 + 1 + 1) ≠ (w.heap.size + 1 + 1 + 1 + 1) := by omega
    have hK9 : W9.heap[D]? = some (.deferred (some [])) := by
      rw [hW9]
      exact ((KeepsOthers.setCell _ _ _).trans (KeepsOthers.setCell _ _ _)).same D _ hK rfl
    have k5 : W9.cell? ⟨w.heap.size + 1 + 1 + 1, 0, none⟩ = some (.int .i64 0) := by
      rw [hW9]
      show ((W.setCell _ _).setCell _ _).cell? _ = _
      rw [cell_block (setCell_other _ hne34)]
      exact World.cell?_setCell_same' _ _ _ (by rw [d3]; rfl)
    have k6 : W9.cell? ⟨w.heap.size + 1 + 1 + 1 + 1, 0, none⟩ = some (.iface 305 (.pointer (some aN))) := by
      rw [hW9]
      show ((W.setCell _ _).setCell _ _).cell? _ = _
      exact World.cell?_setCell_same' _ _ _ (by rw [cell_block (setCell_other _ (fun e => hne34 e.symm)), d4]; rfl)
    have hB9 : Below w.heap.size w W9 := by
      rw [hW9]
      exact ((HW.out.1.bl.setCell (p := ⟨w.heap.size + 1 + 1 + 1, 0, none⟩) (by simp; omega) _).setCell (p := ⟨w.heap.size + 1 + 1 + 1 + 1, 0, none⟩) (by simp; omega) _).drew
    rw [← hW9]
    refine ⟨by simp, .inl ⟨_, _, rfl, run_takeDeferred hK9, ?_⟩⟩
    have k5' := cell_kept k5 (grownBy_putObj' _ D (.deferred none)) (fun r e => by cases e; exact ⟨_, hK9, rfl⟩)
    have k6' := cell_kept k6 (grownBy_putObj' _ D (.deferred none)) (fun r e => by cases e; exact ⟨_, hK9, rfl⟩)
    refine ⟨.tuple #[.int .i64 0, .iface 305 (.pointer (some aN))], ?_, R, by rw [← H1.out.2.2.2.2.2.1]; exact HW.out.2.2.1, ?_, .inr ⟨rfl, by rw [← H1.out.2.2.2.2.2.1]; exact fun i hi => HW.out.2.1 i (by have := HW.out.2.2.2; omega)⟩⟩
    · simp [results, Tryz.f82, go_sem, k5', k6']
    · exact hB9.trans (belowK_b (w := w) (Nat.le_refl _) W9 D _ _ (by have := H2.out.1.bl.size; omega) hK9 rfl rfl)
  case stop =>
    rintro D c pre W hD ⟨R, hRl, hxl⟩ ⟨⟨rfl, j, h2, h3, h4, h5, h6⟩, h7⟩ hK
    gi_wp2
    refine ⟨by simp, .inl ⟨_, _, rfl, run_takeDeferred hK, ?_⟩⟩
    have k5 := cell_kept h5 (grownBy_putObj' _ D (.deferred none)) (fun r e => by cases e; exact ⟨_, hK, rfl⟩)
    have k6 := cell_kept h6 (grownBy_putObj' _ D (.deferred none)) (fun r e => by cases e; exact ⟨_, hK, rfl⟩)
    refine ⟨.tuple #[.int .i64 j, .nilIface], ?_, R, by rw [← H1.out.2.2.2.2.2.1]; exact hRl, ?_, .inl ⟨j, by omega, rfl, by rw [← H1.out.2.2.2.2.2.1]; exact h3, by rw [← H1.out.2.2.2.2.2.1]; exact h4⟩⟩
    · simp [results, Tryz.f82, go_sem, k5, k6]
    · exact h7.trans (belowK_b (w := w) (Nat.le_refl _) W D _ _ (by have := H2.out.1.bl.size; omega) hK rfl rfl)
set_option maxRecDepth 100000 in
set_option maxHeartbeats 4000000 in
theorem parting_bad (hS : SortOk 1000000) (n k s p q : Int) (v : Value) (es : List Sy.Ed) (a : Addr) (w : World) (hA : Sent w 14 a) (hv : BEdges.Has w v es) (hm : es.length ≤ 100000) (hq : Sy.right n k s es = false) :
    Calls Tryz.prog 82 #[sysV n k s v, .int .i64 p, .int .i64 q] w fun r w' => ∃ T u, r = .returned (.tuple #[.int .i64 0, .iface T u]) ∧ Chain w' 0 0 a [sysB] (.iface T u) ∧ Below w.heap.size w w' := by
  have hv0 := hv
  obtain ⟨ao, cap, rfl, _⟩ := hv0
  obtain ⟨L, hL⟩ : ∃ L, L = es.length := ⟨_, rfl⟩
  obtain ⟨w1, hw1⟩ : ∃ w1, w1 = pgW w n k s p q ao L cap := ⟨_, rfl⟩
  have hg1 : PgAt w w1 n k s p q ao L cap := by rw [hw1]; exact pg_new _ _ _ _ _ _ _ _ _
  have hO := roundsOf_bad hS n k s _ es a w1 (hA.below hg1.bl) (hv.below hg1.bl) hm hq
  rw [← hL] at hO ⊢
  unfold sysV at hO ⊢
  have H1 : Hid _ := And.intro hw1 (And.intro hg1 hO)
  obtain ⟨x0, x1, x2, x3⟩ := four_cells hg1.bs
  unfold pgW at H1
  clear hA hv hm hq hw1 hg1 hO hL
  go_enter Tryz.func82, Tryz.ntmps82
  go_upto_region 1 with fail
  rw [← H1.out.1]
  go_wp2_with fail
  refine Calls.mono H1.out.2.2 ?_
  rintro r w2 ⟨T, u, rfl, hC2, hb2⟩
  have hg := H1.out.2.1.below hb2
  have d3 : w2.cell? ⟨w.heap.size + 1 + 1 + 1, 0, none⟩ = some (.int .i64 0) := hg.br.cell
  have d4 : w2.cell? ⟨w.heap.size + 1 + 1 + 1 + 1, 0, none⟩ = some .nilIface := hg.be.cell
  have f3 : w2.frozen? ⟨w.heap.size + 1 + 1 + 1, 0, none⟩ = false := hg.br.frozen
  have f4 : w2.frozen? ⟨w.heap.size + 1 + 1 + 1 + 1, 0, none⟩ = false := hg.be.frozen
  have H2 : Hid _ := And.intro hg (And.intro hC2 hb2)
  clear hg hC2 hb2 x0 x1 x2 x3
  go_wp2_with fail
  obtain ⟨W9, hW9⟩ : ∃ W9, W9 = (w2.setCell ⟨w.heap.size + 1 + 1 + 1, 0, none⟩ (.int .i64 0)).setCell ⟨w.heap.size + 1 + 1 + 1 + 1, 0, none⟩ (.iface T u) := ⟨_, rfl⟩
  obtain ⟨k5, k6, hB9⟩ := pg_ret H2.out.1 (.int .i64 0) (.iface T u)
  have hC9 : Chain W9 0 0 a [sysB] (.iface T u) := by
    rw [hW9]
    have hbe : (w2.setCell ⟨w.heap.size + 1 + 1 + 1, 0, none⟩ (.int .i64 0)).heap[w.heap.size + 1 + 1 + 1 + 1]? = _ := (setCell_other _ (by omega)).trans H2.out.1.be
    exact (H2.out.2.1.set H2.out.1.br (by decide)).set hbe (by decide)
  rw [← hW9] at k5 k6 hB9 ⊢
  refine bodyPost_ret (v := .tuple #[.int .i64 0, .iface T u]) ?_ rfl ⟨_, _, rfl, hC9, hB9⟩
  simp [results, Tryz.results82, go_sem, k5, k6]
set_option maxRecDepth 100000 in
set_option maxHeartbeats 4000000 in
theorem parting_idx (hS : SortOk 1000000) (m : Nat) (k s p q : Int) (v : Value) (es : List Sy.Ed) (a aI : Addr) (w : World) (hA : Sent w 14 a) (hI : Sent w 3 aI) (hv : BEdges.Has w v es) (hm : es.length ≤ 100000) (hq : Sy.right m k s es = true) (hno : min p q < 0 ∨ (m : Int) ≤ max p q) :
    Calls Tryz.prog 82 #[sysV m k s v, .int .i64 p, .int .i64 q] w fun r w' => r = .returned (.tuple #[.int .i64 0, .iface 305 (.pointer (some aI))]) ∧ Below w.heap.size w w' := by
  have hv0 := hv
  obtain ⟨ao, cap, rfl, _⟩ := hv0
  obtain ⟨L, hL⟩ : ∃ L, L = es.length := ⟨_, rfl⟩
  obtain ⟨w1, hw1⟩ : ∃ w1, w1 = pgW w m k s p q ao L cap := ⟨_, rfl⟩
  have hg1 : PgAt w w1 m k s p q ao L cap := by rw [hw1]; exact pg_new _ _ _ _ _ _ _ _ _
  have hO := roundsOf_ok hS m k s _ es a w1 (hA.below hg1.bl) (hv.below hg1.bl) hm hq
  rw [← hL] at hO ⊢
  unfold sysV at hO ⊢
  have hlt : 3 < w.heap.size := World.block_lt_of_cell? w _ hI.1
  have nn1 : ¬ 3 = w.heap.size + 1 + 1 + 1 := by omega
  have nn2 : ¬ w.heap.size + 1 + 1 + 1 = 3 := by omega
  have nn3 : ¬ 3 = w.heap.size + 1 + 1 + 1 + 1 := by omega
  have nn4 : ¬ w.heap.size + 1 + 1 + 1 + 1 = 3 := by omega
  have H1 : Hid _ := And.intro hw1 (And.intro hg1 (And.intro hO hI))
  obtain ⟨x0, x1, x2, x3⟩ := four_cells hg1.bs
  unfold pgW at H1
  clear hA hv hm hq hw1 hg1 hO hL hI
  go_enter Tryz.func82, Tryz.ntmps82
  go_upto_region 1 with fail
  rw [← H1.out.1]
  go_wp2_with fail
  refine Calls.mono H1.out.2.2.1 ?_
  rintro r w2 ⟨b1, b2, gs, rfl, hO2⟩
  unfold roundsV
  have hg := H1.out.2.1.below hO2.bl
  have c1 := hg.bp.cell
  have c2 : w2.cell? ⟨w.heap.size + 1 + 1, 0, none⟩ = some (.int .i64 q) := hg.bq.cell
  obtain ⟨y0, y1, y2, y3⟩ := four_cells hg.bs
  have d3 : w2.cell? ⟨w.heap.size + 1 + 1 + 1, 0, none⟩ = some (.int .i64 0) := hg.br.cell
  have d4 : w2.cell? ⟨w.heap.size + 1 + 1 + 1 + 1, 0, none⟩ = some .nilIface := hg.be.cell
  have f3 : w2.frozen? ⟨w.heap.size + 1 + 1 + 1, 0, none⟩ = false := hg.br.frozen
  have f4 : w2.frozen? ⟨w.heap.size + 1 + 1 + 1 + 1, 0, none⟩ = false := hg.be.frozen
  have hsI := (H1.out.2.2.2.below hg.bl).1
  obtain ⟨k5, k6, hB9⟩ := pg_ret hg (.int .i64 0) (.iface 305 (.pointer (some aI)))
  have H2 : Hid _ := And.intro k5 (And.intro k6 hB9)
  clear hg hO2 x0 x1 x2 x3 k5 k6 hB9
  by_cases hlo : min p q < 0
  · have g5 : decide (min p q < 0) = true := by simpa using hlo
    go_wp2_with fail
    go_region
    all_goals go_wp2_with fail
    all_goals
      refine bodyPost_ret (v := .tuple #[.int .i64 0, .iface 305 (.pointer (some aI))]) ?_ rfl ⟨rfl, H2.out.2.2.drew⟩
      simp [results, Tryz.results82, go_sem, H2.out.1, H2.out.2.1]
  · have g5 : decide (min p q < 0) = false := by simpa using hlo
    have g6 : (m : Int) ≤ max p q := by omega
    clear hno
    go_wp2_with fail
    go_region
    all_goals go_wp2_with fail
    all_goals
      refine bodyPost_ret (v := .tuple #[.int .i64 0, .iface 305 (.pointer (some aI))]) ?_ rfl ⟨rfl, H2.out.2.2.drew⟩
      simp [results, Tryz.results82, go_sem, H2.out.1, H2.out.2.1]
end Go.Proofs.YtpmanmoljlhogaaGreatDoor
/- Contract of the program's Rank. -/
namespace Go.Proofs.YtpmanmoljlhogaaGreatDoor
open Go.RowKit Go.Maps
attribute [local go_sem ↓] Go.wp_at_zero Go.wp_at_succ
theorem Tryz.eqNilErr5 (v : Value) (w : World) : (binOp BinOp.eql 46 .nilIface (.iface 305 v)).run Tryz.prog w = .ok (.bool false) w := by kernel_rfl
theorem is_nil5 (v : Value) (w : World) : Calls Tryz.prog 83 #[.nilIface, .iface 305 v] w fun e w' => e = .returned (.bool false) ∧ w' = w := by
  have hq := Tryz.eqNilErr5 v
  go_enter Tryz.func83, Tryz.ntmps83
  go_wp2
  go_ret
  exact ⟨rfl, rfl⟩
/-- The two errors that Rank of right systems and states asks for. -/
structure ErR (w : World) (e : Nat → Addr) : Prop where
  s14 : 14 ≤ 19 → Sent w 14 (e 14)
  s18 : 18 ≤ 19 → Sent w 0 (e 18)
theorem ErR.below {w w' : World} {e : Nat → Addr} (h : ErR w e) (hb : Below w.heap.size w w') : ErR w' e := ⟨fun hm => (h.s14 hm).below hb, fun hm => (h.s18 hm).below hb⟩
theorem Er.toR {w : World} {e : Nat → Addr} (h : Er 19 w e) : ErR w e := ⟨h.s14, h.s18⟩
theorem rankG_first {m : Nat} {out : Nat → List Ro.St} {p q : Nat} {j : Nat} : ∀ (f k : Nat), k ≤ j → j < k + f → (Ro.rnd m out j)[p]? ≠ (Ro.rnd m out j)[q]? → (∀ i, i < j → (Ro.rnd m out i)[p]? = (Ro.rnd m out i)[q]?) → Ro.rankG m out p q k f = (j : Int)
  | 0, k, h1, h2, _, _ => by omega
  | f + 1, k, h1, h2, h3, h4 => by
    unfold Ro.rankG
    rcases Nat.lt_or_ge k j with h | h
    · rw [if_pos (h4 k h)]
      exact rankG_first f (k + 1) (by omega) (by omega) h3 h4
    · obtain rfl : k = j := by omega
      rw [if_neg h3]
theorem rankG_none {m : Nat} {out : Nat → List Ro.St} {p q : Nat} : ∀ (f k : Nat), (∀ i, k ≤ i → i < k + f → (Ro.rnd m out i)[p]? = (Ro.rnd m out i)[q]?) → Ro.rankG m out p q k f = -1
  | 0, k, _ => rfl
  | f + 1, k, h => by
    unfold Ro.rankG
    rw [if_pos (h k (by omega) (by omega))]
    exact rankG_none f (k + 1) fun i h1 h2 => h i (by omega) (by omega)
set_option maxRecDepth 100000 in
set_option maxHeartbeats 4000000 in
theorem rank_ok (hS : SortOk 1000000) (m p q : Nat) (k s : Int) (v : Value) (es : List Sy.Ed) (e : Nat → Addr) (w : World) (hE : ErR w e) (hP : Pow w) (hv : BEdges.Has w v es) (hm : es.length ≤ 100000) (hq : Sy.right m k s es = true) (hp : p < m) (hq2 : q < m) :
    Calls Tryz.prog 17 #[sysV m k s v, .int .i64 p, .int .i64 q] w fun r w' => ∃ R, Ro.Last m (outOf m es) R ∧ r = .returned (.tuple #[.int .i64 (Ro.rank m (outOf m es) R p q), .nilIface]) ∧ Below w.heap.size w w' := by
  have hv0 := hv
  obtain ⟨ao, cap, rfl, _⟩ := hv0
  obtain ⟨L, hL⟩ : ∃ L, L = es.length := ⟨_, rfl⟩
  obtain ⟨w1, hw1⟩ : ∃ w1, w1 = w.alloc (.cells #[.int .i64 m, .int .i64 k, .int .i64 s, .slice ao L cap] 24) := ⟨_, rfl⟩
  have hb1 : Below w.heap.size w w1 := by rw [hw1]; exact (Below.refl _ _).alloc (Nat.le_refl _) _
  have hg1 : w1.heap[w.heap.size]? = some (.cells #[.int .i64 m, .int .i64 k, .int .i64 s, .slice ao L cap] 24 (0, 0)) := by rw [hw1]; exact heap_alloc_new w _
  have hE1 := hE.below hb1
  have hN := parting_ok hS m p q k s _ es (e 14) (e 18) w1 (hE1.s14 (by decide)) (hE1.s18 (by decide)) (hP.below hb1) (hv.below hb1) hm hq hp hq2
  rw [← hL] at hN ⊢
  unfold sysV at hN ⊢
  have H1 : Hid _ := And.intro hw1 (And.intro hb1 (And.intro hN hE))
  obtain ⟨x0, x1, x2, x3⟩ := four_cells hg1
  clear hE hE1 hP hv hm hq hw1 hb1 hg1 hN hL
  go_enter Tryz.func17, Tryz.ntmps17
  go_upto_region 1 with fail
  rw [← H1.out.1]
  go_wp2_with fail
  refine Calls.mono H1.out.2.2.1 ?_
  rintro r w2 ⟨R, hR, hb2, (⟨j, hj, rfl, hne, hall⟩ | ⟨rfl, hall⟩)⟩
  · have hb02 := bel6 hb2 H1.out.2.1
    have hs := (H1.out.2.2.2.below hb02).s18 (by decide)
    have hg := hs.1
    have H2 : Hid _ := And.intro hb02 (And.intro hR (rankG_first (R + 1) 0 (Nat.zero_le _) (by omega) hne hall))
    clear hb2 hR hne hall hb02 hs x0 x1 x2 x3
    go_wp2_with fail
    refine Calls.mono (is_nil5 _ _) ?_
    rintro r w3 ⟨rfl, hw⟩; obtain rfl := hw.symm; clear hw
    go_wp2_with fail
    go_ret2
    refine ⟨R, H2.out.2.1, ?_, H2.out.1⟩
    unfold Ro.rank
    rw [H2.out.2.2]
    rfl
  · have hb02 := bel6 hb2 H1.out.2.1
    have hs := (H1.out.2.2.2.below hb02).s18 (by decide)
    obtain ⟨hg, ca, ta, hba⟩ := hs
    have hI := is_chain (.iface 305 (.pointer (some (e 18)))) [] 0 0 (e 18) (e 18) ca ca ta ta w2 rfl hba hba
    rw [decide_eq_true rfl] at hI
    have H2 : Hid _ := And.intro hb02 (And.intro hR (And.intro hI (rankG_none (m := m) (out := outOf m es) (p := p) (q := q) (R + 1) 0 fun i _ hi => hall i (by omega))))
    clear hb2 hR hall hb02 hba hI x0 x1 x2 x3
    go_wp2_with fail
    refine Calls.mono H2.out.2.2.1 ?_
    rintro r w3 ⟨rfl, hw⟩; obtain rfl := hw.symm; clear hw
    go_wp2_with fail
    go_ret2
    refine ⟨R, H2.out.2.1, ?_, H2.out.1⟩
    unfold Ro.rank
    rw [H2.out.2.2.2]
    rfl
theorem rank_err (k : Nat) (T : TypeId) (u : Value) (ls : List ByteArray) (e : Nat → Addr) (w : World) (hE : Er 19 w e) (hk : 1 ≤ k ∧ k < 18) (hC : Chain w 0 0 (e k) ls (.iface T u)) (hks : ∃ G, Sent w G (e k)) :
    Calls Tryz.prog 83 #[.iface T u, .iface 305 (.pointer (some (e 18)))] w fun r w' => r = .returned (.bool false) ∧ w' = w := by
  obtain ⟨G, _, ca, ta, hba⟩ := hks
  obtain ⟨_, cb, tb, hbb⟩ := hE.s18 (by decide)
  have hI := is_chain (.iface T u) ls 0 0 (e k) (e 18) ca cb ta tb w hC hba hbb
  rw [decide_eq_false (fun h => hE.ne k 18 hk.1 hk.2 (by decide) h.symm)] at hI
  exact hI
set_option maxRecDepth 100000 in
set_option maxHeartbeats 4000000 in
theorem rank_bad (hS : SortOk 1000000) (n k s p q : Int) (v : Value) (es : List Sy.Ed) (e : Nat → Addr) (w : World) (hE : Er 19 w e) (hv : BEdges.Has w v es) (hm : es.length ≤ 100000) (hq : Sy.right n k s es = false) :
    Calls Tryz.prog 17 #[sysV n k s v, .int .i64 p, .int .i64 q] w fun r w' => ∃ b, r = .returned (.tuple #[.int .i64 0, .iface 76 (.pointer (some ⟨b, 0, none⟩))]) ∧ Chain w' 0 0 (e 14) [rndB, sysB] (.iface 76 (.pointer (some ⟨b, 0, none⟩))) ∧ Below w.heap.size w w' := by
  have hv0 := hv
  obtain ⟨ao, cap, rfl, _⟩ := hv0
  obtain ⟨L, hL⟩ : ∃ L, L = es.length := ⟨_, rfl⟩
  obtain ⟨w1, hw1⟩ : ∃ w1, w1 = w.alloc (.cells #[.int .i64 n, .int .i64 k, .int .i64 s, .slice ao L cap] 24) := ⟨_, rfl⟩
  have hb1 : Below w.heap.size w w1 := by rw [hw1]; exact (Below.refl _ _).alloc (Nat.le_refl _) _
  have hg1 : w1.heap[w.heap.size]? = some (.cells #[.int .i64 n, .int .i64 k, .int .i64 s, .slice ao L cap] 24 (0, 0)) := by rw [hw1]; exact heap_alloc_new w _
  have hN := parting_bad hS n k s p q _ es (e 14) w1 ((hE.below hb1).s14 (by decide)) (hv.below hb1) hm hq
  rw [← hL] at hN ⊢
  unfold sysV at hN ⊢
  have H1 : Hid _ := And.intro hw1 (And.intro hb1 (And.intro hN hE))
  obtain ⟨x0, x1, x2, x3⟩ := four_cells hg1
  clear hE hv hm hq hw1 hb1 hg1 hN hL
  go_enter Tryz.func17, Tryz.ntmps17
  go_upto_region 1 with fail
  rw [← H1.out.1]
  go_wp2_with fail
  refine Calls.mono H1.out.2.2.1 ?_
  rintro r w2 ⟨T, u, rfl, hC, hb2⟩
  have hE2 := H1.out.2.2.2.below (bel6 hb2 H1.out.2.1)
  have hI := rank_err 14 T u _ e w2 hE2 (by decide) hC ⟨_, hE2.s14 (by decide)⟩
  have hFt := rfault_any T u w2 (e 14) _ hC
  have hg := (hE2.s18 (by decide)).1
  have H2 : Hid _ := And.intro hFt (And.intro (bel6 hb2 H1.out.2.1) hI)
  clear hC hb2 hFt hE2 hI x0 x1 x2 x3
  go_wp2_with fail
  refine Calls.mono H2.out.2.2 ?_
  rintro r w3 ⟨rfl, hw⟩; obtain rfl := hw.symm; clear hw
  go_wp2_with fail
  refine Calls.mono H2.out.1 ?_
  rintro r w4 ⟨b, rfl, hC4, hb4⟩
  have H4 : Hid _ := And.intro hC4 (bel6 hb4 H2.out.2.1)
  clear hC4 hb4
  go_wp2_with fail
  go_ret2
  exact ⟨_, rfl, H4.out.1, H4.out.2⟩
set_option maxRecDepth 100000 in
set_option maxHeartbeats 4000000 in
theorem rank_idx (hS : SortOk 1000000) (m : Nat) (k s p q : Int) (v : Value) (es : List Sy.Ed) (e : Nat → Addr) (w : World) (hE : Er 19 w e) (hv : BEdges.Has w v es) (hm : es.length ≤ 100000) (hq : Sy.right m k s es = true) (hno : min p q < 0 ∨ (m : Int) ≤ max p q) :
    Calls Tryz.prog 17 #[sysV m k s v, .int .i64 p, .int .i64 q] w fun r w' => ∃ b, r = .returned (.tuple #[.int .i64 0, .iface 76 (.pointer (some ⟨b, 0, none⟩))]) ∧ Chain w' 0 0 (e 3) [rndB] (.iface 76 (.pointer (some ⟨b, 0, none⟩))) ∧ Below w.heap.size w w' := by
  have hv0 := hv
  obtain ⟨ao, cap, rfl, _⟩ := hv0
  obtain ⟨L, hL⟩ : ∃ L, L = es.length := ⟨_, rfl⟩
  obtain ⟨w1, hw1⟩ : ∃ w1, w1 = w.alloc (.cells #[.int .i64 m, .int .i64 k, .int .i64 s, .slice ao L cap] 24) := ⟨_, rfl⟩
  have hb1 : Below w.heap.size w w1 := by rw [hw1]; exact (Below.refl _ _).alloc (Nat.le_refl _) _
  have hg1 : w1.heap[w.heap.size]? = some (.cells #[.int .i64 m, .int .i64 k, .int .i64 s, .slice ao L cap] 24 (0, 0)) := by rw [hw1]; exact heap_alloc_new w _
  have hN := parting_idx hS m k s p q _ es (e 14) (e 3) w1 ((hE.below hb1).s14 (by decide)) ((hE.below hb1).s3 (by decide)) (hv.below hb1) hm hq hno
  rw [← hL] at hN ⊢
  unfold sysV at hN ⊢
  have H1 : Hid _ := And.intro hw1 (And.intro hb1 (And.intro hN hE))
  obtain ⟨x0, x1, x2, x3⟩ := four_cells hg1
  clear hE hv hm hq hw1 hb1 hg1 hN hL hno
  go_enter Tryz.func17, Tryz.ntmps17
  go_upto_region 1 with fail
  rw [← H1.out.1]
  go_wp2_with fail
  refine Calls.mono H1.out.2.2.1 ?_
  rintro r w2 ⟨rfl, hb2⟩
  have hE2 := H1.out.2.2.2.below (bel6 hb2 H1.out.2.1)
  have hC : Chain w2 0 0 (e 3) [] (.iface 305 (.pointer (some (e 3)))) := rfl
  have hI := rank_err 3 _ _ _ e w2 hE2 (by decide) hC ⟨_, hE2.s3 (by decide)⟩
  have hFt := rfault_any _ _ w2 (e 3) _ hC
  have hg := (hE2.s18 (by decide)).1
  have H2 : Hid _ := And.intro hFt (And.intro (bel6 hb2 H1.out.2.1) hI)
  clear hC hb2 hFt hE2 hI x0 x1 x2 x3
  go_wp2_with fail
  refine Calls.mono H2.out.2.2 ?_
  rintro r w3 ⟨rfl, hw⟩; obtain rfl := hw.symm; clear hw
  go_wp2_with fail
  refine Calls.mono H2.out.1 ?_
  rintro r w4 ⟨b, rfl, hC4, hb4⟩
  have H4 : Hid _ := And.intro hC4 (bel6 hb4 H2.out.2.1)
  clear hC4 hb4
  go_wp2_with fail
  go_ret2
  exact ⟨_, rfl, H4.out.1, H4.out.2⟩
end Go.Proofs.YtpmanmoljlhogaaGreatDoor
/- Contract of the document's Rank. -/
namespace Go.Proofs.YtpmanmoljlhogaaGreatDoor
open Go.RowKit Go.Maps
attribute [local go_sem ↓] Go.wp_at_zero Go.wp_at_succ
theorem OwnRs.cell {W : World} {B m g n cap : Nat} {xs : List Rd} (h : OwnRs W B m (.slice (some ⟨g, 0, none⟩) n cap) xs) {j : Nat} {x : Rd} (hj : xs[j]? = some x) : W.cell? ⟨g, j, none⟩ = some (hdr m x) := by
  have hn : n = xs.length := by
    rcases h.2 with ⟨h1, _⟩ | ⟨g', cap', cur, h1, _⟩
    · cases h1
    · injection h1
  subst hn
  have h1 : W.ownsRow B 57 1 (.slice (some ⟨g, 0, none⟩) xs.length cap) xs.length (xs.map (hdr m)) := h
  rw [h1.cellAt j (by have := (List.getElem?_eq_some_iff.1 hj).1; omega)]
  simp [hj]
set_option maxRecDepth 100000 in
set_option maxHeartbeats 4000000 in
theorem docRank_any (m p q R : Nat) (out : Nat → List Ro.St) (u : Value) (xs : List Rd) (B B' : Nat) (w : World) (hm : m ≤ 1000) (hR : Ro.Last m out R) (hx : xs.length = R + 1) (hO : OwnRs w B m u xs) (hW : RwAt w B' m out xs) (hp : p < m) (hq : q < m) :
    Calls Tryz.prog 19 #[u, .int .i64 p, .int .i64 q] w fun r w' => r = .returned (.int .i64 (Ro.rank m out R p q)) ∧ Below w.heap.size w w' := by
  obtain ⟨g, cap, rfl⟩ := ownsRow_succ (show w.ownsRow B 57 1 u (R + 1) (xs.map (hdr m)) by rw [← hx]; exact hO)
  have hRm := hR.lt
  have hR1 : R ≤ 1000 := by omega
  have HH : Hid _ := And.intro hO (And.intro hW hx)
  clear hO hW hx hR hRm
  go_enter Tryz.func19, Tryz.ntmps19
  go_wp2_with fail
  go_loopg [7] (R + 1) (fun c kv wr => ∃ (k d : Nat), c = R + 1 - k ∧ k ≤ R + 1 ∧ kv = .int .i64 k ∧ wr = w.drewN d ∧ ∀ i, i < k → (Ro.rnd m out i)[p]? = (Ro.rnd m out i)[q]?)
  case atStart => exact ⟨0, 0, rfl, Nat.zero_le _, rfl, rfl, fun i hi => by omega⟩
  case round =>
    obtain ⟨k, d, rfl, hk, rfl, rfl, hall⟩ := hrel
    have HA : Hid (∀ i, i < k → (Ro.rnd m out i)[p]? = (Ro.rnd m out i)[q]?) := hall
    clear hall
    by_cases hlt : k < R + 1
    · obtain ⟨⟨n0, b⟩, hxk⟩ : ∃ x, xs[k]? = some x := ⟨xs[k]'(by have := HH.out.2.2; omega), List.getElem?_eq_getElem _⟩
      have c1 := HH.out.1.cell hxk
      unfold hdr at c1
      obtain ⟨_, _, cs, hcs, hcl⟩ := HH.out.2.1.row k _ hxk
      simp only at hcs c1
      have hl := Ro.rnd_len m out k
      obtain ⟨cp, hcp⟩ : ∃ cp, (Ro.rnd m out k)[p]? = some cp := ⟨_, List.getElem?_eq_getElem (by omega)⟩
      obtain ⟨cq, hcq⟩ : ∃ cq, (Ro.rnd m out k)[q]? = some cq := ⟨_, List.getElem?_eq_getElem (by omega)⟩
      have c2 : w.cell? ⟨b, p, none⟩ = some (.int .i64 cp) := cell0_of hcs (by rw [← Array.getElem?_toList, hcl]; simp [natC, hcp])
      have c3 : w.cell? ⟨b, q, none⟩ = some (.int .i64 cq) := cell0_of hcs (by rw [← Array.getElem?_toList, hcl]; simp [natC, hcq])
      have q0 : (0 : Int) ≤ (k : Int) := by omega
      have q1 : (k : Int) < ((R + 1 : Nat) : Int) := by omega
      have q1' : (k : Int) < (R : Int) + 1 := by omega
      have q2 : (0 : Int) ≤ (p : Int) := by omega
      have q3 : (p : Int) < (m : Int) := by omega
      have q4 : (0 : Int) ≤ (q : Int) := by omega
      have q5 : (q : Int) < (m : Int) := by omega
      have HK : Hid _ := And.intro hcp hcq
      clear hcp hcq hcs hcl hl hxk
      by_cases hne : cp = cq
      · have n1 : ((cp : Int) != (cq : Int)) = false := by simp [hne]
        have HN : Hid _ := hne
        clear hne
        go_wp2_with fail
        go_quiet (fail)
        rename Nat => nq
        rw [World.drewN_drewN]
        go_wp2_with fail
        go_roundg (R + 1 - (k + 1))
        case measure => omega
        case rel => exact ⟨k + 1, _, rfl, by omega, by go_num, rfl, fun i hi => by
          rcases Nat.lt_or_ge i k with h1 | h1
          · exact HA.out i h1
          · obtain rfl : i = k := by omega
            rw [HK.out.1, HK.out.2, HN.out]⟩
      · have n1 : ((cp : Int) != (cq : Int)) = true := by simp; omega
        have HN : Hid _ := hne
        clear hne
        go_wp2_with fail
        go_quiet (fail)
        go_wp2_with fail
        go_ret
        refine ⟨?_, by first | exact below_drewN (below_drewN (Below.refl _ _) _) _ | exact below_drewN (Below.refl _ _) _⟩
        unfold Ro.rank
        rw [rankG_first (j := k) (R + 1) 0 (Nat.zero_le _) (by omega) (by rw [HK.out.1, HK.out.2]; exact fun e => HN.out (Option.some.inj e)) HA.out]
        rfl
    · obtain rfl : k = R + 1 := by omega
      have q1 : ¬ ((R + 1 : Nat) : Int) < ((R + 1 : Nat) : Int) := by omega
      go_wp2_with fail
      go_ret
      refine ⟨?_, below_drewN (Below.refl _ _) _⟩
      unfold Ro.rank
      rw [rankG_none (R + 1) 0 fun i _ hi => HA.out i (by omega)]
      rfl
end Go.Proofs.YtpmanmoljlhogaaGreatDoor
/- Contract of the law's alive of chapter 10: first calls whose answers the document fixes. -/
namespace Go.Proofs.YtpmanmoljlhogaaGreatDoor
open Go.RowKit Go.Maps
attribute [local go_sem ↓] Go.wp_at_zero Go.wp_at_succ
def esT : List Sy.Ed := [(0, 1, 1), (1, 1, 2), (3, 1, 2)]
theorem esT_right : Sy.right ((4 : Nat) : Int) 2 0 esT = true := by decide
theorem esT_last : Ro.Last 4 (outOf 4 esT) 2 := by
  refine ⟨by decide, fun j hj => ?_⟩
  match j, hj with
  | 0, _ => decide
  | 1, _ => decide
theorem esT_rank : Ro.rank 4 (outOf 4 esT) 2 0 1 = 2 := by decide
theorem esT_has (w : World) : BEdges.Has (w.alloc (.cells #[.int .i64 0, .int .i64 1, .int .i64 1, .int .i64 1, .int .i64 1, .int .i64 2, .int .i64 3, .int .i64 1, .int .i64 2] 66)) (.slice (some ⟨w.heap.size, 0, none⟩) 3 3) esT := by
  refine ⟨some ⟨w.heap.size, 0, none⟩, 3, rfl, fun j u hj => ⟨_, rfl, ?_⟩⟩
  rw [addz]
  refine cell0_of (heap_alloc_new w _) ?_
  rw [← Array.getElem?_toList]
  exact hj
def PAl (w : World) : Prop := ∀ W, Below w.heap.size w W → Calls Tryz.prog 9 #[] W fun r w' => r = .returned (.bool true) ∧ Below W.heap.size W w'
set_option maxRecDepth 100000 in
set_option maxHeartbeats 4000000 in
theorem pAl (hS : SortOk 1000000) (e : Nat → Addr) (w : World) (hE0 : ErR w e) (hP0 : Pow w) : PAl w := fun W hb => by
  have hE := hE0.below hb
  have hP := hP0.below hb
  clear hE0 hP0 hb
  obtain ⟨w1, hw1⟩ : ∃ w1, w1 = W.alloc (.cells #[.int .i64 0, .int .i64 1, .int .i64 1, .int .i64 1, .int .i64 1, .int .i64 2, .int .i64 3, .int .i64 1, .int .i64 2] 66) := ⟨_, rfl⟩
  have hb1 : Below W.heap.size W w1 := by rw [hw1]; exact (Below.refl _ _).alloc (Nat.le_refl _) _
  have hv := esT_has W
  rw [← hw1] at hv
  obtain ⟨w2, hw2⟩ : ∃ w2, w2 = w1.alloc (.cells #[.int .i64 4, .int .i64 2, .int .i64 0, .slice (some ⟨W.heap.size, 0, none⟩) 3 3] 24) := ⟨_, rfl⟩
  have hb2 : Below w1.heap.size w1 w2 := by rw [hw2]; exact (Below.refl _ _).alloc (Nat.le_refl _) _
  have hg2 : w2.heap[w1.heap.size]? = some (.cells #[.int .i64 4, .int .i64 2, .int .i64 0, .slice (some ⟨W.heap.size, 0, none⟩) 3 3] 24 (0, 0)) := by rw [hw2]; exact heap_alloc_new w1 _
  have hbW := bel6 hb2 hb1
  have hAll := all_ok hS 4 2 0 (.slice (some ⟨W.heap.size, 0, none⟩) 3 3) esT (e 14) w2 ((hE.below hbW).s14 (by decide)) (hP.below hbW) (hv.below hb2) (by decide) esT_right
  unfold sysV at hAll
  have hsz : w1.heap.size = W.heap.size + 1 := by rw [hw1]; simp
  have H1 : Hid _ := And.intro hw2 (And.intro hw1 (And.intro hg2 (And.intro hAll (And.intro hbW (And.intro hE (And.intro hP (hv.below hb2)))))))
  obtain ⟨x0, x1, x2, x3⟩ := four_cells hg2
  clear hw1 hb1 hv hw2 hb2 hg2 hbW hAll hE hP
  go_enter Tryz.func9, Tryz.ntmps9
  go_upto_region 2 with fail
  rw [← H1.out.2.1, ← H1.out.1]
  rw [hsz] at x0 x1 x2 x3
  go_wp2_with fail
  refine Calls.mono H1.out.2.2.2.1 ?_
  rintro r w3 ⟨u3, xs, R, rfl, hR, hxl, hO3, hRw, hb3⟩
  obtain rfl : R = 2 := hR.unique esT_last
  obtain ⟨a3, c3, hu3⟩ := row_shape hO3
  rw [hxl] at hu3
  subst hu3
  have hbW3 := bel6 hb3 H1.out.2.2.2.2.1
  have hRk := rank_ok hS 4 0 1 2 0 (.slice (some ⟨W.heap.size, 0, none⟩) 3 3) esT e w3 (H1.out.2.2.2.2.2.1.below hbW3) (H1.out.2.2.2.2.2.2.1.below hbW3) (H1.out.2.2.2.2.2.2.2.below hb3) (by decide) esT_right (by decide) (by decide)
  unfold sysV at hRk
  have hg3 := res_up6 hb3 H1.out.2.2.1
  rw [hsz] at hg3
  have H3 : Hid _ := And.intro hRk hbW3
  clear x0 x1 x2 x3 hR hxl hO3 hRw hb3 hbW3 hRk
  obtain ⟨x0, x1, x2, x3⟩ := four_cells hg3
  clear hg3
  go_wp2_with fail
  refine Calls.mono H3.out.1 ?_
  rintro r w4 ⟨R, hR, rfl, hb4⟩
  obtain rfl : R = 2 := hR.unique esT_last
  rw [esT_rank]
  have H4 : Hid _ := bel6 hb4 H3.out.2
  clear hR hb4 x0 x1 x2 x3
  go_wp2_with fail
  go_ret
  exact ⟨rfl, H4.out⟩
end Go.Proofs.YtpmanmoljlhogaaGreatDoor
