/- strong: contract of begin: a run without a taking, or system.Check's error. -/
import Derived.Test.YthcpliinddjkhaaGreatDoorPart0
import Derived.Test.YthcpliinddjkhaaGreatDoorPart10
import Derived.Test.YthcpliinddjkhaaGreatDoorPart13
import Derived.BigRegion
import Derived.Deep.LoopGhost
namespace Go.Proofs.YthcpliinddjkhaaGreatDoor
open Go.RowKit Go.Maps
attribute [local go_sem ↓] Go.wp_at_zero Go.wp_at_succ
theorem four_cellsB {w : World} {b : Nat} {a0 a1 a2 a3 : Value} {t : TypeId} (h : w.heap[b]? = some (.cells #[a0, a1, a2, a3] t (0, 0))) : w.cell? ⟨b, 0, none⟩ = some a0 /\ w.cell? ⟨b, 1, none⟩ = some a1 /\ w.cell? ⟨b, 2, none⟩ = some a2 /\ w.cell? ⟨b, 3, none⟩ = some a3 := ⟨cell0_of h rfl, cell0_of h rfl, cell0_of h rfl, cell0_of h rfl⟩
theorem bup {W w8 : World} {b : Nat} {o : Obj} (hb : Below W.heap.size W w8) (h : W.heap[b]? = some o) : w8.heap[b]? = some o := (hb.block b (t_lt h)).trans h
theorem kcell3B {w w' : World} {F : Nat -> Prop} {b o : Nat} {v : Value} (hk : Kept F w w') (hne : ¬ F b) (c : w.cell? ⟨b, o, none⟩ = some v) : w'.cell? ⟨b, o, none⟩ = some v := (World.cell?_of_block (a := ⟨b, o, none⟩) (hk.block b (World.block_lt_of_cell? w _ c) hne)).trans c
theorem wrap_smallB {z : Int} (h0 : -1000000000 <= z) (h1 : z <= 1000000000) : IntKind.i64.wrap z = z := by rw [IntKind.wrap_i64]; omega
theorem makeMp (w : World) : (Instr.makeMap 201 none).run Tryz.prog w = .ok (.map (some w.heap.size)) (w.alloc (.map #[] 0)) := by kernel_rfl
theorem makeHp (w : World) : (Instr.makeSlice 200 (.int .i64 1) (.int .i64 1)).run Tryz.prog w = .ok (.slice (some ⟨w.heap.size, 0, none⟩) 1 1) (w.alloc (.cells #[.slice none 0 0, .int .i64 0] 221)) := by kernel_rfl
structure BegAt (w2 w3 w6 : World) (g p mb gh r : Nat) : Prop where
 bl : Below w3.heap.size w3 w6
 box : w6.heap[r]? = some (.cells #[.pointer (some ⟨g, 0, none⟩), .pointer (some ⟨p, 0, none⟩), .slice (some ⟨gh, 0, none⟩) 1 1, .slice none 0 0, .slice none 0 0, .map (some mb), .slice none 0 0] 203 (0, 0))
 hp : w6.heap[gh]? = some (.cells #[.slice none 0 0, .int .i64 0] 221 (0, 0))
 mp : Cnt w6 mb 0 (fun _ _ _ => 0)
 lo : w3.heap.size <= mb /\ w3.heap.size <= gh /\ w3.heap.size <= r /\ w2.heap.size <= w3.heap.size
 ne : mb ≠ gh /\ mb ≠ r /\ gh ≠ r
theorem beg_at (w2 w3 : World) (g p : Nat) (hb : Below w2.heap.size w2 w3) : BegAt w2 w3 (((w3.alloc (Obj.map #[] 0)).alloc (Obj.cells #[Value.slice none 0 0, Value.int IntKind.i64 0] 221)).alloc (Obj.cells #[Value.pointer (some ⟨g, 0, none⟩), Value.pointer (some ⟨p, 0, none⟩), Value.slice (some ⟨w3.heap.size + 1, 0, none⟩) 1 1, Value.slice none 0 0, Value.slice none 0 0, Value.map (some w3.heap.size), Value.slice none 0 0] 203)) g p w3.heap.size (w3.heap.size + 1) (w3.heap.size + 1 + 1) := by
 have b1 : Below (w3.alloc (Obj.map #[] 0)).heap.size (w3.alloc (Obj.map #[] 0)) ((w3.alloc (Obj.map #[] 0)).alloc (Obj.cells #[Value.slice none 0 0, Value.int IntKind.i64 0] 221)) := (Below.refl _ _).alloc (Nat.le_refl _) _
 have h1 := heap_alloc_new (w3.alloc (Obj.map #[] 0)) (Obj.cells #[Value.slice none 0 0, Value.int IntKind.i64 0] 221)
 have e1 : (w3.alloc (Obj.map #[] 0)).heap.size = w3.heap.size + 1 := World.size_alloc _ _
 rw [e1] at h1
 obtain ⟨w5, hw5⟩ : ∃ w5, w5 = (w3.alloc (Obj.map #[] 0)).alloc (Obj.cells #[Value.slice none 0 0, Value.int IntKind.i64 0] 221) := ⟨_, rfl⟩
 have e2 : w5.heap.size = w3.heap.size + 1 + 1 := by rw [hw5, World.size_alloc, e1]
 have hb5 : Below w3.heap.size w3 w5 := by rw [hw5]; exact ((Below.refl _ _).alloc (Nat.le_refl _) _).alloc (by simp) _
 rw [<- hw5] at b1 h1 ⊢
 have hC := (Cnt.made w3).below b1
 have hb6 : Below w5.heap.size w5 (w5.alloc (Obj.cells #[Value.pointer (some ⟨g, 0, none⟩), Value.pointer (some ⟨p, 0, none⟩), Value.slice (some ⟨w3.heap.size + 1, 0, none⟩) 1 1, Value.slice none 0 0, Value.slice none 0 0, Value.map (some w3.heap.size), Value.slice none 0 0] 203)) := (Below.refl _ _).alloc (Nat.le_refl _) _
 refine ⟨hb5.trans (hb6.mono hb5.size), ?_, bup hb6 h1, hC.below hb6, ⟨Nat.le_refl _, by omega, by omega, hb.size⟩, by omega, by omega, by omega⟩
 have h2 := heap_alloc_new w5 (Obj.cells #[Value.pointer (some ⟨g, 0, none⟩), Value.pointer (some ⟨p, 0, none⟩), Value.slice (some ⟨w3.heap.size + 1, 0, none⟩) 1 1, Value.slice none 0 0, Value.slice none 0 0, Value.map (some w3.heap.size), Value.slice none 0 0] 203)
 rw [e2] at h2
 exact h2
structure BgS (w2 w3 W : World) (g p mb gh r b0 m : Nat) (vo vz : Value) : Prop where
 bl : Below w3.heap.size w3 W
 box : W.heap[r]? = some (.cells #[.pointer (some ⟨g, 0, none⟩), .pointer (some ⟨p, 0, none⟩), .slice (some ⟨gh, 0, none⟩) 1 1, vo, vz, .map (some mb), .slice none 0 0] 203 (0, 0))
 hp : W.heap[gh]? = some (.cells #[.slice (some ⟨b0, 0, none⟩) 1 1, .int .i64 (m : Int)] 221 (0, 0))
 z0 : W.heap[b0]? = some (.cells #[.int .i64 0] 3 (0, 0))
 mp : Cnt W mb 0 (fun _ _ _ => 0)
 lo : w3.heap.size <= mb /\ w3.heap.size <= gh /\ w3.heap.size <= r /\ w2.heap.size <= w3.heap.size /\ w3.heap.size <= b0
 ne : mb ≠ gh /\ mb ≠ r /\ gh ≠ r
theorem tne {w : World} {i j : Nat} {c c' : Array Value} {s t : TypeId} (hi : w.heap[i]? = some (.cells c s (0, 0))) (hj : w.heap[j]? = some (.cells c' t (0, 0))) (hne : s ≠ t) : i ≠ j := by
 rintro rfl
 rw [hi] at hj
 injection hj with hj
 injection hj with _ h2
 exact hne h2
theorem BgS.up {w2 w3 W W' : World} {g p mb gh r b0 m : Nat} {vo vz : Value} (h : BgS w2 w3 W g p mb gh r b0 m vo vz) (hb : Below W.heap.size W W') : BgS w2 w3 W' g p mb gh r b0 m vo vz :=
 ⟨h.bl.trans (hb.mono h.bl.size), bup hb h.box, bup hb h.hp, bup hb h.z0, h.mp.below hb, h.lo, h.ne⟩
theorem BgS.int {w2 w3 W : World} {g p mb gh r b0 m b k : Nat} {vo vz u : Value} {cs : Array Value} (h : BgS w2 w3 W g p mb gh r b0 m vo vz) (hb : W.heap[b]? = some (.cells cs 3 (0, 0))) : (W.setCell ⟨r, k, none⟩ u).heap[b]? = some (.cells cs 3 (0, 0)) := (set_other _ _ _ _ _ (tne hb h.box (by decide))).trans hb
theorem BgS.set3 {w2 w3 W : World} {g p mb gh r b0 m : Nat} {vo vz : Value} (h : BgS w2 w3 W g p mb gh r b0 m vo vz) (u : Value) : BgS w2 w3 (W.setCell ⟨r, 3, none⟩ u) g p mb gh r b0 m u vz :=
 ⟨h.bl.setCell h.lo.2.2.1 u, box_put h.box u, (set_other _ _ _ _ _ h.ne.2.2).trans h.hp, h.int h.z0, h.mp.at (set_other _ _ _ _ _ h.ne.2.1), h.lo, h.ne⟩
theorem BgS.set4 {w2 w3 W : World} {g p mb gh r b0 m : Nat} {vo vz : Value} (h : BgS w2 w3 W g p mb gh r b0 m vo vz) (u : Value) : BgS w2 w3 (W.setCell ⟨r, 4, none⟩ u) g p mb gh r b0 m vo u :=
 ⟨h.bl.setCell h.lo.2.2.1 u, box_put h.box u, (set_other _ _ _ _ _ h.ne.2.2).trans h.hp, h.int h.z0, h.mp.at (set_other _ _ _ _ _ h.ne.2.1), h.lo, h.ne⟩
theorem BegAt.heap {w2 w3 w7 : World} {g p mb gh r b0 m : Nat} (h : BegAt w2 w3 w7 g p mb gh r) (h0 : w7.heap[b0]? = some (.cells #[.int .i64 0] 3 (0, 0))) (hb0 : w3.heap.size <= b0) : BgS w2 w3 ((w7.setCell ⟨gh, 0, none⟩ (.slice (some ⟨b0, 0, none⟩) 1 1)).setCell ⟨gh, 1, none⟩ (.int .i64 (m : Int))) g p mb gh r b0 m (.slice none 0 0) (.slice none 0 0) := by
 have hn0 : b0 ≠ gh := tne h0 h.hp (by decide)
 refine ⟨(h.bl.setCell h.lo.2.1 _).setCell h.lo.2.1 _, ?_, box_put (box_put h.hp _) _, ?_, h.mp.at ?_, ⟨h.lo.1, h.lo.2.1, h.lo.2.2.1, h.lo.2.2.2, hb0⟩, h.ne⟩
 ·exact (set_other _ _ _ _ _ (fun e => h.ne.2.2 e.symm)).trans ((set_other _ _ _ _ _ (fun e => h.ne.2.2 e.symm)).trans h.box)
 ·exact (set_other _ _ _ _ _ hn0).trans ((set_other _ _ _ _ _ hn0).trans h0)
 ·exact (set_other _ _ _ _ _ h.ne.1).trans (set_other _ _ _ _ _ h.ne.1)
theorem BgS.run {w2 w3 W : World} {g p mb gh r b0 b1 b2 m : Nat} (h : BgS w2 w3 W g p mb gh r b0 m (.slice (some ⟨b1, 0, none⟩) 1 1) (.slice (some ⟨b2, 0, none⟩) 1 1)) (h1 : W.heap[b1]? = some (.cells #[.int .i64 0] 3 (0, 0))) (h2 : W.heap[b2]? = some (.cells #[.int .i64 (m : Int)] 3 (0, 0))) (hl : w3.heap.size <= b1 /\ w3.heap.size <= b2) (hd : b0 ≠ b1 /\ b0 ≠ b2 /\ b1 ≠ b2) : RnM W w2.heap.size r g p mb (Rv.first gh b0 b1 b2 m) :=
 RnM.first h.box h.hp h.z0 h1 h2 (by have := h.lo; omega) hd
theorem BegAt.one {w2 w3 w6 w7 : World} {g p mb gh r : Nat} (h : BegAt w2 w3 w6 g p mb gh r) {z : Int} (hw7 : w7 = (w6.alloc (.cells #[.int .i64 z] 3)).drew) : (BegAt w2 w3 w7 g p mb gh r /\ w7.heap[w6.heap.size]? = some (.cells #[.int .i64 z] 3 (0, 0))) /\ Below w6.heap.size w6 w7 /\ w7.heap.size = w6.heap.size + 1 := by
 have hb : Below w6.heap.size w6 w7 := by rw [hw7]; exact ((Below.refl _ _).alloc (Nat.le_refl _) _).drew
 refine ⟨⟨⟨h.bl.trans (hb.mono h.bl.size), bup hb h.box, bup hb h.hp, h.mp.below hb, h.lo, h.ne⟩, ?_⟩, hb, ?_⟩
 ·rw [hw7]; exact heap_alloc_new w6 _
 ·rw [hw7]; exact World.size_alloc _ _
set_option linter.unusedSimpArgs false in
set_option maxRecDepth 100000 in
set_option maxHeartbeats 8000000 in
theorem begin_ok (hS : SortOk 1000000) (m kk : Nat) (s : Int) (v : Value) (es : List Sy.Ed) (a : Addr) (w : World) (hA : Sent w 11 a) (hv : BEdges.Has w v es) (hm : es.length <= 100000) (hq : Sy.right m kk s es = true) :
 Calls Tryz.prog 137 #[sysV m kk s v] w fun e w' => ∃ (w0 : World) (r g p mb nm : Nat) (G : Gp) (x : Rv), e = .returned (.tuple #[.pointer (some ⟨r, 0, none⟩), .nilIface]) /\ RunAt w0 w' r g p mb nm G (Pst.new m) x /\ x.Zero m /\ (G.n = m /\ G.kk = kk /\ G.st = s /\ G.es = es) /\ nm <= 10000 /\ Below w.heap.size w w0 /\ Below w.heap.size w w' := by
 have hv0 := hv
 obtain ⟨ao, cap, rfl, _⟩ := hv0
 obtain ⟨L, hL⟩ : ∃ L, L = es.length := ⟨_, rfl⟩
 obtain ⟨w1, hw1⟩ : ∃ w1, w1 = w.alloc (.cells #[.int .i64 m, .int .i64 kk, .int .i64 s, .slice ao L cap] 24) := ⟨_, rfl⟩
 have hb1 : Below w.heap.size w w1 := by rw [hw1]; exact (Below.refl _ _).alloc (Nat.le_refl _) _
 have hg1 : w1.heap[w.heap.size]? = some (.cells #[.int .i64 m, .int .i64 kk, .int .i64 s, .slice ao L cap] 24 (0, 0)) := by rw [hw1]; exact heap_alloc_new w _
 have hN := new_ok hS m kk s _ es a w1 (hA.below hb1) (hv.below hb1) (by omega) hm hq
 rw [<- hL] at hN ⊢
 unfold sysV at hN ⊢
 have hm1 : m <= 1000 := by have := (right_parts hq).1; omega
 have H1 : Hid _ := And.intro hw1 (And.intro hb1 (And.intro hg1 (And.intro hN hq)))
 obtain ⟨x0, x1, x2, x3⟩ := four_cellsB hg1
 clear hA hv hm hq hw1 hb1 hg1 hN hL
 go_enter Tryz.func137, Tryz.ntmps137
 go_upto_region 1 with fail
 rw [<- H1.out.1]
 go_upto_region 4 with (go_at_call 154; refine Calls.mono H1.out.2.2.2.1 ?_; rintro r2 w2 ⟨g, bs, bb, cs, cb, m', hm', rfl, hG2, hb2⟩; obtain rfl : m = m' := (by omega); clear hm' x0 x1 x2 x3; have hg2 := bup hb2 H1.out.2.2.1; obtain ⟨x0, x1, x2, x3⟩ := four_cellsB hg2; have H2 : Hid _ := And.intro hG2 (And.intro hb2 hg2); clear hG2 hb2 hg2)
 have hNp := new_part m hm1 w2
 go_upto_region 7 with (go_at_call 155; refine Calls.mono hNp ?_; rintro r3 w3 ⟨p, c, rfl, hP3, hL3⟩; have hb3 : Below w2.heap.size w2 w3 := Arr.bl hP3; clear x0 x1 x2 x3; have hg3 := bup hb3 H2.out.2.2; obtain ⟨x0, x1, x2, x3⟩ := four_cellsB hg3; have H3 : Hid _ := And.intro hP3 (And.intro hL3 (And.intro hb3 hg3)); clear hP3 hL3 hb3 hg3)
 clear hNp
 have hmm := makeMp w3
 have hmk := makeHp (w3.alloc (.map #[] 0))
 go_upto_region 8 with fail
 obtain ⟨w6, hw6⟩ : ∃ w6, w6 = ((w3.alloc (Obj.map #[] 0)).alloc (Obj.cells #[Value.slice none 0 0, Value.int IntKind.i64 0] 221)).alloc (Obj.cells #[Value.pointer (some ⟨g, 0, none⟩), Value.pointer (some ⟨p, 0, none⟩), Value.slice (some ⟨w3.heap.size + 1, 0, none⟩) 1 1, Value.slice none 0 0, Value.slice none 0 0, Value.map (some w3.heap.size), Value.slice none 0 0] 203) := ⟨_, rfl⟩
 rw [<- hw6]
 have hB6 : BegAt w2 w3 w6 g p w3.heap.size (w3.heap.size + 1) (w3.heap.size + 1 + 1) := by rw [hw6]; exact beg_at w2 w3 g p H3.out.2.2.1
 obtain ⟨r, hr⟩ : ∃ r, r = w3.heap.size + 1 + 1 := ⟨_, rfl⟩
 rw [<- hr] at hB6 ⊢
 obtain ⟨gh, hgh⟩ : ∃ gh, gh = w3.heap.size + 1 := ⟨_, rfl⟩
 rw [<- hgh] at hB6 ⊢
 obtain ⟨mb, hmb⟩ : ∃ mb, mb = w3.heap.size := ⟨_, rfl⟩
 rw [<- hmb] at hB6 ⊢
 clear hw6 hmm hmk x0 x1 x2 x3 hr hgh hmb
 obtain ⟨x0, _⟩ := four_cellsB (bup hB6.bl H3.out.2.2.2)
 have hsr : w.heap.size < w3.heap.size := by
  have h1 := t_lt H3.out.2.2.2
  exact h1
 have hG3 : Gr w2 w1.heap.size g bs bb cs cb m (kk : Int) s es := H2.out.1
 by_cases hm0 : m = 0
 ·have q1 : ¬ (m : Int) > 0 := by omega
  obtain ⟨xT, hxT⟩ : ∃ xT, xT = Rv.bare0 gh := ⟨_, rfl⟩
  have hMT : RnM w6 w2.heap.size r g p mb xT := by rw [hxT]; exact RnM.bare0 hB6.box hB6.hp ⟨by have := hB6.lo; omega, by have := hB6.lo; omega⟩
  have hIT : RunI (Pst.new m) xT := by rw [hxT, hm0]; exact RunI.bare0
  have hZT : xT.Zero m := by rw [hxT, hm0]; exact Rv.bare0_zero gh
  have HM : Hid _ := hm0
  obtain ⟨wT, hwT⟩ : ∃ wT, wT = w6 := ⟨_, rfl⟩
  rw [<- hwT] at hMT hB6 x0 ⊢
  have HT : Hid _ := And.intro hMT (And.intro hIT (And.intro hZT (And.intro hB6.mp (And.intro hB6.bl (And.intro (Nat.le_trans hB6.lo.2.2.2 hB6.lo.1) hB6.ne)))))
  clear hB6 hm0 hMT hIT hZT hwT hxT HM
  have hGT := hG3.below (H3.out.2.2.1.trans (HT.out.2.2.2.2.1.mono H3.out.2.2.1.size))
  have hEd := edges_any wT hGT
  obtain ⟨l, hl⟩ : ∃ l, l = Sy.nf es := ⟨_, rfl⟩
  rw [<- hl] at hEd
  have hll : l.length <= 10000 := by rw [hl]; exact hGT.sizes.2
  have hlr : ∀ e ∈ l, 0 <= e.1 /\ e.1 < (m : Int) /\ 0 <= e.2.2 /\ e.2.2 < (m : Int) /\ 0 <= e.2.1 /\ e.2.1 < (kk : Int) := fun e he => by rw [hl] at he; exact (right_parts hGT.right).2.2.2.2.2 e ((Sy.nf_mem _ _).1 he)
  have hkk : (kk : Int) <= 201 := (right_parts hGT.right).2.1.2
  have HEd : Hid _ := And.intro hEd (And.intro hl (And.intro hlr hGT))
  clear hEd hl hlr hGT
  go_upto_region 11 with fail
  go_wp2_with (go_at_call 156; refine Calls.mono HEd.out.1 ?_; rintro r8 w8 ⟨u8, rfl, hO8, hb8⟩; obtain ⟨a8, k8, hv8⟩ := row_shape hO8; obtain ⟨N, hN⟩ : ∃ N, N = l.length := ⟨_, rfl⟩; rw [<- hN] at hv8; subst hv8; have H8 : Hid _ := And.intro hO8 (And.intro hb8 hN); clear hO8 hb8 hN)
  clear x0
  go_loopg [58] N (fun q iv wr => ∃ (i : Nat), q = N - i /\ i <= N /\ iv = .int .i64 i /\ Kept (fun b => b = mb) w8 wr /\ Cnt wr mb i (Sg.cnt0 (l.take i)))
  case atStart => exact ⟨0, rfl, Nat.zero_le _, rfl, Kept.refl _ _, (HT.out.2.2.2.1.below H8.out.2.1).congr fun p b h => by unfold Sg.cnt0; split <;> rfl⟩
  case round =>
   obtain ⟨i, rfl, hi, rfl, hKp, hC⟩ := hrel
   have hM8 := HT.out.1.below H8.out.2.1
   have hC8 := HT.out.2.2.2.1.below H8.out.2.1
   have hmr := hM8.mb_foot hC8
   have hNl : N <= 10000 := by rw [H8.out.2.2]; exact hll
   obtain ⟨wo, hwo⟩ : ∃ wo, wo = wr := ⟨_, rfl⟩
   rw [<- hwo] at hKp hC ⊢
   clear hwo
   by_cases hlt : i < N
   ·have p0 : (0 : Int) <= (i : Int) := by omega
    have p1 : (i : Int) < (N : Int) := by omega
    obtain ⟨⟨z1, z2, z3⟩, hz⟩ : ∃ z, l[i]? = some z := ⟨l[i]'(by rw [<- H8.out.2.2]; exact hlt), List.getElem?_eq_getElem _⟩
    have hOr : BEdges.Own wo wT.heap.size (.slice a8 N k8) l := own_up H8.out.1 hKp fun b hb e => by obtain ⟨cs, h1⟩ := row_cells H8.out.1 hb; exact hC8.ne h1 e.symm
    obtain ⟨a9, hae, e0, e1, e2⟩ := edge_at hOr.has hz
    have hzr := HEd.out.2.2.1 _ (List.mem_of_getElem? hz)
    simp only at e0 e1 e2 hzr
    obtain ⟨we, hwe⟩ : ∃ we, we = wo.alloc (.cells #[.int .i64 z1, .int .i64 z2, .int .i64 z3] 70) := ⟨_, rfl⟩
    have hbe : Below wo.heap.size wo we := by rw [hwe]; exact (Below.refl _ _).alloc (Nat.le_refl _) _
    have hxe : we.heap[wo.heap.size]? = some (.cells #[.int .i64 z1, .int .i64 z2, .int .i64 z3] 70 (0, 0)) := by rw [hwe]; exact heap_alloc_new wo _
    have hCe := hC.below hbe
    have s1 : Sml z1 := by unfold Sml; omega
    have s2 : Sml z2 := by unfold Sml; omega
    have s3 : Sml 0 := by unfold Sml; omega
    have hbd := Sg.cnt0_le (l.take i) z1 z2 0
    rw [List.length_take] at hbd
    obtain ⟨y, hy⟩ : ∃ y, y = Sg.cnt0 (l.take i) z1 z2 0 := ⟨_, rfl⟩
    rw [<- hy] at hbd
    obtain ⟨v0, sv, w1', hme, hc1, hk1, hes⟩ := (hCe.at (w' := we.drew) rfl).entry (show i < maxLen by unfold maxLen; omega) s1 s2 s3
    obtain ⟨w2', hst, hc2, hk2⟩ := hes (y + 1) (Sml.wf (by unfold Sml; omega))
    have hlk := ((hCe.at (w' := we.drew) rfl).look s1 s2 s3).1
    have hlk1 := (hc1.look s1 s2 s3).1
    rw [<- hy] at hlk hlk1
    unfold inV at hme hlk hlk1
    have pw : IntKind.i64.wrap (y + 1) = y + 1 := wrap_smallB (by omega) (by omega)
    have hmo : wo.heap.size ≠ mb := fun e => by have := hC.lt; omega
    have S0 : we.cell? ⟨r, 5, none⟩ = some (.map (some mb)) /\ we.cell? ⟨wo.heap.size, 0, none⟩ = some (.int .i64 z1) /\ we.cell? ⟨wo.heap.size, 1, none⟩ = some (.int .i64 z2) := ⟨cell_up (kcell3B hKp (fun e => hmr.2 e.symm) (seven_cells hM8.box).2.2.2.2.2.1) hbe, cell0_of hxe rfl, cell0_of hxe rfl⟩
    have S1 : w1'.cell? ⟨r, 5, none⟩ = some (.map (some mb)) /\ w1'.cell? ⟨wo.heap.size, 0, none⟩ = some (.int .i64 z1) /\ w1'.cell? ⟨wo.heap.size, 1, none⟩ = some (.int .i64 z2) := ⟨kcell3B hk1 (fun e => hmr.2 e.symm) S0.1, kcell3B hk1 hmo S0.2.1, kcell3B hk1 hmo S0.2.2⟩
    have S2 : w2'.cell? ⟨r, 5, none⟩ = some (.map (some mb)) /\ w2'.cell? ⟨wo.heap.size, 0, none⟩ = some (.int .i64 z1) /\ w2'.cell? ⟨wo.heap.size, 1, none⟩ = some (.int .i64 z2) := ⟨kcell3B hk2 (fun e => hmr.2 e.symm) S0.1, kcell3B hk2 hmo S0.2.1, kcell3B hk2 hmo S0.2.2⟩
    have hK2 : Kept (fun b => b = mb) w8 w2' := hKp.trans ((Kept.of_below hbe).trans ((Kept.of_below (Below.refl _ _).drew).trans hk2))
    have hC2 : Cnt w2' mb (i + 1) (Sg.cnt0 (l.take (i + 1))) := hc2.congr fun p b q => by
     rw [take_succ_of hz, Sg.cnt0_snoc, hy]
    have HS : Hid _ := And.intro S0 (And.intro S1 S2)
    have HZ : Hid _ := And.intro hK2 hC2
    have HWE : Hid _ := And.intro hwe trivial
    clear hKp hC hM8 hC8 hmr hOr hzr hz hbe hxe hCe s1 s2 s3 hbd hy hc1 hk1 hes hc2 hk2 hmo S0 S1 S2 hK2 hC2 hwe
    subst hae
    go_upto_region 14 with fail
    rw [<- HWE.out.1]
    refine wp_region_held_drew (S := (fun w' => w'.cell? ⟨r, 5, none⟩ = some (.map (some mb)) /\ w'.cell? ⟨wo.heap.size, 0, none⟩ = some (.int .i64 z1) /\ w'.cell? ⟨wo.heap.size, 1, none⟩ = some (.int .i64 z2))) (by kernel_rfl) ?_ (fun hHeld => ?_)
    ·exact HS.out.1
    refine tk8 0 rfl ?_; (try simp only [ty9, Act.put])
    refine tk8 1 rfl ?_; (try simp only [ty9, Act.put])
    refine tk8 2 rfl ?_; (try simp only [ty9, Act.put])
    refine tk8 3 rfl ?_; (try simp only [ty9, Act.put])
    refine tk8 4 rfl ?_; (try simp only [ty9, Act.put])
    refine tk8 5 rfl ?_; (try simp only [ty9, Act.put])
    refine tk8 6 rfl ?_; (try simp only [ty9, Act.put])
    refine tk8 7 rfl ?_; (try simp only [ty9, Act.put])
    refine tk8 8 rfl ?_; (try simp only [ty9, Act.put])
    refine wpAnyH_ready (rs := [9, 11]) (by kernel_rfl) (by simp) ?_
    refine AllReadyH.cons (o := _) rfl (fun K hK => ?_) ?_
    ·(go_simp)
     (try go_wp2_with fail)
     refine hK.out _ _ ?_ (fun hHeld => ?_)
     ·exact hHeld
     clear hK K
     (try simp only [ty9, Act.put])
     refine tk8 10 rfl ?_; (try simp only [ty9, Act.put])
     refine wpAnyH_ready (rs := [11]) (by kernel_rfl) (by simp) ?_
     refine AllReadyH.cons (o := _) rfl (fun K hK => ?_) ?_
     ·(go_simp)
      (try go_wp2_with fail)
      refine hK.out _ _ ?_ (fun hHeld => ?_)
      ·exact HS.out.2.1
      clear hK K
      (try simp only [ty9, Act.put])
      refine tk8 12 rfl ?_; (try simp only [ty9, Act.put])
      refine wpAnyH_ready (rs := [13]) (by kernel_rfl) (by simp) ?_
      refine AllReadyH.cons (o := _) rfl (fun K hK => ?_) ?_
      ·(go_simp)
       (try go_wp2_with fail)
       refine hK.out _ _ ?_ (fun hHeld => ?_)
       ·exact HS.out.2.2
       clear hK K
       (try simp only [ty9, Act.put])
       refine wpAnyH_done (by kernel_rfl) ?_ _
       (try go_simp)
       clear hHeld
       go_wp2_with fail
       go_roundg (N - (i + 1))
       case measure => omega
       case rel => exact ⟨i + 1, rfl, by omega, by go_num, HZ.out.1, HZ.out.2⟩
      exact AllReadyH.nil
     exact AllReadyH.nil
    refine AllReadyH.cons (o := _) rfl (fun K hK => ?_) ?_
    ·(go_simp)
     (try go_wp2_with fail)
     refine hK.out _ _ ?_ (fun hHeld => ?_)
     ·exact HS.out.2.1
     clear hK K
     (try simp only [ty9, Act.put])
     refine tk8 12 rfl ?_; (try simp only [ty9, Act.put])
     refine wpAnyH_ready (rs := [9]) (by kernel_rfl) (by simp) ?_
     refine AllReadyH.cons (o := _) rfl (fun K hK => ?_) ?_
     ·(go_simp)
      (try go_wp2_with fail)
      refine hK.out _ _ ?_ (fun hHeld => ?_)
      ·exact hHeld
      clear hK K
      (try simp only [ty9, Act.put])
      refine tk8 10 rfl ?_; (try simp only [ty9, Act.put])
      refine wpAnyH_ready (rs := [13]) (by kernel_rfl) (by simp) ?_
      refine AllReadyH.cons (o := _) rfl (fun K hK => ?_) ?_
      ·(go_simp)
       (try go_wp2_with fail)
       refine hK.out _ _ ?_ (fun hHeld => ?_)
       ·exact HS.out.2.2
       clear hK K
       (try simp only [ty9, Act.put])
       refine wpAnyH_done (by kernel_rfl) ?_ _
       (try go_simp)
       clear hHeld
       go_wp2_with fail
       go_roundg (N - (i + 1))
       case measure => omega
       case rel => exact ⟨i + 1, rfl, by omega, by go_num, HZ.out.1, HZ.out.2⟩
      exact AllReadyH.nil
     exact AllReadyH.nil
    exact AllReadyH.nil
   ·obtain rfl : i = N := by omega
    have p1 : ¬ (i : Int) < (i : Int) := by omega
    have HK : Hid _ := And.intro hKp (And.intro hC (And.intro hM8 hmr))
    clear hKp hC hM8 hC8 hmr
    go_wp2_with fail
    go_ret2
    obtain ⟨hKp, hC, hM8, hmr⟩ := HK.out
    have hPT : Pt w2 w8 p c := (H3.out.1.below HT.out.2.2.2.2.1).below H8.out.2.1
    have hpm : mb ≠ p := by obtain ⟨cs, h3⟩ := pt_block hPT; exact (HT.out.2.2.2.1.below H8.out.2.1).ne h3
    refine ⟨w2, r, rfl, g, p, mb, i, ⟨w1.heap.size, bs, bb, cs, cb, m, kk, s, es⟩, xT, ?_, HT.out.2.2.1, ⟨rfl, rfl, rfl, rfl⟩, by omega, ?_, ?_⟩
    ·refine run_first (c := c) (hM8.kept hKp (fun e => hmr.2 e.symm) (fun b hb e => hmr.1 (by rw [<- e]; exact hb))) (hPT.kept hKp fun b e => ⟨by rw [e]; exact HT.out.2.2.2.2.2.1, fun e2 => hpm (e.symm.trans e2)⟩) H3.out.2.1 hm1 HT.out.2.1 HT.out.2.2.1 hG3 rfl HT.out.2.2.2.2.2.1 (hC.congr fun p b q => ?_)
     rw [H8.out.2.2, List.take_length, HEd.out.2.1]
    ·exact H1.out.2.1.trans (H2.out.2.1.mono H1.out.2.1.size)
    ·have h1 : Below w.heap.size w w2 := H1.out.2.1.trans (H2.out.2.1.mono H1.out.2.1.size)
     have h2 : Below w.heap.size w w3 := h1.trans (H3.out.2.2.1.mono h1.size)
     have h3 : Below w.heap.size w wT := h2.trans (HT.out.2.2.2.2.1.mono h2.size)
     have h4 : Below w.heap.size w w8 := h3.trans (H8.out.2.1.mono h3.size)
     exact h4.trans (hKp.below (Nat.le_trans h1.size (Nat.le_trans HT.out.2.2.2.2.2.1 (Nat.le_of_lt (HT.out.2.2.2.1.below H8.out.2.1).lt))) fun b e => by rw [e]; exact Nat.le_trans h1.size HT.out.2.2.2.2.2.1)
 ·have q1 : (m : Int) > 0 := by omega
  obtain ⟨w7, hw7⟩ : ∃ w7, w7 = (w6.alloc (.cells #[.int .i64 0] 3)).drew := ⟨_, rfl⟩
  have hB7 := hB6.one hw7
  have c2 := (seven_cells hB6.box).2.2.1
  have HB : Hid _ := And.intro hB6 (And.intro hB7 (And.intro hw7 (And.intro hsr hm0)))
  clear hB6 hB7 hw7 hm0 hsr
  go_upto_region 9 with fail
  refine wp_region_held_drew (S := (fun w' => w'.cell? ⟨r, 2, none⟩ = some (.slice (some ⟨gh, 0, none⟩) 1 1) /\ w'.cell? ⟨w.heap.size, 0, none⟩ = some (.int .i64 (m : Int)))) (by kernel_rfl) ?_ (fun hHeld => ?_)
  ·exact ⟨c2, x0⟩
  refine tk8 0 rfl ?_; (try simp only [ty9, Act.put])
  refine tk8 1 rfl ?_; (try simp only [ty9, Act.put])
  refine tk8 2 rfl ?_; (try simp only [ty9, Act.put])
  refine tk8 3 rfl ?_; (try simp only [ty9, Act.put])
  refine tk8 5 rfl ?_; (try simp only [ty9, Act.put])
  refine tk8 6 rfl ?_; (try simp only [ty9, Act.put])
  refine wpAnyH_ready (rs := [4]) (by kernel_rfl) (by simp) ?_
  refine AllReadyH.cons (o := _) rfl (fun K hK => ?_) ?_
  ·(go_simp)
   (try go_wp2_with fail)
   refine hK.out _ _ ?_ (fun hHeld => ?_)
   ·(have h9 := And.intro (cell_up c2 HB.out.2.1.2.1) (cell_up x0 HB.out.2.1.2.1); rw [HB.out.2.2.1] at h9; exact h9)
   clear hK K
   (try simp only [ty9, Act.put])
   rw [<- HB.out.2.2.1] at hHeld ⊢
   refine tk8 7 rfl ?_; (try simp only [ty9, Act.put])
   refine tk8 8 rfl ?_; (try simp only [ty9, Act.put])
   refine wpAnyH_ready (rs := [9]) (by kernel_rfl) (by simp) ?_
   refine AllReadyH.cons (o := _) rfl (fun K hK => ?_) ?_
   ·(have g0 := cell0_of HB.out.2.1.1.1.hp (k := 0) rfl; have g1 := cell0_of HB.out.2.1.1.1.hp (k := 1) rfl; have f0 := blk_free HB.out.2.1.1.1.hp 0; have f1 := blk_free HB.out.2.1.1.1.hp 1; go_simp)
    (try go_wp2_with fail)
    refine hK.out _ _ ?_ (fun hHeld => ?_)
    ·(have hng : r ≠ gh := fun e => HB.out.1.ne.2.2 e.symm; have hsg : w.heap.size ≠ gh := fun e => by { have := HB.out.1.lo; have := HB.out.2.2.2.1; omega }; exact ⟨kcell3B (Kept.setCell _ gh 1 _) hng (kcell3B (Kept.setCell _ gh 0 _) hng hHeld.1), kcell3B (Kept.setCell _ gh 1 _) hsg (kcell3B (Kept.setCell _ gh 0 _) hsg hHeld.2)⟩)
    clear hK K
    (try simp only [ty9, Act.put])
    refine wpAnyH_done (by kernel_rfl) ?_ _
    (try go_simp)
    obtain ⟨wS, hwS⟩ : ∃ wS, wS = ((w7.setCell ⟨gh, 0, none⟩ (.slice (some ⟨w6.heap.size, 0, none⟩) 1 1)).setCell ⟨gh, 1, none⟩ (.int .i64 (m : Int))) := ⟨_, rfl⟩
    rw [<- hwS] at hHeld ⊢
    have hb0 : w3.heap.size <= w6.heap.size := HB.out.1.bl.size
    have hBS : BgS w2 w3 wS g p mb gh r w6.heap.size m (.slice none 0 0) (.slice none 0 0) := by rw [hwS]; exact HB.out.2.1.1.1.heap HB.out.2.1.1.2 hb0
    have hs6 : wS.heap.size = w6.heap.size + 1 := by rw [hwS]; simp [HB.out.2.1.2.2]
    obtain ⟨b0, hb0e⟩ : ∃ b0, b0 = w6.heap.size := ⟨_, rfl⟩
    rw [<- hb0e] at hBS hb0 hs6 ⊢
    clear x0 c2
    have x0 := hHeld.2
    have hsr2 : w.heap.size ≠ r := fun e => by have := HB.out.1.lo; have := HB.out.2.2.2.1; omega
    have HS : Hid _ := And.intro hBS (And.intro hb0 (And.intro hs6 (And.intro hsr2 HB.out.2.2.2.2)))
    clear hHeld hwS hb0e hBS hb0 hs6 hsr2
    go_upto_region 10 with fail
    refine wp_region_held_drew (S := (fun w' => w'.cell? ⟨w.heap.size, 0, none⟩ = some (.int .i64 (m : Int)))) (by kernel_rfl) ?_ (fun hHeld => ?_)
    ·exact x0
    refine tk8 0 rfl ?_; (try simp only [ty9, Act.put])
    refine tk8 1 rfl ?_; (try simp only [ty9, Act.put])
    refine tk8 3 rfl ?_; (try simp only [ty9, Act.put])
    refine tk8 4 rfl ?_; (try simp only [ty9, Act.put])
    have hst0 := HS.out.1
    refine wpAnyH_ready (rs := [2, 5]) (by kernel_rfl) (by simp) ?_
    refine AllReadyH.cons (o := _) rfl (fun K hK => ?_) ?_
    ·(go_simp)
     (try go_wp2_with fail)
     refine hK.out _ _ ?_ (fun hHeld => ?_)
     ·exact cell_up (w := wS) hHeld (((Below.refl _ _).alloc (Nat.le_refl _) _).drew)
     clear hK K
     (try simp only [ty9, Act.put])
     obtain ⟨wx1, hnw⟩ : ∃ wx1, wx1 = (wS.alloc (.cells #[.int .i64 0] 3)).drew := ⟨_, rfl⟩
     rw [<- hnw] at hHeld ⊢
     have hbl : Below wS.heap.size wS wx1 := by rw [hnw]; exact ((Below.refl _ _).alloc (Nat.le_refl _) _).drew
     have hst1 := hst0.up hbl
     have hq2 : wx1.heap[wS.heap.size]? = some (.cells #[.int .i64 0] 3 (0, 0)) := by rw [hnw]; exact heap_alloc_new wS _
     have hsz1 : Hid (wx1.heap.size = wS.heap.size + 1) := (by rw [hnw]; exact World.size_alloc _ _ : wx1.heap.size = wS.heap.size + 1)
     obtain ⟨b1, hbx⟩ : ∃ b, b = wS.heap.size := ⟨_, rfl⟩
     rw [<- hbx] at hq2 ⊢
     have hbb2 : Hid (b1 = wS.heap.size) := hbx
     clear hbx
     clear hnw hbl
     refine tk8 6 rfl ?_; (try simp only [ty9, Act.put])
     refine tk8 7 rfl ?_; (try simp only [ty9, Act.put])
     refine wpAnyH_ready (rs := [5, 8]) (by kernel_rfl) (by simp) ?_
     refine AllReadyH.cons (o := _) rfl (fun K hK => ?_) ?_
     ·(go_simp)
      (try go_wp2_with fail)
      refine hK.out _ _ ?_ (fun hHeld => ?_)
      ·exact cell_up (w := wx1) hHeld ((Below.refl _ _).alloc (Nat.le_refl _) _)
      clear hK K
      (try simp only [ty9, Act.put])
      obtain ⟨wx2, hnw⟩ : ∃ wx2, wx2 = wx1.alloc (.cells #[.int .i64 (m : Int)] 3) := ⟨_, rfl⟩
      rw [<- hnw] at hHeld ⊢
      have hbl : Below wx1.heap.size wx1 wx2 := by rw [hnw]; exact (Below.refl _ _).alloc (Nat.le_refl _) _
      have hst2 := hst1.up hbl
      have hq5 : wx2.heap[wx1.heap.size]? = some (.cells #[.int .i64 (m : Int)] 3 (0, 0)) := by rw [hnw]; exact heap_alloc_new wx1 _
      have hsz2 : Hid (wx2.heap.size = wx1.heap.size + 1) := (by rw [hnw]; exact World.size_alloc _ _ : wx2.heap.size = wx1.heap.size + 1)
      obtain ⟨b2, hbx⟩ : ∃ b, b = wx1.heap.size := ⟨_, rfl⟩
      rw [<- hbx] at hq5 ⊢
      have hbb5 : Hid (b2 = wx1.heap.size) := hbx
      clear hbx
      have hq2 := bup hbl hq2
      clear hnw hbl
      refine wpAnyH_ready (rs := [8]) (by kernel_rfl) (by simp) ?_
      refine AllReadyH.cons (o := _) rfl (fun K hK => ?_) ?_
      ·(have g3 := (seven_cells hst2.box).2.2.2.1; have f3 := blk_free hst2.box 3; go_simp)
       (try go_wp2_with fail)
       refine hK.out _ _ ?_ (fun hHeld => ?_)
       ·exact kcell3B (Kept.setCell wx2 r 3 _) HS.out.2.2.2.1 hHeld
       clear hK K
       (try simp only [ty9, Act.put])
       obtain ⟨wx3, hnw⟩ : ∃ wx3, wx3 = wx2.setCell ⟨r, 3, none⟩ (.slice (some ⟨b1, 0, none⟩) 1 1) := ⟨_, rfl⟩
       rw [<- hnw] at hHeld ⊢
       have hst3 := hst2.set3 (.slice (some ⟨b1, 0, none⟩) 1 1)
       rw [<- hnw] at hst3
       have hsz3 : Hid (wx3.heap.size = wx2.heap.size) := (by rw [hnw]; simp : wx3.heap.size = wx2.heap.size)
       have hq2 := hst2.int (k := 3) (u := (.slice (some ⟨b1, 0, none⟩) 1 1)) hq2
       rw [<- hnw] at hq2
       have hq5 := hst2.int (k := 3) (u := (.slice (some ⟨b1, 0, none⟩) 1 1)) hq5
       rw [<- hnw] at hq5
       clear hnw
       refine tk8 9 rfl ?_; (try simp only [ty9, Act.put])
       refine tk8 10 rfl ?_; (try simp only [ty9, Act.put])
       refine wpAnyH_ready (rs := [11]) (by kernel_rfl) (by simp) ?_
       refine AllReadyH.cons (o := _) rfl (fun K hK => ?_) ?_
       ·(have g3 := (seven_cells hst3.box).2.2.2.2.1; have f3 := blk_free hst3.box 4; go_simp)
        (try go_wp2_with fail)
        refine hK.out _ _ ?_ (fun hHeld => ?_)
        ·exact kcell3B (Kept.setCell wx3 r 4 _) HS.out.2.2.2.1 hHeld
        clear hK K
        (try simp only [ty9, Act.put])
        obtain ⟨wx4, hnw⟩ : ∃ wx4, wx4 = wx3.setCell ⟨r, 4, none⟩ (.slice (some ⟨b2, 0, none⟩) 1 1) := ⟨_, rfl⟩
        rw [<- hnw] at hHeld ⊢
        have hst4 := hst3.set4 (.slice (some ⟨b2, 0, none⟩) 1 1)
        rw [<- hnw] at hst4
        have hsz4 : Hid (wx4.heap.size = wx3.heap.size) := (by rw [hnw]; simp : wx4.heap.size = wx3.heap.size)
        have hq2 := hst3.int (k := 4) (u := (.slice (some ⟨b2, 0, none⟩) 1 1)) hq2
        rw [<- hnw] at hq2
        have hq5 := hst3.int (k := 4) (u := (.slice (some ⟨b2, 0, none⟩) 1 1)) hq5
        rw [<- hnw] at hq5
        clear hnw
        refine wpAnyH_done (by kernel_rfl) ?_ _
        (try go_simp)
        obtain ⟨wT, hwT⟩ : ∃ wT, wT = wx4 := ⟨_, rfl⟩
        rw [<- hwT] at hHeld ⊢
        rw [<- hwT] at hst4 hq2 hq5
        obtain ⟨xT, hxT⟩ : ∃ xT, xT = Rv.first gh b0 b1 b2 m := ⟨_, rfl⟩
        have hz0 := HS.out.2.2.1
        have hy1 := hsz1.out
        have hy2 := hsz2.out
        have hy3 := hsz3.out
        have hy4 := hsz4.out
        have hu2 := hbb2.out
        have hu5 := hbb5.out
        have hMT : RnM wT w2.heap.size r g p mb xT := by rw [hxT]; exact hst4.run hq2 hq5 ⟨by have := HS.out.2.1; omega, by have := HS.out.2.1; omega⟩ ⟨by omega, by omega, by omega⟩
        have hIT : RunI (Pst.new m) xT := by rw [hxT]; exact RunI.first HS.out.2.2.2.2
        have hZT : xT.Zero m := by rw [hxT]; exact Rv.first_zero gh b0 b1 b2 m
        have HT : Hid _ := And.intro hMT (And.intro hIT (And.intro hZT (And.intro hst4.mp (And.intro hst4.bl (And.intro (Nat.le_trans hst4.lo.2.2.2.1 hst4.lo.1) hst4.ne)))))
        clear x0
        have x0 := hHeld
        clear hHeld hMT hIT hZT hwT hxT hq2 hq5 hz0 hu2 hu5 hy1 hy2 hy3 hy4
        have hGT := hG3.below (H3.out.2.2.1.trans (HT.out.2.2.2.2.1.mono H3.out.2.2.1.size))
        have hEd := edges_any wT hGT
        obtain ⟨l, hl⟩ : ∃ l, l = Sy.nf es := ⟨_, rfl⟩
        rw [<- hl] at hEd
        have hll : l.length <= 10000 := by rw [hl]; exact hGT.sizes.2
        have hlr : ∀ e ∈ l, 0 <= e.1 /\ e.1 < (m : Int) /\ 0 <= e.2.2 /\ e.2.2 < (m : Int) /\ 0 <= e.2.1 /\ e.2.1 < (kk : Int) := fun e he => by rw [hl] at he; exact (right_parts hGT.right).2.2.2.2.2 e ((Sy.nf_mem _ _).1 he)
        have hkk : (kk : Int) <= 201 := (right_parts hGT.right).2.1.2
        have HEd : Hid _ := And.intro hEd (And.intro hl (And.intro hlr hGT))
        clear hEd hl hlr hGT
        go_upto_region 11 with fail
        go_wp2_with (go_at_call 156; refine Calls.mono HEd.out.1 ?_; rintro r8 w8 ⟨u8, rfl, hO8, hb8⟩; obtain ⟨a8, k8, hv8⟩ := row_shape hO8; obtain ⟨N, hN⟩ : ∃ N, N = l.length := ⟨_, rfl⟩; rw [<- hN] at hv8; subst hv8; have H8 : Hid _ := And.intro hO8 (And.intro hb8 hN); clear hO8 hb8 hN)
        clear x0
        go_loopg [58] N (fun q iv wr => ∃ (i : Nat), q = N - i /\ i <= N /\ iv = .int .i64 i /\ Kept (fun b => b = mb) w8 wr /\ Cnt wr mb i (Sg.cnt0 (l.take i)))
        case atStart => exact ⟨0, rfl, Nat.zero_le _, rfl, Kept.refl _ _, (HT.out.2.2.2.1.below H8.out.2.1).congr fun p b h => by unfold Sg.cnt0; split <;> rfl⟩
        case round =>
         obtain ⟨i, rfl, hi, rfl, hKp, hC⟩ := hrel
         have hM8 := HT.out.1.below H8.out.2.1
         have hC8 := HT.out.2.2.2.1.below H8.out.2.1
         have hmr := hM8.mb_foot hC8
         have hNl : N <= 10000 := by rw [H8.out.2.2]; exact hll
         obtain ⟨wo, hwo⟩ : ∃ wo, wo = wr := ⟨_, rfl⟩
         rw [<- hwo] at hKp hC ⊢
         clear hwo
         by_cases hlt : i < N
         ·have p0 : (0 : Int) <= (i : Int) := by omega
          have p1 : (i : Int) < (N : Int) := by omega
          obtain ⟨⟨z1, z2, z3⟩, hz⟩ : ∃ z, l[i]? = some z := ⟨l[i]'(by rw [<- H8.out.2.2]; exact hlt), List.getElem?_eq_getElem _⟩
          have hOr : BEdges.Own wo wT.heap.size (.slice a8 N k8) l := own_up H8.out.1 hKp fun b hb e => by obtain ⟨cs, h1⟩ := row_cells H8.out.1 hb; exact hC8.ne h1 e.symm
          obtain ⟨a9, hae, e0, e1, e2⟩ := edge_at hOr.has hz
          have hzr := HEd.out.2.2.1 _ (List.mem_of_getElem? hz)
          simp only at e0 e1 e2 hzr
          obtain ⟨we, hwe⟩ : ∃ we, we = wo.alloc (.cells #[.int .i64 z1, .int .i64 z2, .int .i64 z3] 70) := ⟨_, rfl⟩
          have hbe : Below wo.heap.size wo we := by rw [hwe]; exact (Below.refl _ _).alloc (Nat.le_refl _) _
          have hxe : we.heap[wo.heap.size]? = some (.cells #[.int .i64 z1, .int .i64 z2, .int .i64 z3] 70 (0, 0)) := by rw [hwe]; exact heap_alloc_new wo _
          have hCe := hC.below hbe
          have s1 : Sml z1 := by unfold Sml; omega
          have s2 : Sml z2 := by unfold Sml; omega
          have s3 : Sml 0 := by unfold Sml; omega
          have hbd := Sg.cnt0_le (l.take i) z1 z2 0
          rw [List.length_take] at hbd
          obtain ⟨y, hy⟩ : ∃ y, y = Sg.cnt0 (l.take i) z1 z2 0 := ⟨_, rfl⟩
          rw [<- hy] at hbd
          obtain ⟨v0, sv, w1', hme, hc1, hk1, hes⟩ := (hCe.at (w' := we.drew) rfl).entry (show i < maxLen by unfold maxLen; omega) s1 s2 s3
          obtain ⟨w2', hst, hc2, hk2⟩ := hes (y + 1) (Sml.wf (by unfold Sml; omega))
          have hlk := ((hCe.at (w' := we.drew) rfl).look s1 s2 s3).1
          have hlk1 := (hc1.look s1 s2 s3).1
          rw [<- hy] at hlk hlk1
          unfold inV at hme hlk hlk1
          have pw : IntKind.i64.wrap (y + 1) = y + 1 := wrap_smallB (by omega) (by omega)
          have hmo : wo.heap.size ≠ mb := fun e => by have := hC.lt; omega
          have S0 : we.cell? ⟨r, 5, none⟩ = some (.map (some mb)) /\ we.cell? ⟨wo.heap.size, 0, none⟩ = some (.int .i64 z1) /\ we.cell? ⟨wo.heap.size, 1, none⟩ = some (.int .i64 z2) := ⟨cell_up (kcell3B hKp (fun e => hmr.2 e.symm) (seven_cells hM8.box).2.2.2.2.2.1) hbe, cell0_of hxe rfl, cell0_of hxe rfl⟩
          have S1 : w1'.cell? ⟨r, 5, none⟩ = some (.map (some mb)) /\ w1'.cell? ⟨wo.heap.size, 0, none⟩ = some (.int .i64 z1) /\ w1'.cell? ⟨wo.heap.size, 1, none⟩ = some (.int .i64 z2) := ⟨kcell3B hk1 (fun e => hmr.2 e.symm) S0.1, kcell3B hk1 hmo S0.2.1, kcell3B hk1 hmo S0.2.2⟩
          have S2 : w2'.cell? ⟨r, 5, none⟩ = some (.map (some mb)) /\ w2'.cell? ⟨wo.heap.size, 0, none⟩ = some (.int .i64 z1) /\ w2'.cell? ⟨wo.heap.size, 1, none⟩ = some (.int .i64 z2) := ⟨kcell3B hk2 (fun e => hmr.2 e.symm) S0.1, kcell3B hk2 hmo S0.2.1, kcell3B hk2 hmo S0.2.2⟩
          have hK2 : Kept (fun b => b = mb) w8 w2' := hKp.trans ((Kept.of_below hbe).trans ((Kept.of_below (Below.refl _ _).drew).trans hk2))
          have hC2 : Cnt w2' mb (i + 1) (Sg.cnt0 (l.take (i + 1))) := hc2.congr fun p b q => by
           rw [take_succ_of hz, Sg.cnt0_snoc, hy]
          have HS : Hid _ := And.intro S0 (And.intro S1 S2)
          have HZ : Hid _ := And.intro hK2 hC2
          have HWE : Hid _ := And.intro hwe trivial
          clear hKp hC hM8 hC8 hmr hOr hzr hz hbe hxe hCe s1 s2 s3 hbd hy hc1 hk1 hes hc2 hk2 hmo S0 S1 S2 hK2 hC2 hwe
          subst hae
          go_upto_region 14 with fail
          rw [<- HWE.out.1]
          refine wp_region_held_drew (S := (fun w' => w'.cell? ⟨r, 5, none⟩ = some (.map (some mb)) /\ w'.cell? ⟨wo.heap.size, 0, none⟩ = some (.int .i64 z1) /\ w'.cell? ⟨wo.heap.size, 1, none⟩ = some (.int .i64 z2))) (by kernel_rfl) ?_ (fun hHeld => ?_)
          ·exact HS.out.1
          refine tk8 0 rfl ?_; (try simp only [ty9, Act.put])
          refine tk8 1 rfl ?_; (try simp only [ty9, Act.put])
          refine tk8 2 rfl ?_; (try simp only [ty9, Act.put])
          refine tk8 3 rfl ?_; (try simp only [ty9, Act.put])
          refine tk8 4 rfl ?_; (try simp only [ty9, Act.put])
          refine tk8 5 rfl ?_; (try simp only [ty9, Act.put])
          refine tk8 6 rfl ?_; (try simp only [ty9, Act.put])
          refine tk8 7 rfl ?_; (try simp only [ty9, Act.put])
          refine tk8 8 rfl ?_; (try simp only [ty9, Act.put])
          refine wpAnyH_ready (rs := [9, 11]) (by kernel_rfl) (by simp) ?_
          refine AllReadyH.cons (o := _) rfl (fun K hK => ?_) ?_
          ·(go_simp)
           (try go_wp2_with fail)
           refine hK.out _ _ ?_ (fun hHeld => ?_)
           ·exact hHeld
           clear hK K
           (try simp only [ty9, Act.put])
           refine tk8 10 rfl ?_; (try simp only [ty9, Act.put])
           refine wpAnyH_ready (rs := [11]) (by kernel_rfl) (by simp) ?_
           refine AllReadyH.cons (o := _) rfl (fun K hK => ?_) ?_
           ·(go_simp)
            (try go_wp2_with fail)
            refine hK.out _ _ ?_ (fun hHeld => ?_)
            ·exact HS.out.2.1
            clear hK K
            (try simp only [ty9, Act.put])
            refine tk8 12 rfl ?_; (try simp only [ty9, Act.put])
            refine wpAnyH_ready (rs := [13]) (by kernel_rfl) (by simp) ?_
            refine AllReadyH.cons (o := _) rfl (fun K hK => ?_) ?_
            ·(go_simp)
             (try go_wp2_with fail)
             refine hK.out _ _ ?_ (fun hHeld => ?_)
             ·exact HS.out.2.2
             clear hK K
             (try simp only [ty9, Act.put])
             refine wpAnyH_done (by kernel_rfl) ?_ _
             (try go_simp)
             clear hHeld
             go_wp2_with fail
             go_roundg (N - (i + 1))
             case measure => omega
             case rel => exact ⟨i + 1, rfl, by omega, by go_num, HZ.out.1, HZ.out.2⟩
            exact AllReadyH.nil
           exact AllReadyH.nil
          refine AllReadyH.cons (o := _) rfl (fun K hK => ?_) ?_
          ·(go_simp)
           (try go_wp2_with fail)
           refine hK.out _ _ ?_ (fun hHeld => ?_)
           ·exact HS.out.2.1
           clear hK K
           (try simp only [ty9, Act.put])
           refine tk8 12 rfl ?_; (try simp only [ty9, Act.put])
           refine wpAnyH_ready (rs := [9]) (by kernel_rfl) (by simp) ?_
           refine AllReadyH.cons (o := _) rfl (fun K hK => ?_) ?_
           ·(go_simp)
            (try go_wp2_with fail)
            refine hK.out _ _ ?_ (fun hHeld => ?_)
            ·exact hHeld
            clear hK K
            (try simp only [ty9, Act.put])
            refine tk8 10 rfl ?_; (try simp only [ty9, Act.put])
            refine wpAnyH_ready (rs := [13]) (by kernel_rfl) (by simp) ?_
            refine AllReadyH.cons (o := _) rfl (fun K hK => ?_) ?_
            ·(go_simp)
             (try go_wp2_with fail)
             refine hK.out _ _ ?_ (fun hHeld => ?_)
             ·exact HS.out.2.2
             clear hK K
             (try simp only [ty9, Act.put])
             refine wpAnyH_done (by kernel_rfl) ?_ _
             (try go_simp)
             clear hHeld
             go_wp2_with fail
             go_roundg (N - (i + 1))
             case measure => omega
             case rel => exact ⟨i + 1, rfl, by omega, by go_num, HZ.out.1, HZ.out.2⟩
            exact AllReadyH.nil
           exact AllReadyH.nil
          exact AllReadyH.nil
         ·obtain rfl : i = N := by omega
          have p1 : ¬ (i : Int) < (i : Int) := by omega
          have HK : Hid _ := And.intro hKp (And.intro hC (And.intro hM8 hmr))
          clear hKp hC hM8 hC8 hmr
          go_wp2_with fail
          go_ret2
          obtain ⟨hKp, hC, hM8, hmr⟩ := HK.out
          have hPT : Pt w2 w8 p c := (H3.out.1.below HT.out.2.2.2.2.1).below H8.out.2.1
          have hpm : mb ≠ p := by obtain ⟨cs, h3⟩ := pt_block hPT; exact (HT.out.2.2.2.1.below H8.out.2.1).ne h3
          refine ⟨w2, r, rfl, g, p, mb, i, ⟨w1.heap.size, bs, bb, cs, cb, m, kk, s, es⟩, xT, ?_, HT.out.2.2.1, ⟨rfl, rfl, rfl, rfl⟩, by omega, ?_, ?_⟩
          ·refine run_first (c := c) (hM8.kept hKp (fun e => hmr.2 e.symm) (fun b hb e => hmr.1 (by rw [<- e]; exact hb))) (hPT.kept hKp fun b e => ⟨by rw [e]; exact HT.out.2.2.2.2.2.1, fun e2 => hpm (e.symm.trans e2)⟩) H3.out.2.1 hm1 HT.out.2.1 HT.out.2.2.1 hG3 rfl HT.out.2.2.2.2.2.1 (hC.congr fun p b q => ?_)
           rw [H8.out.2.2, List.take_length, HEd.out.2.1]
          ·exact H1.out.2.1.trans (H2.out.2.1.mono H1.out.2.1.size)
          ·have h1 : Below w.heap.size w w2 := H1.out.2.1.trans (H2.out.2.1.mono H1.out.2.1.size)
           have h2 : Below w.heap.size w w3 := h1.trans (H3.out.2.2.1.mono h1.size)
           have h3 : Below w.heap.size w wT := h2.trans (HT.out.2.2.2.2.1.mono h2.size)
           have h4 : Below w.heap.size w w8 := h3.trans (H8.out.2.1.mono h3.size)
           exact h4.trans (hKp.below (Nat.le_trans h1.size (Nat.le_trans HT.out.2.2.2.2.2.1 (Nat.le_of_lt (HT.out.2.2.2.1.below H8.out.2.1).lt))) fun b e => by rw [e]; exact Nat.le_trans h1.size HT.out.2.2.2.2.2.1)
       exact AllReadyH.nil
      exact AllReadyH.nil
     refine AllReadyH.cons (o := _) rfl (fun K hK => ?_) ?_
     ·(have g3 := (seven_cells hst1.box).2.2.2.1; have f3 := blk_free hst1.box 3; go_simp)
      (try go_wp2_with fail)
      refine hK.out _ _ ?_ (fun hHeld => ?_)
      ·exact kcell3B (Kept.setCell wx1 r 3 _) HS.out.2.2.2.1 hHeld
      clear hK K
      (try simp only [ty9, Act.put])
      obtain ⟨wx2, hnw⟩ : ∃ wx2, wx2 = wx1.setCell ⟨r, 3, none⟩ (.slice (some ⟨b1, 0, none⟩) 1 1) := ⟨_, rfl⟩
      rw [<- hnw] at hHeld ⊢
      have hst2 := hst1.set3 (.slice (some ⟨b1, 0, none⟩) 1 1)
      rw [<- hnw] at hst2
      have hsz2 : Hid (wx2.heap.size = wx1.heap.size) := (by rw [hnw]; simp : wx2.heap.size = wx1.heap.size)
      have hq2 := hst1.int (k := 3) (u := (.slice (some ⟨b1, 0, none⟩) 1 1)) hq2
      rw [<- hnw] at hq2
      clear hnw
      refine wpAnyH_ready (rs := [5]) (by kernel_rfl) (by simp) ?_
      refine AllReadyH.cons (o := _) rfl (fun K hK => ?_) ?_
      ·(go_simp)
       (try go_wp2_with fail)
       refine hK.out _ _ ?_ (fun hHeld => ?_)
       ·exact cell_up (w := wx2) hHeld ((Below.refl _ _).alloc (Nat.le_refl _) _)
       clear hK K
       (try simp only [ty9, Act.put])
       obtain ⟨wx3, hnw⟩ : ∃ wx3, wx3 = wx2.alloc (.cells #[.int .i64 (m : Int)] 3) := ⟨_, rfl⟩
       rw [<- hnw] at hHeld ⊢
       have hbl : Below wx2.heap.size wx2 wx3 := by rw [hnw]; exact (Below.refl _ _).alloc (Nat.le_refl _) _
       have hst3 := hst2.up hbl
       have hq5 : wx3.heap[wx2.heap.size]? = some (.cells #[.int .i64 (m : Int)] 3 (0, 0)) := by rw [hnw]; exact heap_alloc_new wx2 _
       have hsz3 : Hid (wx3.heap.size = wx2.heap.size + 1) := (by rw [hnw]; exact World.size_alloc _ _ : wx3.heap.size = wx2.heap.size + 1)
       obtain ⟨b2, hbx⟩ : ∃ b, b = wx2.heap.size := ⟨_, rfl⟩
       rw [<- hbx] at hq5 ⊢
       have hbb5 : Hid (b2 = wx2.heap.size) := hbx
       clear hbx
       have hq2 := bup hbl hq2
       clear hnw hbl
       refine tk8 9 rfl ?_; (try simp only [ty9, Act.put])
       refine tk8 10 rfl ?_; (try simp only [ty9, Act.put])
       refine wpAnyH_ready (rs := [11]) (by kernel_rfl) (by simp) ?_
       refine AllReadyH.cons (o := _) rfl (fun K hK => ?_) ?_
       ·(have g3 := (seven_cells hst3.box).2.2.2.2.1; have f3 := blk_free hst3.box 4; go_simp)
        (try go_wp2_with fail)
        refine hK.out _ _ ?_ (fun hHeld => ?_)
        ·exact kcell3B (Kept.setCell wx3 r 4 _) HS.out.2.2.2.1 hHeld
        clear hK K
        (try simp only [ty9, Act.put])
        obtain ⟨wx4, hnw⟩ : ∃ wx4, wx4 = wx3.setCell ⟨r, 4, none⟩ (.slice (some ⟨b2, 0, none⟩) 1 1) := ⟨_, rfl⟩
        rw [<- hnw] at hHeld ⊢
        have hst4 := hst3.set4 (.slice (some ⟨b2, 0, none⟩) 1 1)
        rw [<- hnw] at hst4
        have hsz4 : Hid (wx4.heap.size = wx3.heap.size) := (by rw [hnw]; simp : wx4.heap.size = wx3.heap.size)
        have hq2 := hst3.int (k := 4) (u := (.slice (some ⟨b2, 0, none⟩) 1 1)) hq2
        rw [<- hnw] at hq2
        have hq5 := hst3.int (k := 4) (u := (.slice (some ⟨b2, 0, none⟩) 1 1)) hq5
        rw [<- hnw] at hq5
        clear hnw
        refine wpAnyH_done (by kernel_rfl) ?_ _
        (try go_simp)
        obtain ⟨wT, hwT⟩ : ∃ wT, wT = wx4 := ⟨_, rfl⟩
        rw [<- hwT] at hHeld ⊢
        rw [<- hwT] at hst4 hq2 hq5
        obtain ⟨xT, hxT⟩ : ∃ xT, xT = Rv.first gh b0 b1 b2 m := ⟨_, rfl⟩
        have hz0 := HS.out.2.2.1
        have hy1 := hsz1.out
        have hy2 := hsz2.out
        have hy3 := hsz3.out
        have hy4 := hsz4.out
        have hu2 := hbb2.out
        have hu5 := hbb5.out
        have hMT : RnM wT w2.heap.size r g p mb xT := by rw [hxT]; exact hst4.run hq2 hq5 ⟨by have := HS.out.2.1; omega, by have := HS.out.2.1; omega⟩ ⟨by omega, by omega, by omega⟩
        have hIT : RunI (Pst.new m) xT := by rw [hxT]; exact RunI.first HS.out.2.2.2.2
        have hZT : xT.Zero m := by rw [hxT]; exact Rv.first_zero gh b0 b1 b2 m
        have HT : Hid _ := And.intro hMT (And.intro hIT (And.intro hZT (And.intro hst4.mp (And.intro hst4.bl (And.intro (Nat.le_trans hst4.lo.2.2.2.1 hst4.lo.1) hst4.ne)))))
        clear x0
        have x0 := hHeld
        clear hHeld hMT hIT hZT hwT hxT hq2 hq5 hz0 hu2 hu5 hy1 hy2 hy3 hy4
        have hGT := hG3.below (H3.out.2.2.1.trans (HT.out.2.2.2.2.1.mono H3.out.2.2.1.size))
        have hEd := edges_any wT hGT
        obtain ⟨l, hl⟩ : ∃ l, l = Sy.nf es := ⟨_, rfl⟩
        rw [<- hl] at hEd
        have hll : l.length <= 10000 := by rw [hl]; exact hGT.sizes.2
        have hlr : ∀ e ∈ l, 0 <= e.1 /\ e.1 < (m : Int) /\ 0 <= e.2.2 /\ e.2.2 < (m : Int) /\ 0 <= e.2.1 /\ e.2.1 < (kk : Int) := fun e he => by rw [hl] at he; exact (right_parts hGT.right).2.2.2.2.2 e ((Sy.nf_mem _ _).1 he)
        have hkk : (kk : Int) <= 201 := (right_parts hGT.right).2.1.2
        have HEd : Hid _ := And.intro hEd (And.intro hl (And.intro hlr hGT))
        clear hEd hl hlr hGT
        go_upto_region 11 with fail
        go_wp2_with (go_at_call 156; refine Calls.mono HEd.out.1 ?_; rintro r8 w8 ⟨u8, rfl, hO8, hb8⟩; obtain ⟨a8, k8, hv8⟩ := row_shape hO8; obtain ⟨N, hN⟩ : ∃ N, N = l.length := ⟨_, rfl⟩; rw [<- hN] at hv8; subst hv8; have H8 : Hid _ := And.intro hO8 (And.intro hb8 hN); clear hO8 hb8 hN)
        clear x0
        go_loopg [58] N (fun q iv wr => ∃ (i : Nat), q = N - i /\ i <= N /\ iv = .int .i64 i /\ Kept (fun b => b = mb) w8 wr /\ Cnt wr mb i (Sg.cnt0 (l.take i)))
        case atStart => exact ⟨0, rfl, Nat.zero_le _, rfl, Kept.refl _ _, (HT.out.2.2.2.1.below H8.out.2.1).congr fun p b h => by unfold Sg.cnt0; split <;> rfl⟩
        case round =>
         obtain ⟨i, rfl, hi, rfl, hKp, hC⟩ := hrel
         have hM8 := HT.out.1.below H8.out.2.1
         have hC8 := HT.out.2.2.2.1.below H8.out.2.1
         have hmr := hM8.mb_foot hC8
         have hNl : N <= 10000 := by rw [H8.out.2.2]; exact hll
         obtain ⟨wo, hwo⟩ : ∃ wo, wo = wr := ⟨_, rfl⟩
         rw [<- hwo] at hKp hC ⊢
         clear hwo
         by_cases hlt : i < N
         ·have p0 : (0 : Int) <= (i : Int) := by omega
          have p1 : (i : Int) < (N : Int) := by omega
          obtain ⟨⟨z1, z2, z3⟩, hz⟩ : ∃ z, l[i]? = some z := ⟨l[i]'(by rw [<- H8.out.2.2]; exact hlt), List.getElem?_eq_getElem _⟩
          have hOr : BEdges.Own wo wT.heap.size (.slice a8 N k8) l := own_up H8.out.1 hKp fun b hb e => by obtain ⟨cs, h1⟩ := row_cells H8.out.1 hb; exact hC8.ne h1 e.symm
          obtain ⟨a9, hae, e0, e1, e2⟩ := edge_at hOr.has hz
          have hzr := HEd.out.2.2.1 _ (List.mem_of_getElem? hz)
          simp only at e0 e1 e2 hzr
          obtain ⟨we, hwe⟩ : ∃ we, we = wo.alloc (.cells #[.int .i64 z1, .int .i64 z2, .int .i64 z3] 70) := ⟨_, rfl⟩
          have hbe : Below wo.heap.size wo we := by rw [hwe]; exact (Below.refl _ _).alloc (Nat.le_refl _) _
          have hxe : we.heap[wo.heap.size]? = some (.cells #[.int .i64 z1, .int .i64 z2, .int .i64 z3] 70 (0, 0)) := by rw [hwe]; exact heap_alloc_new wo _
          have hCe := hC.below hbe
          have s1 : Sml z1 := by unfold Sml; omega
          have s2 : Sml z2 := by unfold Sml; omega
          have s3 : Sml 0 := by unfold Sml; omega
          have hbd := Sg.cnt0_le (l.take i) z1 z2 0
          rw [List.length_take] at hbd
          obtain ⟨y, hy⟩ : ∃ y, y = Sg.cnt0 (l.take i) z1 z2 0 := ⟨_, rfl⟩
          rw [<- hy] at hbd
          obtain ⟨v0, sv, w1', hme, hc1, hk1, hes⟩ := (hCe.at (w' := we.drew) rfl).entry (show i < maxLen by unfold maxLen; omega) s1 s2 s3
          obtain ⟨w2', hst, hc2, hk2⟩ := hes (y + 1) (Sml.wf (by unfold Sml; omega))
          have hlk := ((hCe.at (w' := we.drew) rfl).look s1 s2 s3).1
          have hlk1 := (hc1.look s1 s2 s3).1
          rw [<- hy] at hlk hlk1
          unfold inV at hme hlk hlk1
          have pw : IntKind.i64.wrap (y + 1) = y + 1 := wrap_smallB (by omega) (by omega)
          have hmo : wo.heap.size ≠ mb := fun e => by have := hC.lt; omega
          have S0 : we.cell? ⟨r, 5, none⟩ = some (.map (some mb)) /\ we.cell? ⟨wo.heap.size, 0, none⟩ = some (.int .i64 z1) /\ we.cell? ⟨wo.heap.size, 1, none⟩ = some (.int .i64 z2) := ⟨cell_up (kcell3B hKp (fun e => hmr.2 e.symm) (seven_cells hM8.box).2.2.2.2.2.1) hbe, cell0_of hxe rfl, cell0_of hxe rfl⟩
          have S1 : w1'.cell? ⟨r, 5, none⟩ = some (.map (some mb)) /\ w1'.cell? ⟨wo.heap.size, 0, none⟩ = some (.int .i64 z1) /\ w1'.cell? ⟨wo.heap.size, 1, none⟩ = some (.int .i64 z2) := ⟨kcell3B hk1 (fun e => hmr.2 e.symm) S0.1, kcell3B hk1 hmo S0.2.1, kcell3B hk1 hmo S0.2.2⟩
          have S2 : w2'.cell? ⟨r, 5, none⟩ = some (.map (some mb)) /\ w2'.cell? ⟨wo.heap.size, 0, none⟩ = some (.int .i64 z1) /\ w2'.cell? ⟨wo.heap.size, 1, none⟩ = some (.int .i64 z2) := ⟨kcell3B hk2 (fun e => hmr.2 e.symm) S0.1, kcell3B hk2 hmo S0.2.1, kcell3B hk2 hmo S0.2.2⟩
          have hK2 : Kept (fun b => b = mb) w8 w2' := hKp.trans ((Kept.of_below hbe).trans ((Kept.of_below (Below.refl _ _).drew).trans hk2))
          have hC2 : Cnt w2' mb (i + 1) (Sg.cnt0 (l.take (i + 1))) := hc2.congr fun p b q => by
           rw [take_succ_of hz, Sg.cnt0_snoc, hy]
          have HS : Hid _ := And.intro S0 (And.intro S1 S2)
          have HZ : Hid _ := And.intro hK2 hC2
          have HWE : Hid _ := And.intro hwe trivial
          clear hKp hC hM8 hC8 hmr hOr hzr hz hbe hxe hCe s1 s2 s3 hbd hy hc1 hk1 hes hc2 hk2 hmo S0 S1 S2 hK2 hC2 hwe
          subst hae
          go_upto_region 14 with fail
          rw [<- HWE.out.1]
          refine wp_region_held_drew (S := (fun w' => w'.cell? ⟨r, 5, none⟩ = some (.map (some mb)) /\ w'.cell? ⟨wo.heap.size, 0, none⟩ = some (.int .i64 z1) /\ w'.cell? ⟨wo.heap.size, 1, none⟩ = some (.int .i64 z2))) (by kernel_rfl) ?_ (fun hHeld => ?_)
          ·exact HS.out.1
          refine tk8 0 rfl ?_; (try simp only [ty9, Act.put])
          refine tk8 1 rfl ?_; (try simp only [ty9, Act.put])
          refine tk8 2 rfl ?_; (try simp only [ty9, Act.put])
          refine tk8 3 rfl ?_; (try simp only [ty9, Act.put])
          refine tk8 4 rfl ?_; (try simp only [ty9, Act.put])
          refine tk8 5 rfl ?_; (try simp only [ty9, Act.put])
          refine tk8 6 rfl ?_; (try simp only [ty9, Act.put])
          refine tk8 7 rfl ?_; (try simp only [ty9, Act.put])
          refine tk8 8 rfl ?_; (try simp only [ty9, Act.put])
          refine wpAnyH_ready (rs := [9, 11]) (by kernel_rfl) (by simp) ?_
          refine AllReadyH.cons (o := _) rfl (fun K hK => ?_) ?_
          ·(go_simp)
           (try go_wp2_with fail)
           refine hK.out _ _ ?_ (fun hHeld => ?_)
           ·exact hHeld
           clear hK K
           (try simp only [ty9, Act.put])
           refine tk8 10 rfl ?_; (try simp only [ty9, Act.put])
           refine wpAnyH_ready (rs := [11]) (by kernel_rfl) (by simp) ?_
           refine AllReadyH.cons (o := _) rfl (fun K hK => ?_) ?_
           ·(go_simp)
            (try go_wp2_with fail)
            refine hK.out _ _ ?_ (fun hHeld => ?_)
            ·exact HS.out.2.1
            clear hK K
            (try simp only [ty9, Act.put])
            refine tk8 12 rfl ?_; (try simp only [ty9, Act.put])
            refine wpAnyH_ready (rs := [13]) (by kernel_rfl) (by simp) ?_
            refine AllReadyH.cons (o := _) rfl (fun K hK => ?_) ?_
            ·(go_simp)
             (try go_wp2_with fail)
             refine hK.out _ _ ?_ (fun hHeld => ?_)
             ·exact HS.out.2.2
             clear hK K
             (try simp only [ty9, Act.put])
             refine wpAnyH_done (by kernel_rfl) ?_ _
             (try go_simp)
             clear hHeld
             go_wp2_with fail
             go_roundg (N - (i + 1))
             case measure => omega
             case rel => exact ⟨i + 1, rfl, by omega, by go_num, HZ.out.1, HZ.out.2⟩
            exact AllReadyH.nil
           exact AllReadyH.nil
          refine AllReadyH.cons (o := _) rfl (fun K hK => ?_) ?_
          ·(go_simp)
           (try go_wp2_with fail)
           refine hK.out _ _ ?_ (fun hHeld => ?_)
           ·exact HS.out.2.1
           clear hK K
           (try simp only [ty9, Act.put])
           refine tk8 12 rfl ?_; (try simp only [ty9, Act.put])
           refine wpAnyH_ready (rs := [9]) (by kernel_rfl) (by simp) ?_
           refine AllReadyH.cons (o := _) rfl (fun K hK => ?_) ?_
           ·(go_simp)
            (try go_wp2_with fail)
            refine hK.out _ _ ?_ (fun hHeld => ?_)
            ·exact hHeld
            clear hK K
            (try simp only [ty9, Act.put])
            refine tk8 10 rfl ?_; (try simp only [ty9, Act.put])
            refine wpAnyH_ready (rs := [13]) (by kernel_rfl) (by simp) ?_
            refine AllReadyH.cons (o := _) rfl (fun K hK => ?_) ?_
            ·(go_simp)
             (try go_wp2_with fail)
             refine hK.out _ _ ?_ (fun hHeld => ?_)
             ·exact HS.out.2.2
             clear hK K
             (try simp only [ty9, Act.put])
             refine wpAnyH_done (by kernel_rfl) ?_ _
             (try go_simp)
             clear hHeld
             go_wp2_with fail
             go_roundg (N - (i + 1))
             case measure => omega
             case rel => exact ⟨i + 1, rfl, by omega, by go_num, HZ.out.1, HZ.out.2⟩
            exact AllReadyH.nil
           exact AllReadyH.nil
          exact AllReadyH.nil
         ·obtain rfl : i = N := by omega
          have p1 : ¬ (i : Int) < (i : Int) := by omega
          have HK : Hid _ := And.intro hKp (And.intro hC (And.intro hM8 hmr))
          clear hKp hC hM8 hC8 hmr
          go_wp2_with fail
          go_ret2
          obtain ⟨hKp, hC, hM8, hmr⟩ := HK.out
          have hPT : Pt w2 w8 p c := (H3.out.1.below HT.out.2.2.2.2.1).below H8.out.2.1
          have hpm : mb ≠ p := by obtain ⟨cs, h3⟩ := pt_block hPT; exact (HT.out.2.2.2.1.below H8.out.2.1).ne h3
          refine ⟨w2, r, rfl, g, p, mb, i, ⟨w1.heap.size, bs, bb, cs, cb, m, kk, s, es⟩, xT, ?_, HT.out.2.2.1, ⟨rfl, rfl, rfl, rfl⟩, by omega, ?_, ?_⟩
          ·refine run_first (c := c) (hM8.kept hKp (fun e => hmr.2 e.symm) (fun b hb e => hmr.1 (by rw [<- e]; exact hb))) (hPT.kept hKp fun b e => ⟨by rw [e]; exact HT.out.2.2.2.2.2.1, fun e2 => hpm (e.symm.trans e2)⟩) H3.out.2.1 hm1 HT.out.2.1 HT.out.2.2.1 hG3 rfl HT.out.2.2.2.2.2.1 (hC.congr fun p b q => ?_)
           rw [H8.out.2.2, List.take_length, HEd.out.2.1]
          ·exact H1.out.2.1.trans (H2.out.2.1.mono H1.out.2.1.size)
          ·have h1 : Below w.heap.size w w2 := H1.out.2.1.trans (H2.out.2.1.mono H1.out.2.1.size)
           have h2 : Below w.heap.size w w3 := h1.trans (H3.out.2.2.1.mono h1.size)
           have h3 : Below w.heap.size w wT := h2.trans (HT.out.2.2.2.2.1.mono h2.size)
           have h4 : Below w.heap.size w w8 := h3.trans (H8.out.2.1.mono h3.size)
           exact h4.trans (hKp.below (Nat.le_trans h1.size (Nat.le_trans HT.out.2.2.2.2.2.1 (Nat.le_of_lt (HT.out.2.2.2.1.below H8.out.2.1).lt))) fun b e => by rw [e]; exact Nat.le_trans h1.size HT.out.2.2.2.2.2.1)
       exact AllReadyH.nil
      exact AllReadyH.nil
     exact AllReadyH.nil
    refine AllReadyH.cons (o := _) rfl (fun K hK => ?_) ?_
    ·(go_simp)
     (try go_wp2_with fail)
     refine hK.out _ _ ?_ (fun hHeld => ?_)
     ·exact cell_up (w := wS) hHeld (((Below.refl _ _).alloc (Nat.le_refl _) _).drew)
     clear hK K
     (try simp only [ty9, Act.put])
     obtain ⟨wx1, hnw⟩ : ∃ wx1, wx1 = (wS.alloc (.cells #[.int .i64 (m : Int)] 3)).drew := ⟨_, rfl⟩
     rw [<- hnw] at hHeld ⊢
     have hbl : Below wS.heap.size wS wx1 := by rw [hnw]; exact ((Below.refl _ _).alloc (Nat.le_refl _) _).drew
     have hst1 := hst0.up hbl
     have hq5 : wx1.heap[wS.heap.size]? = some (.cells #[.int .i64 (m : Int)] 3 (0, 0)) := by rw [hnw]; exact heap_alloc_new wS _
     have hsz1 : Hid (wx1.heap.size = wS.heap.size + 1) := (by rw [hnw]; exact World.size_alloc _ _ : wx1.heap.size = wS.heap.size + 1)
     obtain ⟨b2, hbx⟩ : ∃ b, b = wS.heap.size := ⟨_, rfl⟩
     rw [<- hbx] at hq5 ⊢
     have hbb5 : Hid (b2 = wS.heap.size) := hbx
     clear hbx
     clear hnw hbl
     refine wpAnyH_ready (rs := [2]) (by kernel_rfl) (by simp) ?_
     refine AllReadyH.cons (o := _) rfl (fun K hK => ?_) ?_
     ·(go_simp)
      (try go_wp2_with fail)
      refine hK.out _ _ ?_ (fun hHeld => ?_)
      ·exact cell_up (w := wx1) hHeld ((Below.refl _ _).alloc (Nat.le_refl _) _)
      clear hK K
      (try simp only [ty9, Act.put])
      obtain ⟨wx2, hnw⟩ : ∃ wx2, wx2 = wx1.alloc (.cells #[.int .i64 0] 3) := ⟨_, rfl⟩
      rw [<- hnw] at hHeld ⊢
      have hbl : Below wx1.heap.size wx1 wx2 := by rw [hnw]; exact (Below.refl _ _).alloc (Nat.le_refl _) _
      have hst2 := hst1.up hbl
      have hq2 : wx2.heap[wx1.heap.size]? = some (.cells #[.int .i64 0] 3 (0, 0)) := by rw [hnw]; exact heap_alloc_new wx1 _
      have hsz2 : Hid (wx2.heap.size = wx1.heap.size + 1) := (by rw [hnw]; exact World.size_alloc _ _ : wx2.heap.size = wx1.heap.size + 1)
      obtain ⟨b1, hbx⟩ : ∃ b, b = wx1.heap.size := ⟨_, rfl⟩
      rw [<- hbx] at hq2 ⊢
      have hbb2 : Hid (b1 = wx1.heap.size) := hbx
      clear hbx
      have hq5 := bup hbl hq5
      clear hnw hbl
      refine tk8 6 rfl ?_; (try simp only [ty9, Act.put])
      refine tk8 7 rfl ?_; (try simp only [ty9, Act.put])
      refine wpAnyH_ready (rs := [8]) (by kernel_rfl) (by simp) ?_
      refine AllReadyH.cons (o := _) rfl (fun K hK => ?_) ?_
      ·(have g3 := (seven_cells hst2.box).2.2.2.1; have f3 := blk_free hst2.box 3; go_simp)
       (try go_wp2_with fail)
       refine hK.out _ _ ?_ (fun hHeld => ?_)
       ·exact kcell3B (Kept.setCell wx2 r 3 _) HS.out.2.2.2.1 hHeld
       clear hK K
       (try simp only [ty9, Act.put])
       obtain ⟨wx3, hnw⟩ : ∃ wx3, wx3 = wx2.setCell ⟨r, 3, none⟩ (.slice (some ⟨b1, 0, none⟩) 1 1) := ⟨_, rfl⟩
       rw [<- hnw] at hHeld ⊢
       have hst3 := hst2.set3 (.slice (some ⟨b1, 0, none⟩) 1 1)
       rw [<- hnw] at hst3
       have hsz3 : Hid (wx3.heap.size = wx2.heap.size) := (by rw [hnw]; simp : wx3.heap.size = wx2.heap.size)
       have hq2 := hst2.int (k := 3) (u := (.slice (some ⟨b1, 0, none⟩) 1 1)) hq2
       rw [<- hnw] at hq2
       have hq5 := hst2.int (k := 3) (u := (.slice (some ⟨b1, 0, none⟩) 1 1)) hq5
       rw [<- hnw] at hq5
       clear hnw
       refine tk8 9 rfl ?_; (try simp only [ty9, Act.put])
       refine tk8 10 rfl ?_; (try simp only [ty9, Act.put])
       refine wpAnyH_ready (rs := [11]) (by kernel_rfl) (by simp) ?_
       refine AllReadyH.cons (o := _) rfl (fun K hK => ?_) ?_
       ·(have g3 := (seven_cells hst3.box).2.2.2.2.1; have f3 := blk_free hst3.box 4; go_simp)
        (try go_wp2_with fail)
        refine hK.out _ _ ?_ (fun hHeld => ?_)
        ·exact kcell3B (Kept.setCell wx3 r 4 _) HS.out.2.2.2.1 hHeld
        clear hK K
        (try simp only [ty9, Act.put])
        obtain ⟨wx4, hnw⟩ : ∃ wx4, wx4 = wx3.setCell ⟨r, 4, none⟩ (.slice (some ⟨b2, 0, none⟩) 1 1) := ⟨_, rfl⟩
        rw [<- hnw] at hHeld ⊢
        have hst4 := hst3.set4 (.slice (some ⟨b2, 0, none⟩) 1 1)
        rw [<- hnw] at hst4
        have hsz4 : Hid (wx4.heap.size = wx3.heap.size) := (by rw [hnw]; simp : wx4.heap.size = wx3.heap.size)
        have hq2 := hst3.int (k := 4) (u := (.slice (some ⟨b2, 0, none⟩) 1 1)) hq2
        rw [<- hnw] at hq2
        have hq5 := hst3.int (k := 4) (u := (.slice (some ⟨b2, 0, none⟩) 1 1)) hq5
        rw [<- hnw] at hq5
        clear hnw
        refine wpAnyH_done (by kernel_rfl) ?_ _
        (try go_simp)
        obtain ⟨wT, hwT⟩ : ∃ wT, wT = wx4 := ⟨_, rfl⟩
        rw [<- hwT] at hHeld ⊢
        rw [<- hwT] at hst4 hq2 hq5
        obtain ⟨xT, hxT⟩ : ∃ xT, xT = Rv.first gh b0 b1 b2 m := ⟨_, rfl⟩
        have hz0 := HS.out.2.2.1
        have hy1 := hsz1.out
        have hy2 := hsz2.out
        have hy3 := hsz3.out
        have hy4 := hsz4.out
        have hu2 := hbb2.out
        have hu5 := hbb5.out
        have hMT : RnM wT w2.heap.size r g p mb xT := by rw [hxT]; exact hst4.run hq2 hq5 ⟨by have := HS.out.2.1; omega, by have := HS.out.2.1; omega⟩ ⟨by omega, by omega, by omega⟩
        have hIT : RunI (Pst.new m) xT := by rw [hxT]; exact RunI.first HS.out.2.2.2.2
        have hZT : xT.Zero m := by rw [hxT]; exact Rv.first_zero gh b0 b1 b2 m
        have HT : Hid _ := And.intro hMT (And.intro hIT (And.intro hZT (And.intro hst4.mp (And.intro hst4.bl (And.intro (Nat.le_trans hst4.lo.2.2.2.1 hst4.lo.1) hst4.ne)))))
        clear x0
        have x0 := hHeld
        clear hHeld hMT hIT hZT hwT hxT hq2 hq5 hz0 hu2 hu5 hy1 hy2 hy3 hy4
        have hGT := hG3.below (H3.out.2.2.1.trans (HT.out.2.2.2.2.1.mono H3.out.2.2.1.size))
        have hEd := edges_any wT hGT
        obtain ⟨l, hl⟩ : ∃ l, l = Sy.nf es := ⟨_, rfl⟩
        rw [<- hl] at hEd
        have hll : l.length <= 10000 := by rw [hl]; exact hGT.sizes.2
        have hlr : ∀ e ∈ l, 0 <= e.1 /\ e.1 < (m : Int) /\ 0 <= e.2.2 /\ e.2.2 < (m : Int) /\ 0 <= e.2.1 /\ e.2.1 < (kk : Int) := fun e he => by rw [hl] at he; exact (right_parts hGT.right).2.2.2.2.2 e ((Sy.nf_mem _ _).1 he)
        have hkk : (kk : Int) <= 201 := (right_parts hGT.right).2.1.2
        have HEd : Hid _ := And.intro hEd (And.intro hl (And.intro hlr hGT))
        clear hEd hl hlr hGT
        go_upto_region 11 with fail
        go_wp2_with (go_at_call 156; refine Calls.mono HEd.out.1 ?_; rintro r8 w8 ⟨u8, rfl, hO8, hb8⟩; obtain ⟨a8, k8, hv8⟩ := row_shape hO8; obtain ⟨N, hN⟩ : ∃ N, N = l.length := ⟨_, rfl⟩; rw [<- hN] at hv8; subst hv8; have H8 : Hid _ := And.intro hO8 (And.intro hb8 hN); clear hO8 hb8 hN)
        clear x0
        go_loopg [58] N (fun q iv wr => ∃ (i : Nat), q = N - i /\ i <= N /\ iv = .int .i64 i /\ Kept (fun b => b = mb) w8 wr /\ Cnt wr mb i (Sg.cnt0 (l.take i)))
        case atStart => exact ⟨0, rfl, Nat.zero_le _, rfl, Kept.refl _ _, (HT.out.2.2.2.1.below H8.out.2.1).congr fun p b h => by unfold Sg.cnt0; split <;> rfl⟩
        case round =>
         obtain ⟨i, rfl, hi, rfl, hKp, hC⟩ := hrel
         have hM8 := HT.out.1.below H8.out.2.1
         have hC8 := HT.out.2.2.2.1.below H8.out.2.1
         have hmr := hM8.mb_foot hC8
         have hNl : N <= 10000 := by rw [H8.out.2.2]; exact hll
         obtain ⟨wo, hwo⟩ : ∃ wo, wo = wr := ⟨_, rfl⟩
         rw [<- hwo] at hKp hC ⊢
         clear hwo
         by_cases hlt : i < N
         ·have p0 : (0 : Int) <= (i : Int) := by omega
          have p1 : (i : Int) < (N : Int) := by omega
          obtain ⟨⟨z1, z2, z3⟩, hz⟩ : ∃ z, l[i]? = some z := ⟨l[i]'(by rw [<- H8.out.2.2]; exact hlt), List.getElem?_eq_getElem _⟩
          have hOr : BEdges.Own wo wT.heap.size (.slice a8 N k8) l := own_up H8.out.1 hKp fun b hb e => by obtain ⟨cs, h1⟩ := row_cells H8.out.1 hb; exact hC8.ne h1 e.symm
          obtain ⟨a9, hae, e0, e1, e2⟩ := edge_at hOr.has hz
          have hzr := HEd.out.2.2.1 _ (List.mem_of_getElem? hz)
          simp only at e0 e1 e2 hzr
          obtain ⟨we, hwe⟩ : ∃ we, we = wo.alloc (.cells #[.int .i64 z1, .int .i64 z2, .int .i64 z3] 70) := ⟨_, rfl⟩
          have hbe : Below wo.heap.size wo we := by rw [hwe]; exact (Below.refl _ _).alloc (Nat.le_refl _) _
          have hxe : we.heap[wo.heap.size]? = some (.cells #[.int .i64 z1, .int .i64 z2, .int .i64 z3] 70 (0, 0)) := by rw [hwe]; exact heap_alloc_new wo _
          have hCe := hC.below hbe
          have s1 : Sml z1 := by unfold Sml; omega
          have s2 : Sml z2 := by unfold Sml; omega
          have s3 : Sml 0 := by unfold Sml; omega
          have hbd := Sg.cnt0_le (l.take i) z1 z2 0
          rw [List.length_take] at hbd
          obtain ⟨y, hy⟩ : ∃ y, y = Sg.cnt0 (l.take i) z1 z2 0 := ⟨_, rfl⟩
          rw [<- hy] at hbd
          obtain ⟨v0, sv, w1', hme, hc1, hk1, hes⟩ := (hCe.at (w' := we.drew) rfl).entry (show i < maxLen by unfold maxLen; omega) s1 s2 s3
          obtain ⟨w2', hst, hc2, hk2⟩ := hes (y + 1) (Sml.wf (by unfold Sml; omega))
          have hlk := ((hCe.at (w' := we.drew) rfl).look s1 s2 s3).1
          have hlk1 := (hc1.look s1 s2 s3).1
          rw [<- hy] at hlk hlk1
          unfold inV at hme hlk hlk1
          have pw : IntKind.i64.wrap (y + 1) = y + 1 := wrap_smallB (by omega) (by omega)
          have hmo : wo.heap.size ≠ mb := fun e => by have := hC.lt; omega
          have S0 : we.cell? ⟨r, 5, none⟩ = some (.map (some mb)) /\ we.cell? ⟨wo.heap.size, 0, none⟩ = some (.int .i64 z1) /\ we.cell? ⟨wo.heap.size, 1, none⟩ = some (.int .i64 z2) := ⟨cell_up (kcell3B hKp (fun e => hmr.2 e.symm) (seven_cells hM8.box).2.2.2.2.2.1) hbe, cell0_of hxe rfl, cell0_of hxe rfl⟩
          have S1 : w1'.cell? ⟨r, 5, none⟩ = some (.map (some mb)) /\ w1'.cell? ⟨wo.heap.size, 0, none⟩ = some (.int .i64 z1) /\ w1'.cell? ⟨wo.heap.size, 1, none⟩ = some (.int .i64 z2) := ⟨kcell3B hk1 (fun e => hmr.2 e.symm) S0.1, kcell3B hk1 hmo S0.2.1, kcell3B hk1 hmo S0.2.2⟩
          have S2 : w2'.cell? ⟨r, 5, none⟩ = some (.map (some mb)) /\ w2'.cell? ⟨wo.heap.size, 0, none⟩ = some (.int .i64 z1) /\ w2'.cell? ⟨wo.heap.size, 1, none⟩ = some (.int .i64 z2) := ⟨kcell3B hk2 (fun e => hmr.2 e.symm) S0.1, kcell3B hk2 hmo S0.2.1, kcell3B hk2 hmo S0.2.2⟩
          have hK2 : Kept (fun b => b = mb) w8 w2' := hKp.trans ((Kept.of_below hbe).trans ((Kept.of_below (Below.refl _ _).drew).trans hk2))
          have hC2 : Cnt w2' mb (i + 1) (Sg.cnt0 (l.take (i + 1))) := hc2.congr fun p b q => by
           rw [take_succ_of hz, Sg.cnt0_snoc, hy]
          have HS : Hid _ := And.intro S0 (And.intro S1 S2)
          have HZ : Hid _ := And.intro hK2 hC2
          have HWE : Hid _ := And.intro hwe trivial
          clear hKp hC hM8 hC8 hmr hOr hzr hz hbe hxe hCe s1 s2 s3 hbd hy hc1 hk1 hes hc2 hk2 hmo S0 S1 S2 hK2 hC2 hwe
          subst hae
          go_upto_region 14 with fail
          rw [<- HWE.out.1]
          refine wp_region_held_drew (S := (fun w' => w'.cell? ⟨r, 5, none⟩ = some (.map (some mb)) /\ w'.cell? ⟨wo.heap.size, 0, none⟩ = some (.int .i64 z1) /\ w'.cell? ⟨wo.heap.size, 1, none⟩ = some (.int .i64 z2))) (by kernel_rfl) ?_ (fun hHeld => ?_)
          ·exact HS.out.1
          refine tk8 0 rfl ?_; (try simp only [ty9, Act.put])
          refine tk8 1 rfl ?_; (try simp only [ty9, Act.put])
          refine tk8 2 rfl ?_; (try simp only [ty9, Act.put])
          refine tk8 3 rfl ?_; (try simp only [ty9, Act.put])
          refine tk8 4 rfl ?_; (try simp only [ty9, Act.put])
          refine tk8 5 rfl ?_; (try simp only [ty9, Act.put])
          refine tk8 6 rfl ?_; (try simp only [ty9, Act.put])
          refine tk8 7 rfl ?_; (try simp only [ty9, Act.put])
          refine tk8 8 rfl ?_; (try simp only [ty9, Act.put])
          refine wpAnyH_ready (rs := [9, 11]) (by kernel_rfl) (by simp) ?_
          refine AllReadyH.cons (o := _) rfl (fun K hK => ?_) ?_
          ·(go_simp)
           (try go_wp2_with fail)
           refine hK.out _ _ ?_ (fun hHeld => ?_)
           ·exact hHeld
           clear hK K
           (try simp only [ty9, Act.put])
           refine tk8 10 rfl ?_; (try simp only [ty9, Act.put])
           refine wpAnyH_ready (rs := [11]) (by kernel_rfl) (by simp) ?_
           refine AllReadyH.cons (o := _) rfl (fun K hK => ?_) ?_
           ·(go_simp)
            (try go_wp2_with fail)
            refine hK.out _ _ ?_ (fun hHeld => ?_)
            ·exact HS.out.2.1
            clear hK K
            (try simp only [ty9, Act.put])
            refine tk8 12 rfl ?_; (try simp only [ty9, Act.put])
            refine wpAnyH_ready (rs := [13]) (by kernel_rfl) (by simp) ?_
            refine AllReadyH.cons (o := _) rfl (fun K hK => ?_) ?_
            ·(go_simp)
             (try go_wp2_with fail)
             refine hK.out _ _ ?_ (fun hHeld => ?_)
             ·exact HS.out.2.2
             clear hK K
             (try simp only [ty9, Act.put])
             refine wpAnyH_done (by kernel_rfl) ?_ _
             (try go_simp)
             clear hHeld
             go_wp2_with fail
             go_roundg (N - (i + 1))
             case measure => omega
             case rel => exact ⟨i + 1, rfl, by omega, by go_num, HZ.out.1, HZ.out.2⟩
            exact AllReadyH.nil
           exact AllReadyH.nil
          refine AllReadyH.cons (o := _) rfl (fun K hK => ?_) ?_
          ·(go_simp)
           (try go_wp2_with fail)
           refine hK.out _ _ ?_ (fun hHeld => ?_)
           ·exact HS.out.2.1
           clear hK K
           (try simp only [ty9, Act.put])
           refine tk8 12 rfl ?_; (try simp only [ty9, Act.put])
           refine wpAnyH_ready (rs := [9]) (by kernel_rfl) (by simp) ?_
           refine AllReadyH.cons (o := _) rfl (fun K hK => ?_) ?_
           ·(go_simp)
            (try go_wp2_with fail)
            refine hK.out _ _ ?_ (fun hHeld => ?_)
            ·exact hHeld
            clear hK K
            (try simp only [ty9, Act.put])
            refine tk8 10 rfl ?_; (try simp only [ty9, Act.put])
            refine wpAnyH_ready (rs := [13]) (by kernel_rfl) (by simp) ?_
            refine AllReadyH.cons (o := _) rfl (fun K hK => ?_) ?_
            ·(go_simp)
             (try go_wp2_with fail)
             refine hK.out _ _ ?_ (fun hHeld => ?_)
             ·exact HS.out.2.2
             clear hK K
             (try simp only [ty9, Act.put])
             refine wpAnyH_done (by kernel_rfl) ?_ _
             (try go_simp)
             clear hHeld
             go_wp2_with fail
             go_roundg (N - (i + 1))
             case measure => omega
             case rel => exact ⟨i + 1, rfl, by omega, by go_num, HZ.out.1, HZ.out.2⟩
            exact AllReadyH.nil
           exact AllReadyH.nil
          exact AllReadyH.nil
         ·obtain rfl : i = N := by omega
          have p1 : ¬ (i : Int) < (i : Int) := by omega
          have HK : Hid _ := And.intro hKp (And.intro hC (And.intro hM8 hmr))
          clear hKp hC hM8 hC8 hmr
          go_wp2_with fail
          go_ret2
          obtain ⟨hKp, hC, hM8, hmr⟩ := HK.out
          have hPT : Pt w2 w8 p c := (H3.out.1.below HT.out.2.2.2.2.1).below H8.out.2.1
          have hpm : mb ≠ p := by obtain ⟨cs, h3⟩ := pt_block hPT; exact (HT.out.2.2.2.1.below H8.out.2.1).ne h3
          refine ⟨w2, r, rfl, g, p, mb, i, ⟨w1.heap.size, bs, bb, cs, cb, m, kk, s, es⟩, xT, ?_, HT.out.2.2.1, ⟨rfl, rfl, rfl, rfl⟩, by omega, ?_, ?_⟩
          ·refine run_first (c := c) (hM8.kept hKp (fun e => hmr.2 e.symm) (fun b hb e => hmr.1 (by rw [<- e]; exact hb))) (hPT.kept hKp fun b e => ⟨by rw [e]; exact HT.out.2.2.2.2.2.1, fun e2 => hpm (e.symm.trans e2)⟩) H3.out.2.1 hm1 HT.out.2.1 HT.out.2.2.1 hG3 rfl HT.out.2.2.2.2.2.1 (hC.congr fun p b q => ?_)
           rw [H8.out.2.2, List.take_length, HEd.out.2.1]
          ·exact H1.out.2.1.trans (H2.out.2.1.mono H1.out.2.1.size)
          ·have h1 : Below w.heap.size w w2 := H1.out.2.1.trans (H2.out.2.1.mono H1.out.2.1.size)
           have h2 : Below w.heap.size w w3 := h1.trans (H3.out.2.2.1.mono h1.size)
           have h3 : Below w.heap.size w wT := h2.trans (HT.out.2.2.2.2.1.mono h2.size)
           have h4 : Below w.heap.size w w8 := h3.trans (H8.out.2.1.mono h3.size)
           exact h4.trans (hKp.below (Nat.le_trans h1.size (Nat.le_trans HT.out.2.2.2.2.2.1 (Nat.le_of_lt (HT.out.2.2.2.1.below H8.out.2.1).lt))) fun b e => by rw [e]; exact Nat.le_trans h1.size HT.out.2.2.2.2.2.1)
       exact AllReadyH.nil
      exact AllReadyH.nil
     exact AllReadyH.nil
    exact AllReadyH.nil
   exact AllReadyH.nil
  exact AllReadyH.nil
end Go.Proofs.YthcpliinddjkhaaGreatDoor
