/- Texts of this claim, joined: SgLift, SyOutI, SyTab0, SyView, SoRow. -/
import Derived.Test.YthcpliinddjkhaaGreatDoorPart6
import Derived.BigRegion
import Derived.BigQuiet
import Derived.Deep.QuietTactic
import Derived.Test.YthcpliinddjkhaaGreatDoorPart0
import Derived.Test.YthcpliinddjkhaaGreatDoorPart5
import Derived.Test.YthcpliinddjkhaaGreatDoorPart1
import Derived.Sort.AssemblyPlain
namespace Go.Proofs.YthcpliinddjkhaaGreatDoor
section
open Go.RowKit Go.Maps
attribute [local go_sem ↓] Go.wp_at_zero Go.wp_at_succ
theorem Tryz.infoHp : (Tryz.prog.info? 221).map (fun i => (i.zero, i.size, i.bytes)) = some (some (.agg #[.slice none 0 0, .int .i64 0]), 2, 32) := by kernel_rfl
structure LiftAt (w w' : World) (B r g p mb : Nat) (x x' : Rv) (bl o k z : Nat) (bs : List Int) : Prop where
  m : RnM w' B r g p mb x'
  ow : x'.ow = x.ow.set bl (x.ks.length : Int)
  sz : x'.sz = x.sz
  wt : x'.wt = x.wt
  ks : x'.ks = x.ks.set o (k - z) ++ [z]
  hs : x'.H.map (·.2) = (x.H.map (·.2)).set o (bs.filter fun b => !(b == (bl : Int))) ++ [[(bl : Int)]]
  gw : Grew w w' r x x'
set_option linter.unusedSimpArgs false in
set_option maxRecDepth 100000 in
set_option maxHeartbeats 8000000 in
theorem lift_any (B r g p mb : Nat) (x : Rv) (bl o k z : Nat) (v : Value) (bs : List Int) (w : World) (hM : RnM w B r g p mb x) (how : x.ow[bl]? = some (o : Int)) (hsz : x.sz[bl]? = some (z : Int)) (hH : x.H[o]? = some (v, bs)) (hks : x.ks[o]? = some k) (hkl : x.ks.length ≤ 100000) (hbl : bs.length ≤ 100000) (hb0 : 0 < bs.length) (hzk : z ≤ k) (hk : k ≤ 1000) :
    Calls Tryz.prog 160 #[.pointer (some ⟨r, 0, none⟩), .int .i64 bl] w fun e w' => e = .returned (.tuple #[.int .i64 o, .int .i64 (x.ks.length : Int)]) ∧ ∃ x', LiftAt w w' B r g p mb x x' bl o k z bs := by
  have hvO : OwnI w B v bs := (hM.q.q (o + 3) (v, bs) (by show x.H[o]? = _; exact hH)).own (hM.fl _ (List.mem_of_getElem? hH)) hb0
  obtain ⟨w1, hw1⟩ : ∃ w1, w1 = w.alloc (.cells #[.int .i64 bl] 3) := ⟨_, rfl⟩
  have hb1 : Below w.heap.size w w1 := by rw [hw1]; exact (Below.refl _ _).alloc (Nat.le_refl _) _
  have cb : w1.cell? ⟨w.heap.size, 0, none⟩ = some (.int .i64 bl) := by rw [hw1]; exact cell0_of (heap_alloc_new w _) rfl
  have hM1 := hM.below hb1
  obtain ⟨c0, c1, c2, c3, c4, c5, c6⟩ := seven_cells hM1.box
  have hol := (List.getElem?_eq_some_iff.1 how).1
  have hkk := (List.getElem?_eq_some_iff.1 hks).1
  obtain ⟨go, oo, co, hvo, hoc, cow, fow⟩ := (hM1.q.q 0 (x.vo, x.ow) rfl).cell how
  obtain ⟨gz, oz, cz, hvz, hzc, csz, fsz⟩ := (hM1.q.q 1 (x.vz, x.sz) rfl).cell hsz
  have hzl := (List.getElem?_eq_some_iff.1 hsz).1
  simp only at hvo hvz
  obtain ⟨gh, ch, hvh⟩ := hM1.hform (by omega)
  obtain ⟨nz, hnz⟩ : ∃ nz, nz = x.sz.length := ⟨_, rfl⟩
  obtain ⟨no, hno⟩ : ∃ no, no = x.ow.length := ⟨_, rfl⟩
  obtain ⟨nk, hnk⟩ : ∃ nk, nk = x.ks.length := ⟨_, rfl⟩
  obtain ⟨d0, d1, df⟩ := hM1.hcell hvh hH hks
  rw [hvo, ← hno] at c3
  rw [hvz, ← hnz] at c4
  rw [hvh, ← hnk] at c2
  rw [← hno] at hol
  rw [← hnz] at hzl
  rw [← hnk] at hkk hkl ⊢
  have p0 : (0 : Int) ≤ (bl : Int) := by omega
  have p1 : (bl : Int) < (no : Int) := by omega
  have p2 : (bl : Int) < (nz : Int) := by omega
  have p3 : (0 : Int) ≤ (o : Int) := by omega
  have p4 : (o : Int) < (nk : Int) := by omega
  have hvO1 : OwnI w1 B v bs := trow_at hvO fun b e => hb1.block b (hvO.lt b e).2
  have hvn : ∀ b, v.ownBlock = some b → w.heap.size ≠ b := fun b e e2 => by have := (hvO.lt b e).2; omega
  have H : Hid _ := And.intro hM1 (And.intro hb1 (And.intro hvo (And.intro hvz (And.intro hvh (And.intro hnz (And.intro hno (And.intro hnk (And.intro hH (And.intro hks (And.intro hvO1 (And.intro hvn (And.intro hw1 (And.intro hkl hbl)))))))))))))
  have H0 : Hid _ := And.intro how (And.intro hsz hM)
  have hd0 := d0
  obtain ⟨av, cv, hve⟩ := row_shape hvO1
  have HV : Hid _ := hve
  rw [hve] at d0
  obtain ⟨nb, hnb⟩ : ∃ nb, nb = bs.length := ⟨_, rfl⟩
  rw [← hnb] at d0
  have HNB : Hid _ := And.intro hnb (And.intro hd0 (And.intro d1 df))
  clear hM hM1 hvo hvz hvh hnz hno hnk hH hks hvO hvO1 hvn how hsz hoc hzc hb1 hve hd0 hnb d1 df hbl hb0 hw1
  go_enter Tryz.func160, Tryz.ntmps160
  go_upto_region 1 with fail
  rw [← H.out.2.2.2.2.2.2.2.2.2.2.2.2.1]
  refine wp_region_held_drew (S := (fun w' => (w'.cell? ⟨r, 2, none⟩ = some (.slice (some ⟨gh, 0, none⟩) nk ch) ∧ w'.cell? ⟨r, 3, none⟩ = some (.slice (some ⟨go, oo, none⟩) no co)) ∧ w'.cell? ⟨w.heap.size, 0, none⟩ = some (.int .i64 bl) ∧ w'.cell? ⟨go, oo + bl, none⟩ = some (.int .i64 o))) (by kernel_rfl) ?_ (fun hHeld => ?_)
  · exact ⟨⟨c2, c3⟩, cb, cow⟩
  refine wpAnyH_take (i := 0) (oi := _) (v := ?_) rfl (by kernel_rfl) (by kernel_rfl) (by kernel_rfl) (fun _ _ _ h => h) (Or.inl ⟨by rfl, ?_⟩) (by assumption) ?_; rotate_left; (focus (intro w hSw; (try dsimp only at hSw); go_simp; (try with_reducible rfl))); (try simp only [List.getElem_toArray, List.getElem_cons_succ, List.getElem_cons_zero, Act.put, List.setIfInBounds_toArray, List.set_cons_zero, List.set_cons_succ])
  refine wpAnyH_take (i := 1) (oi := _) (v := ?_) rfl (by kernel_rfl) (by kernel_rfl) (by kernel_rfl) (fun _ _ _ h => h) (Or.inl ⟨by rfl, ?_⟩) (by assumption) ?_; rotate_left; (focus (intro w hSw; (try dsimp only at hSw); go_simp; (try with_reducible rfl))); (try simp only [List.getElem_toArray, List.getElem_cons_succ, List.getElem_cons_zero, Act.put, List.setIfInBounds_toArray, List.set_cons_zero, List.set_cons_succ])
  refine wpAnyH_take (i := 2) (oi := _) (v := ?_) rfl (by kernel_rfl) (by kernel_rfl) (by kernel_rfl) (fun _ _ _ h => h) (Or.inl ⟨by rfl, ?_⟩) (by assumption) ?_; rotate_left; (focus (intro w hSw; (try dsimp only at hSw); go_simp; (try with_reducible rfl))); (try simp only [List.getElem_toArray, List.getElem_cons_succ, List.getElem_cons_zero, Act.put, List.setIfInBounds_toArray, List.set_cons_zero, List.set_cons_succ])
  refine wpAnyH_take (i := 3) (oi := _) (v := ?_) rfl (by kernel_rfl) (by kernel_rfl) (by kernel_rfl) (fun _ _ _ h => h) (Or.inl ⟨by rfl, ?_⟩) (by assumption) ?_; rotate_left; (focus (intro w hSw; (try dsimp only at hSw); go_simp; (try with_reducible rfl))); (try simp only [List.getElem_toArray, List.getElem_cons_succ, List.getElem_cons_zero, Act.put, List.setIfInBounds_toArray, List.set_cons_zero, List.set_cons_succ])
  refine wpAnyH_take (i := 4) (oi := _) (v := ?_) rfl (by kernel_rfl) (by kernel_rfl) (by kernel_rfl) (fun _ _ _ h => h) (Or.inl ⟨by rfl, ?_⟩) (by assumption) ?_; rotate_left; (focus (intro w hSw; (try dsimp only at hSw); go_simp; (try with_reducible rfl))); (try simp only [List.getElem_toArray, List.getElem_cons_succ, List.getElem_cons_zero, Act.put, List.setIfInBounds_toArray, List.set_cons_zero, List.set_cons_succ])
  refine wpAnyH_take (i := 5) (oi := _) (v := ?_) rfl (by kernel_rfl) (by kernel_rfl) (by kernel_rfl) (fun _ _ _ h => h) (Or.inl ⟨by rfl, ?_⟩) (by assumption) ?_; rotate_left; (focus (intro w hSw; (try dsimp only at hSw); go_simp; (try with_reducible rfl))); (try simp only [List.getElem_toArray, List.getElem_cons_succ, List.getElem_cons_zero, Act.put, List.setIfInBounds_toArray, List.set_cons_zero, List.set_cons_succ])
  refine wpAnyH_take (i := 6) (oi := _) (v := ?_) rfl (by kernel_rfl) (by kernel_rfl) (by kernel_rfl) (fun _ _ _ h => h) (Or.inl ⟨by rfl, ?_⟩) (by assumption) ?_; rotate_left; (focus (intro w hSw; (try dsimp only at hSw); go_simp; (try with_reducible rfl))); (try simp only [List.getElem_toArray, List.getElem_cons_succ, List.getElem_cons_zero, Act.put, List.setIfInBounds_toArray, List.set_cons_zero, List.set_cons_succ])
  refine wpAnyH_take (i := 7) (oi := _) (v := ?_) rfl (by kernel_rfl) (by kernel_rfl) (by kernel_rfl) (fun _ _ _ h => h) (Or.inl ⟨by rfl, ?_⟩) (by assumption) ?_; rotate_left; (focus (intro w hSw; (try dsimp only at hSw); go_simp; (try with_reducible rfl))); (try simp only [List.getElem_toArray, List.getElem_cons_succ, List.getElem_cons_zero, Act.put, List.setIfInBounds_toArray, List.set_cons_zero, List.set_cons_succ])
  refine wpAnyH_take (i := 8) (oi := _) (v := ?_) rfl (by kernel_rfl) (by kernel_rfl) (by kernel_rfl) (fun _ _ _ h => h) (Or.inl ⟨by rfl, ?_⟩) (by assumption) ?_; rotate_left; (focus (intro w hSw; (try dsimp only at hSw); go_simp; (try with_reducible rfl))); (try simp only [List.getElem_toArray, List.getElem_cons_succ, List.getElem_cons_zero, Act.put, List.setIfInBounds_toArray, List.set_cons_zero, List.set_cons_succ])
  refine wpAnyH_take (i := 9) (oi := _) (v := ?_) rfl (by kernel_rfl) (by kernel_rfl) (by kernel_rfl) (fun _ _ _ h => h) (Or.inl ⟨by rfl, ?_⟩) (by assumption) ?_; rotate_left; (focus (intro w hSw; (try dsimp only at hSw); go_simp; (try with_reducible rfl))); (try simp only [List.getElem_toArray, List.getElem_cons_succ, List.getElem_cons_zero, Act.put, List.setIfInBounds_toArray, List.set_cons_zero, List.set_cons_succ])
  refine wpAnyH_take (i := 10) (oi := _) (v := ?_) rfl (by kernel_rfl) (by kernel_rfl) (by kernel_rfl) (fun _ _ _ h => h) (Or.inl ⟨by rfl, ?_⟩) (by assumption) ?_; rotate_left; (focus (intro w hSw; (try dsimp only at hSw); go_simp; (try with_reducible rfl))); (try simp only [List.getElem_toArray, List.getElem_cons_succ, List.getElem_cons_zero, Act.put, List.setIfInBounds_toArray, List.set_cons_zero, List.set_cons_succ])
  refine wpAnyH_take (i := 11) (oi := _) (v := ?_) rfl (by kernel_rfl) (by kernel_rfl) (by kernel_rfl) (fun _ _ _ h => h) (Or.inl ⟨by rfl, ?_⟩) (by assumption) ?_; rotate_left; (focus (intro w hSw; (try dsimp only at hSw); go_simp; (try with_reducible rfl))); (try simp only [List.getElem_toArray, List.getElem_cons_succ, List.getElem_cons_zero, Act.put, List.setIfInBounds_toArray, List.set_cons_zero, List.set_cons_succ])
  refine wpAnyH_take (i := 12) (oi := _) (v := ?_) rfl (by kernel_rfl) (by kernel_rfl) (by kernel_rfl) (fun _ _ _ h => h) (Or.inl ⟨by rfl, ?_⟩) (by assumption) ?_; rotate_left; (focus (intro w hSw; (try dsimp only at hSw); go_simp; (try with_reducible rfl))); (try simp only [List.getElem_toArray, List.getElem_cons_succ, List.getElem_cons_zero, Act.put, List.setIfInBounds_toArray, List.set_cons_zero, List.set_cons_succ])
  refine wpAnyH_take (i := 13) (oi := _) (v := ?_) rfl (by kernel_rfl) (by kernel_rfl) (by kernel_rfl) (fun _ _ _ h => h) (Or.inl ⟨by rfl, ?_⟩) (by assumption) ?_; rotate_left; (focus (intro w hSw; (try dsimp only at hSw); go_simp; (try with_reducible rfl))); (try simp only [List.getElem_toArray, List.getElem_cons_succ, List.getElem_cons_zero, Act.put, List.setIfInBounds_toArray, List.set_cons_zero, List.set_cons_succ])
  refine wpAnyH_done (by kernel_rfl) ?_ _
  (try go_simp)
  clear hHeld
  have hbd : Below w1.heap.size w1 w1.drew := (Below.refl _ _).drew
  obtain ⟨wA, hwA⟩ : ∃ wA, wA = w1.drew := ⟨_, rfl⟩
  rw [← hwA] at hbd ⊢
  clear hwA
  have hve := HV.out
  rw [← HNB.out.1] at hve
  subst hve
  have hMA := H.out.1.below hbd
  have e2 := sg_cell c2 hbd
  have ebb := sg_cell cb hbd
  have ed0 := sg_cell d0 hbd
  have hOA : OwnI wA B (.slice av nb cv) bs := trow_at H.out.2.2.2.2.2.2.2.2.2.2.1 fun b e => hbd.block b (H.out.2.2.2.2.2.2.2.2.2.2.1.lt b e).2
  have hDel := deleteFunc1 186 B (.pointer (some ⟨w.heap.size, 0, none⟩)) (fun z => z == (bl : Int)) (.slice av nb cv) bs wA hOA (by have := H.out.2.2.2.2.2.2.2.2.2.2.2.2.2.2; omega) (enters_of Tryz.func186 (by kernel_rfl) rfl) (lift1_asks w.heap.size bl _ _ wA ebb fun e => H.out.2.2.2.2.2.2.2.2.2.2.2.1 _ e rfl)
  have hgn : (Value.slice av nb cv).ownBlock ≠ some gh := fun e => hMA.heap_list (b := gh) (by rw [H.out.2.2.2.2.1]; rfl) ⟨_, List.mem_of_getElem? (show x.L[o + 3]? = some _ from H.out.2.2.2.2.2.2.2.2.1), e⟩
  have hgf : wA.frozen? ⟨gh, o * 2, none⟩ = false := (hMA.hcell H.out.2.2.2.2.1 H.out.2.2.2.2.2.2.2.2.1 H.out.2.2.2.2.2.2.2.2.2.1).2.2 _
  have HD : Hid _ := And.intro hDel (And.intro hgn (And.intro hgf (And.intro hMA (And.intro hbd (And.intro ebb trivial)))))
  clear hDel hgn hgf hMA hbd c0 c1 c2 c3 c4 c5 c6 cb cow fow csz fsz d0 hOA ebb HV
  go_upto_region 4 with (go_at_call 162; refine Calls.mono HD.out.1 ?_; rintro r1 w2 ⟨v', rfl, hO2, hob, hkp⟩; obtain ⟨a2, m2, hv2⟩ := row_shape hO2; obtain ⟨n2, hn2⟩ : ∃ n2, n2 = (bs.filter fun b => !(b == (bl : Int))).length := ⟨_, rfl⟩; rw [← hn2] at hv2; subst hv2; have q0 := kcell2 hkp HD.out.2.1 ed0; have qf : w2.frozen? ⟨gh, o * 2, none⟩ = false := (World.frozen?_of_block (hkp.block gh (World.block_lt_of_cell? wA _ ed0) HD.out.2.1)).trans HD.out.2.2.1; have H2 : Hid _ := And.intro hO2 (And.intro hob (And.intro hkp hn2)); clear hO2 hob hkp hn2)
  obtain ⟨xB, hxB⟩ : ∃ xB : Rv, xB = { x with H := x.H.set o (.slice a2 n2 m2, bs.filter fun b => !(b == (bl : Int))) } := ⟨_, rfl⟩
  obtain ⟨wB, hwB⟩ : ∃ wB, wB = w2.setCell ⟨gh, o * 2, none⟩ (.slice a2 n2 m2) := ⟨_, rfl⟩
  rw [← hwB]
  have hMB : RnM wB B r g p mb xB := by rw [hwB, hxB]; exact HD.out.2.2.2.1.putHeap H.out.2.2.2.2.1 H.out.2.2.2.2.2.2.2.2.1 H2.out.2.2.1 (Que.of_own H2.out.1) (.inl H2.out.2.1) H2.out.1.at0
  have hkB : Kept (fun b => (Value.slice av nb cv).ownBlock = some b ∨ b = gh) wA wB := by rw [hwB]; exact (H2.out.2.2.1.mono fun _ _ e => .inl e).trans ((Kept.setCell w2 gh _ _).mono fun _ _ e => .inr e)
  have hbA : Below w.heap.size w wA := sg_bel HD.out.2.2.2.2.1 H.out.2.1
  have hghf : x.foot gh := .inl (by rw [H.out.2.2.2.2.1]; rfl)
  have hvf : ∀ b, (Value.slice av nb cv).ownBlock = some b → x.foot b := fun b e => .inr ⟨_, List.mem_of_getElem? (show x.L[o + 3]? = some _ from H.out.2.2.2.2.2.2.2.2.1), e⟩
  have hGB : Grew w wB r x xB := ⟨(Kept.of_below hbA).trans (hkB.mono fun b _ e => .inr (e.elim (hvf b) fun e => by rw [e]; exact hghf)), fun b hb => by rw [hxB] at hb; exact foot_app (x := x) (k := o + 3) (v' := .slice a2 n2 m2) (zs' := bs.filter fun b => !(b == (bl : Int))) H.out.2.2.2.2.2.2.2.2.1 (.inl H2.out.2.1) hb⟩
  have hbbf : ¬ ((Value.slice av nb cv).ownBlock = some w.heap.size ∨ w.heap.size = gh) := fun e => by
    rcases e with e | e
    · have := (H0.out.2.2.foot_lt (hvf _ e)).2; omega
    · have := (H0.out.2.2.foot_lt hghf).2; omega
  have f0 : wB.cell? ⟨w.heap.size, 0, none⟩ = some (.int .i64 bl) := (World.cell?_of_block (a := ⟨w.heap.size, 0, none⟩) (hkB.block w.heap.size (World.block_lt_of_cell? wA _ HD.out.2.2.2.2.2.1) hbbf)).trans HD.out.2.2.2.2.2.1
  have hvhB : xB.vh = .slice (some ⟨gh, 0, none⟩) xB.ks.length ch := by rw [hxB]; exact H.out.2.2.2.2.1
  obtain ⟨_, f1, f2⟩ := hMB.hcell (o := o) (k := k) hvhB (by rw [hxB]; exact List.getElem?_set_self (List.getElem?_eq_some_iff.1 H.out.2.2.2.2.2.2.2.2.1).1) (by rw [hxB]; exact H.out.2.2.2.2.2.2.2.2.2.1)
  have f3 := (seven_cells hMB.box).2.2.2.2.1
  rw [show xB.vz = .slice (some ⟨gz, oz, none⟩) nz cz by rw [hxB, H.out.2.2.2.2.2.1]; exact H.out.2.2.2.1] at f3
  have f4 := (Que.cellAt (w := wB) (B := B) (g := gz) (off := oz) (n := nz) (cap := cz) (by have h9 := hMB.q.q 1 (xB.vz, xB.sz) rfl; rw [show xB.vz = .slice (some ⟨gz, oz, none⟩) nz cz by rw [hxB, H.out.2.2.2.2.2.1]; exact H.out.2.2.2.1] at h9; exact h9) (show xB.sz[bl]? = some (z : Int) by rw [hxB]; exact H0.out.2.1)).1
  have f5 := f2 (o * 2 + 1)
  have p5 : IntKind.i64.wrap ((k : Int) - (z : Int)) = (k : Int) - (z : Int) := by rw [IntKind.wrap_i64]; omega
  have HB : Hid _ := And.intro hMB (And.intro hGB (And.intro hxB (And.intro hvhB (And.intro hbbf hghf))))
  clear hMB hGB hxB hvhB hbbf hghf hvf hbA hkB hwB f2 q0 qf ed0 e2
  go_region
  have hpc : (k : Int) - (z : Int) = ((k - z : Nat) : Int) := by omega
  rw [hpc]
  obtain ⟨wC, hwC⟩ : ∃ wC, wC = (wB.setCell ⟨gh, o * 2 + 1, none⟩ (.int .i64 ((k - z : Nat) : Int))).drew := ⟨_, rfl⟩
  rw [← hwC]
  obtain ⟨xC, hxC⟩ : ∃ xC : Rv, xC = { xB with ks := xB.ks.set o (k - z) } := ⟨_, rfl⟩
  have hMC : RnM wC B r g p mb xC := by rw [hwC, hxC]; exact (HB.out.1.putStates HB.out.2.2.2.1 (o := o) (k - z)).below ((Below.refl _ _).drew)
  have hkC : Kept (fun b => b = gh) wB wC := by rw [hwC]; exact (Kept.setCell wB gh _ _).trans (Kept.of_below ((Below.refl _ _).drew))
  have hfC : xB.foot = xC.foot := by rw [hxC]; rfl
  have hGC : Grew w wC r x xC := HB.out.2.1.trans ⟨hkC.mono fun b _ e => .inr (.inl (by rw [HB.out.2.2.2.1, e]; rfl)), fun b hb => .inl (by rw [hfC]; exact hb)⟩
  have g0 : wC.cell? ⟨w.heap.size, 0, none⟩ = some (.int .i64 bl) := (World.cell?_of_block (a := ⟨w.heap.size, 0, none⟩) (hkC.block w.heap.size (World.block_lt_of_cell? wB _ f0) fun e => HB.out.2.2.2.2.1 (.inr e))).trans f0
  have hlC : xC.ks.length = nk := by rw [hxC, HB.out.2.2.1, H.out.2.2.2.2.2.2.2.1]; exact List.length_set
  have hvhC : xC.vh = .slice (some ⟨gh, 0, none⟩) nk ch := by rw [hxC]; show xB.vh = _; rw [HB.out.2.2.1, H.out.2.2.2.2.2.2.2.1]; exact H.out.2.2.2.2.1
  have hvzC : xC.vz = .slice (some ⟨gz, oz, none⟩) nz cz := by rw [hxC, HB.out.2.2.1, H.out.2.2.2.2.2.1]; exact H.out.2.2.2.1
  have hvoC : xC.vo = .slice (some ⟨go, oo, none⟩) no co := by rw [hxC, HB.out.2.2.1, H.out.2.2.2.2.2.2.1]; exact H.out.2.2.1
  have hszC : xC.sz = x.sz := by rw [hxC, HB.out.2.2.1]
  have howC : xC.ow = x.ow := by rw [hxC, HB.out.2.2.1]
  have g1 := (seven_cells hMC.box).2.2.2.2.1
  rw [hvzC] at g1
  have g2 := (seven_cells hMC.box).2.2.1
  rw [hvhC] at g2
  have g3 := (Que.cellAt (w := wC) (B := B) (g := gz) (off := oz) (n := nz) (cap := cz) (by have h9 := hMC.q.q 1 (xC.vz, xC.sz) rfl; rw [hvzC] at h9; exact h9) (show xC.sz[bl]? = some (z : Int) by rw [hszC]; exact H0.out.2.1)).1
  have hwn : World.ownsRow wC B 221 2 (.slice (some ⟨gh, 0, none⟩) nk ch) nk (hpC xC.H xC.ks) := by have h9 := hMC.hp; rw [hvhC, hlC] at h9; exact h9
  obtain ⟨i0, hi0, hz0, hz1, hz2⟩ := info_parts Tryz.infoHp
  have HC : Hid _ := And.intro hMC (And.intro hGC (And.intro hxC (And.intro hlC (And.intro hvhC (And.intro hvoC (And.intro howC (And.intro hwn (And.intro hszC hvzC))))))))
  clear hMC hGC hxC hlC hvzC hvhC hvoC howC hwn hszC hkC hfC hwC hpc f0 f1 f3 f4 f5 p5
  have hba : Below wC.heap.size wC (wC.alloc (.cells #[.int .i64 bl] 3)) := (Below.refl _ _).alloc (Nat.le_refl _) _
  have k0 := sg_cell g0 hba
  have k1 := sg_cell g1 hba
  have k2 := sg_cell g2 hba
  have k3 := sg_cell g3 hba
  obtain ⟨W3, hW3⟩ : ∃ W3, W3 = ((wC.alloc (.cells #[.int .i64 bl] 3)).alloc (.cells #[.slice (some ⟨wC.heap.size, 0, none⟩) 1 1, .int .i64 z] 221)).drew := ⟨_, rfl⟩
  have hb3 : Below wC.heap.size wC W3 := by rw [hW3]; exact (((Below.refl _ _).alloc (Nat.le_refl _) _).alloc (by rw [World.size_alloc]; omega) _).drew
  have hs3 : W3.heap.size = wC.heap.size + 2 := by rw [hW3]; simp
  have hn3 : W3.heap[wC.heap.size + 1]? = some (.cells #[.slice (some ⟨wC.heap.size, 0, none⟩) 1 1, .int .i64 z] 221 (0, 0)) := by rw [hW3]; have h9 := heap_alloc_new (wC.alloc (.cells #[.int .i64 bl] 3)) (.cells #[.slice (some ⟨wC.heap.size, 0, none⟩) 1 1, .int .i64 z] 221); rw [World.size_alloc] at h9; exact h9
  have hm3 : W3.heap[wC.heap.size]? = some (.cells #[.int .i64 bl] 3 (0, 0)) := by rw [hW3]; exact (heap_alloc_old (wC.alloc (.cells #[.int .i64 bl] 3)) _ (by rw [World.size_alloc]; omega)).trans (heap_alloc_new wC _)
  have hO3 := own_up (F := fun _ => False) HC.out.2.2.2.2.2.2.2.1 (Kept.of_below hb3) (fun _ _ h => h)
  have hB3 : B ≤ wC.heap.size := by have := t_lt HC.out.1.box; have := HC.out.1.up; omega
  have hx3 : W3.heap[r]? = wC.heap[r]? := hb3.block r (t_lt HC.out.1.box)
  have hml : nk + 1 ≤ maxLen := by unfold maxLen; have := H.out.2.2.2.2.2.2.2.2.2.2.2.2.2.1; omega
  have hby : (nk + 1) * 32 ≤ 140737488355328 := by have := H.out.2.2.2.2.2.2.2.2.2.2.2.2.2.1; omega
  have HW : Hid _ := And.intro hb3 (And.intro hs3 (And.intro hn3 (And.intro hm3 (And.intro hO3 (And.intro hB3 (And.intro hx3 hW3))))))
  clear hb3 hs3 hn3 hm3 hO3 hB3 hx3 hW3
  have hrw : r ≠ w.heap.size := by have := t_lt H0.out.2.2.box; omega
  have hbg : w.heap.size ≠ gh := fun e => HB.out.2.2.2.2.1 (.inr e)
  have hrg : r ≠ gh := fun e => HC.out.1.r_foot (.inl (by rw [HC.out.2.2.2.2.1, e]; rfl))
  have hzf : Foot xC.L gz := ⟨(xC.vz, xC.sz), by simp [Rv.L], by rw [HC.out.2.2.2.2.2.2.2.2.2]; rfl⟩
  have hzg : gz ≠ gh := fun e => HC.out.1.heap_list (b := gh) (by rw [HC.out.2.2.2.2.1]; rfl) (by rw [← e]; exact hzf)
  have hzr : gz ≠ r := fun e => HC.out.1.r_foot (.inr (by rw [← e]; exact hzf))
  have l0 := sg_cell g0 HW.out.1
  have l1 := sg_cell g1 HW.out.1
  have l2 := sg_cell g2 HW.out.1
  have l3 := sg_cell g3 HW.out.1
  have HG : Hid _ := And.intro (And.intro l1 (And.intro l0 l3)) (And.intro hrw (And.intro hbg (And.intro hrg (And.intro hzg hzr))))
  rw [HW.out.2.2.2.2.2.2.2] at l2
  clear l0 l1 l3 hrw hbg hrg hzf hzg hzr
  have HK : Hid _ := And.intro k1 (And.intro k0 k3)
  clear k0 k1 k3
  go_upto_region 5 with fail
  refine wp_region_held_drew (S := (fun w' => w'.cell? ⟨r, 4, none⟩ = some (.slice (some ⟨gz, oz, none⟩) nz cz) ∧ w'.cell? ⟨w.heap.size, 0, none⟩ = some (.int .i64 bl) ∧ w'.cell? ⟨gz, oz + bl, none⟩ = some (.int .i64 z))) (by kernel_rfl) ?_ (fun hHeld => ?_)
  · exact ⟨g1, g0, g3⟩
  refine wpAnyH_take (i := 0) (oi := _) (v := ?_) rfl (by kernel_rfl) (by kernel_rfl) (by kernel_rfl) (fun _ _ _ h => h) (Or.inl ⟨by rfl, ?_⟩) (by assumption) ?_; rotate_left; (focus (intro w hSw; (try dsimp only at hSw); go_simp; (try with_reducible rfl))); (try simp only [List.getElem_toArray, List.getElem_cons_succ, List.getElem_cons_zero, Act.put, List.setIfInBounds_toArray, List.set_cons_zero, List.set_cons_succ])
  refine wpAnyH_take (i := 1) (oi := _) (v := ?_) rfl (by kernel_rfl) (by kernel_rfl) (by kernel_rfl) (fun _ _ _ h => h) (Or.inl ⟨by rfl, ?_⟩) (by assumption) ?_; rotate_left; (focus (intro w hSw; (try dsimp only at hSw); go_simp; (try with_reducible rfl))); (try simp only [List.getElem_toArray, List.getElem_cons_succ, List.getElem_cons_zero, Act.put, List.setIfInBounds_toArray, List.set_cons_zero, List.set_cons_succ])
  refine wpAnyH_take (i := 2) (oi := _) (v := ?_) rfl (by kernel_rfl) (by kernel_rfl) (by kernel_rfl) (fun _ _ _ h => h) (Or.inl ⟨by rfl, ?_⟩) (by assumption) ?_; rotate_left; (focus (intro w hSw; (try dsimp only at hSw); go_simp; (try with_reducible rfl))); (try simp only [List.getElem_toArray, List.getElem_cons_succ, List.getElem_cons_zero, Act.put, List.setIfInBounds_toArray, List.set_cons_zero, List.set_cons_succ])
  refine wpAnyH_take (i := 3) (oi := _) (v := ?_) rfl (by kernel_rfl) (by kernel_rfl) (by kernel_rfl) (fun _ _ _ h => h) (Or.inl ⟨by rfl, ?_⟩) (by assumption) ?_; rotate_left; (focus (intro w hSw; (try dsimp only at hSw); go_simp; (try with_reducible rfl))); (try simp only [List.getElem_toArray, List.getElem_cons_succ, List.getElem_cons_zero, Act.put, List.setIfInBounds_toArray, List.set_cons_zero, List.set_cons_succ])
  refine wpAnyH_take (i := 5) (oi := _) (v := ?_) rfl (by kernel_rfl) (by kernel_rfl) (by kernel_rfl) (fun _ _ _ h => h) (Or.inl ⟨by rfl, ?_⟩) (by assumption) ?_; rotate_left; (focus (intro w hSw; (try dsimp only at hSw); go_simp; (try with_reducible rfl))); (try simp only [List.getElem_toArray, List.getElem_cons_succ, List.getElem_cons_zero, Act.put, List.setIfInBounds_toArray, List.set_cons_zero, List.set_cons_succ])
  refine wpAnyH_take (i := 7) (oi := _) (v := ?_) rfl (by kernel_rfl) (by kernel_rfl) (by kernel_rfl) (fun _ _ _ h => h) (Or.inl ⟨by rfl, ?_⟩) (by assumption) ?_; rotate_left; (focus (intro w hSw; (try dsimp only at hSw); go_simp; (try with_reducible rfl))); (try simp only [List.getElem_toArray, List.getElem_cons_succ, List.getElem_cons_zero, Act.put, List.setIfInBounds_toArray, List.set_cons_zero, List.set_cons_succ])
  refine wpAnyH_take (i := 8) (oi := _) (v := ?_) rfl (by kernel_rfl) (by kernel_rfl) (by kernel_rfl) (fun _ _ _ h => h) (Or.inl ⟨by rfl, ?_⟩) (by assumption) ?_; rotate_left; (focus (intro w hSw; (try dsimp only at hSw); go_simp; (try with_reducible rfl))); (try simp only [List.getElem_toArray, List.getElem_cons_succ, List.getElem_cons_zero, Act.put, List.setIfInBounds_toArray, List.set_cons_zero, List.set_cons_succ])
  refine wpAnyH_take (i := 9) (oi := _) (v := ?_) rfl (by kernel_rfl) (by kernel_rfl) (by kernel_rfl) (fun _ _ _ h => h) (Or.inl ⟨by rfl, ?_⟩) (by assumption) ?_; rotate_left; (focus (intro w hSw; (try dsimp only at hSw); go_simp; (try with_reducible rfl))); (try simp only [List.getElem_toArray, List.getElem_cons_succ, List.getElem_cons_zero, Act.put, List.setIfInBounds_toArray, List.set_cons_zero, List.set_cons_succ])
  refine wpAnyH_take (i := 10) (oi := _) (v := ?_) rfl (by kernel_rfl) (by kernel_rfl) (by kernel_rfl) (fun _ _ _ h => h) (Or.inl ⟨by rfl, ?_⟩) (by assumption) ?_; rotate_left; (focus (intro w hSw; (try dsimp only at hSw); go_simp; (try with_reducible rfl))); (try simp only [List.getElem_toArray, List.getElem_cons_succ, List.getElem_cons_zero, Act.put, List.setIfInBounds_toArray, List.set_cons_zero, List.set_cons_succ])
  refine wpAnyH_take (i := 11) (oi := _) (v := ?_) rfl (by kernel_rfl) (by kernel_rfl) (by kernel_rfl) (fun _ _ _ h => h) (Or.inl ⟨by rfl, ?_⟩) (by assumption) ?_; rotate_left; (focus (intro w hSw; (try dsimp only at hSw); go_simp; (try with_reducible rfl))); (try simp only [List.getElem_toArray, List.getElem_cons_succ, List.getElem_cons_zero, Act.put, List.setIfInBounds_toArray, List.set_cons_zero, List.set_cons_succ])
  refine wpAnyH_take (i := 12) (oi := _) (v := ?_) rfl (by kernel_rfl) (by kernel_rfl) (by kernel_rfl) (fun _ _ _ h => h) (Or.inl ⟨by rfl, ?_⟩) (by assumption) ?_; rotate_left; (focus (intro w hSw; (try dsimp only at hSw); go_simp; (try with_reducible rfl))); (try simp only [List.getElem_toArray, List.getElem_cons_succ, List.getElem_cons_zero, Act.put, List.setIfInBounds_toArray, List.set_cons_zero, List.set_cons_succ])
  refine wpAnyH_take (i := 13) (oi := _) (v := ?_) rfl (by kernel_rfl) (by kernel_rfl) (by kernel_rfl) (fun _ _ _ h => h) (Or.inl ⟨by rfl, ?_⟩) (by assumption) ?_; rotate_left; (focus (intro w hSw; (try dsimp only at hSw); go_simp; (try with_reducible rfl))); (try simp only [List.getElem_toArray, List.getElem_cons_succ, List.getElem_cons_zero, Act.put, List.setIfInBounds_toArray, List.set_cons_zero, List.set_cons_succ])
  refine wpAnyH_ready (rs := [4, 6]) (by kernel_rfl) (by simp) ?_
  refine AllReadyH.cons (o := _) rfl (fun K hK => ?_) ?_
  · (go_simp)
    (try go_wp2_with fail)
    refine hK.out _ _ ?_ (fun hHeld => ?_)
    · exact hHeld
    clear hK K
    (try simp only [List.getElem_toArray, List.getElem_cons_succ, List.getElem_cons_zero, Act.put, List.setIfInBounds_toArray, List.set_cons_zero, List.set_cons_succ])
    refine wpAnyH_ready (rs := [6]) (by kernel_rfl) (by simp) ?_
    refine AllReadyH.cons (o := _) rfl (fun K hK => ?_) ?_
    · (go_simp)
      (try go_wp2_with fail)
      refine hK.out _ _ ?_ (fun hHeld => ?_)
      · exact HK.out
      clear hK K
      (try simp only [List.getElem_toArray, List.getElem_cons_succ, List.getElem_cons_zero, Act.put, List.setIfInBounds_toArray, List.set_cons_zero, List.set_cons_succ])
      refine wpAnyH_take (i := 14) (oi := _) (v := ?_) rfl (by kernel_rfl) (by kernel_rfl) (by kernel_rfl) (fun _ _ _ h => h) (Or.inl ⟨by rfl, ?_⟩) (by assumption) ?_; rotate_left; (focus (intro w hSw; (try dsimp only at hSw); go_simp; (try with_reducible rfl))); (try simp only [List.getElem_toArray, List.getElem_cons_succ, List.getElem_cons_zero, Act.put, List.setIfInBounds_toArray, List.set_cons_zero, List.set_cons_succ])
      refine wpAnyH_ready (rs := [15]) (by kernel_rfl) (by simp) ?_
      refine AllReadyH.cons (o := _) rfl (fun K hK => ?_) ?_
      · (go_simp)
        (try go_wp2_with fail)
        refine hK.out _ _ ?_ (fun hHeld => ?_)
        · (have h9 := HG.out.1; rw [HW.out.2.2.2.2.2.2.2] at h9; exact h9)
        clear hK K
        (try simp only [List.getElem_toArray, List.getElem_cons_succ, List.getElem_cons_zero, Act.put, List.setIfInBounds_toArray, List.set_cons_zero, List.set_cons_succ])
        refine wpAnyH_ready (rs := [16]) (by kernel_rfl) (by simp) ?_
        refine AllReadyH.cons (o := _) rfl (fun K hK => ?_) ?_
        · (rw [← HW.out.2.2.2.2.2.2.2]; refine step_append_lies _ (by rfl) _ _ _ (by rfl) B 221 i0 _ 2 32 Tryz.underlying200 hi0 hz0 hz1 hz2 rfl (Nat.succ_pos 1) (.slice (some ⟨gh, 0, none⟩) nk ch) nk (hpC xC.H xC.ks) (by rfl) HW.out.2.2.2.2.1 ⟨wC.heap.size + 1, 0, none⟩ 1 1 [.slice (some ⟨wC.heap.size, 0, none⟩) 1 1, .int .i64 z] (by rfl) (by rfl) (World.news_of_block HW.out.2.2.1) (by simp [Value.oneCell']) Nat.one_pos hml hby (by have := HW.out.2.1; have := HW.out.2.2.2.2.2.1; omega) (wC.heap.size + 2) HW.out.2.1 ?_; intro gg cap2 w3 hown3 hgrow hat hlt; have hk3 := Kept.of_grown hgrow; have hr3 : w3.heap[r]? = wC.heap[r]? := (hk3.block r (by have := t_lt HC.out.1.box; have := HW.out.2.1; omega) (fun e => HC.out.1.r_foot (.inl (by rw [HC.out.2.2.2.2.1]; exact e)))).trans HW.out.2.2.2.2.2.2.1; have hbx := hr3.trans HC.out.1.box; have bc := (seven_cells hbx).2.2.1; rw [HC.out.2.2.2.2.1] at bc; have bf := blk_free hbx 2; have HN : Hid _ := And.intro hown3 (And.intro hk3 (And.intro hat hlt)); clear hown3 hk3 hat hlt hbx hr3 hgrow)
          (try go_wp2_with fail)
          refine hK.out _ _ ?_ (fun hHeld => ?_)
          · exact lift_kp HN.out.2.1 HG.out.2.2.2.1 HG.out.2.2.1 HG.out.2.2.2.2.1 HG.out.1
          clear hK K
          (try simp only [List.getElem_toArray, List.getElem_cons_succ, List.getElem_cons_zero, Act.put, List.setIfInBounds_toArray, List.set_cons_zero, List.set_cons_succ])
          refine wpAnyH_take (i := 17) (oi := _) (v := ?_) rfl (by kernel_rfl) (by kernel_rfl) (by kernel_rfl) (fun _ _ _ h => h) (Or.inl ⟨by rfl, ?_⟩) (by assumption) ?_; rotate_left; (focus (intro w hSw; (try dsimp only at hSw); go_simp; (try with_reducible rfl))); (try simp only [List.getElem_toArray, List.getElem_cons_succ, List.getElem_cons_zero, Act.put, List.setIfInBounds_toArray, List.set_cons_zero, List.set_cons_succ])
          refine wpAnyH_take (i := 18) (oi := _) (v := ?_) rfl (by kernel_rfl) (by kernel_rfl) (by kernel_rfl) (fun _ _ _ h => h) (Or.inl ⟨by rfl, ?_⟩) (by assumption) ?_; rotate_left; (focus (intro w hSw; (try dsimp only at hSw); go_simp; (try with_reducible rfl))); (try simp only [List.getElem_toArray, List.getElem_cons_succ, List.getElem_cons_zero, Act.put, List.setIfInBounds_toArray, List.set_cons_zero, List.set_cons_succ])
          refine wpAnyH_ready (rs := [19]) (by kernel_rfl) (by simp) ?_
          refine AllReadyH.cons (o := _) rfl (fun K hK => ?_) ?_
          · (go_simp)
            (try go_wp2_with fail)
            refine hK.out _ _ ?_ (fun hHeld => ?_)
            · exact lift_st HG.out.2.1 HG.out.2.2.2.2.2 hHeld
            clear hK K
            (try simp only [List.getElem_toArray, List.getElem_cons_succ, List.getElem_cons_zero, Act.put, List.setIfInBounds_toArray, List.set_cons_zero, List.set_cons_succ])
            refine wpAnyH_done (by kernel_rfl) ?_ _
            (try go_simp)
            obtain ⟨xD, hxD⟩ : ∃ xD : Rv, xD = { xC with vh := .slice (some ⟨gg, 0, none⟩) (nk + 1) cap2, H := xC.H ++ [(.slice (some ⟨wC.heap.size, 0, none⟩) 1 1, [(bl : Int)])], ks := xC.ks ++ [z] } := ⟨_, rfl⟩
            obtain ⟨wD, hwD⟩ : ∃ wD, wD = w3.setCell ⟨r, 2, none⟩ (.slice (some ⟨gg, 0, none⟩) (nk + 1) cap2) := ⟨_, rfl⟩
            rw [← hwD] at hHeld ⊢
            have hk3 : Kept (fun b => xC.vh.ownBlock = some b) W3 w3 := by rw [HC.out.2.2.2.2.1]; exact HN.out.2.1
            have hat3 : (Value.slice (some ⟨gg, 0, none⟩) (nk + 1) cap2).ownBlock = xC.vh.ownBlock ∨ ∀ b, (Value.slice (some ⟨gg, 0, none⟩) (nk + 1) cap2).ownBlock = some b → W3.heap.size ≤ b := by
              rw [HC.out.2.2.2.2.1]
              rcases HN.out.2.2.1 with e | e
              · exact .inl e.symm
              · exact .inr fun b e2 => by have e3 : gg = b := Option.some.inj e2; have := HW.out.2.1; omega
            have hf3 : ∀ b, (Value.slice (some ⟨wC.heap.size, 0, none⟩) 1 1).ownBlock = some b → wC.heap.size ≤ b := fun b e => by cases e; exact Nat.le_refl _
            have hMD : RnM wD B r g p mb xD := by rw [hwD, hxD]; exact HC.out.1.snocHeap HW.out.1 (Que.one HW.out.2.2.2.2.2.1 HW.out.2.2.2.1) hf3 hk3 (by rw [HC.out.2.2.2.1]; exact HN.out.1) hat3 (at0_of _ _ _)
            have hGD : Grew w wD r x xD := HC.out.2.1.trans (by rw [hwD, hxD]; exact grew_snoc HW.out.1 hf3 hk3 hat3)
            have hvoD : xD.vo = .slice (some ⟨go, oo, none⟩) no co := by rw [hxD]; exact HC.out.2.2.2.2.2.1
            have howD : xD.ow = x.ow := by rw [hxD]; exact HC.out.2.2.2.2.2.2.1
            have j0 := hHeld.2.1
            have j1 := (seven_cells hMD.box).2.2.2.1
            rw [hvoD] at j1
            obtain ⟨j2, j3⟩ := Que.cellAt (w := wD) (B := B) (g := go) (off := oo) (n := no) (cap := co) (by have h9 := hMD.q.q 0 (xD.vo, xD.ow) rfl; rw [hvoD] at h9; exact h9) (show xD.ow[bl]? = some (o : Int) by rw [howD]; exact H0.out.1)
            have HE : Hid _ := And.intro hMD (And.intro hGD (And.intro hvoD (And.intro howD hxD)))
            clear hHeld hMD hGD hvoD howD hxD hk3 hat3 hf3 hwD bc bf
            go_upto_region 6 with fail
            go_region
            go_wp2_with fail
            go_ret2
            have hg9 := And.intro HC.out.2.2.1 HB.out.2.2.1
            refine ⟨rfl, { xD with ow := xD.ow.set bl (nk : Int) }, (HE.out.1.setOw HE.out.2.2.1 (by rw [HE.out.2.2.2.1, ← H.out.2.2.2.2.2.2.1]; exact hol) _).below ((Below.refl _ _).drew), ?_, ?_, ?_, ?_, ?_, HE.out.2.1.trans ⟨((Kept.setCell wD go _ _).mono fun b _ e => .inr (.inr ⟨(xD.vo, xD.ow), by simp [Rv.L], by simp only; rw [HE.out.2.2.1, e]; rfl⟩)).trans (Kept.of_below ((Below.refl _ _).drew)), fun b hb => foot_app (x := xD) (k := 0) (v' := xD.vo) (zs' := xD.ow.set bl (nk : Int)) rfl (.inl rfl) hb⟩⟩
            · show xD.ow.set bl (nk : Int) = _; rw [HE.out.2.2.2.1, H.out.2.2.2.2.2.2.2.1]
            · show xD.sz = _; rw [HE.out.2.2.2.2]; exact HC.out.2.2.2.2.2.2.2.2.1
            · show xD.wt = _; rw [HE.out.2.2.2.2]; show xC.wt = _; rw [hg9.1, hg9.2]
            · show xD.ks = _; rw [HE.out.2.2.2.2]; show xC.ks ++ [z] = _; rw [hg9.1, hg9.2]
            · show xD.H.map (·.2) = _; rw [HE.out.2.2.2.2]; show (xC.H ++ _).map (·.2) = _; rw [hg9.1, hg9.2, List.map_append, List.map_set]; rfl
          exact AllReadyH.nil
        exact AllReadyH.nil
      exact AllReadyH.nil
    exact AllReadyH.nil
  refine AllReadyH.cons (o := _) rfl (fun K hK => ?_) ?_
  · (go_simp)
    (try go_wp2_with fail)
    refine hK.out _ _ ?_ (fun hHeld => ?_)
    · exact HK.out
    clear hK K
    (try simp only [List.getElem_toArray, List.getElem_cons_succ, List.getElem_cons_zero, Act.put, List.setIfInBounds_toArray, List.set_cons_zero, List.set_cons_succ])
    refine wpAnyH_take (i := 14) (oi := _) (v := ?_) rfl (by kernel_rfl) (by kernel_rfl) (by kernel_rfl) (fun _ _ _ h => h) (Or.inl ⟨by rfl, ?_⟩) (by assumption) ?_; rotate_left; (focus (intro w hSw; (try dsimp only at hSw); go_simp; (try with_reducible rfl))); (try simp only [List.getElem_toArray, List.getElem_cons_succ, List.getElem_cons_zero, Act.put, List.setIfInBounds_toArray, List.set_cons_zero, List.set_cons_succ])
    refine wpAnyH_ready (rs := [4, 15]) (by kernel_rfl) (by simp) ?_
    refine AllReadyH.cons (o := _) rfl (fun K hK => ?_) ?_
    · (go_simp)
      (try go_wp2_with fail)
      refine hK.out _ _ ?_ (fun hHeld => ?_)
      · exact hHeld
      clear hK K
      (try simp only [List.getElem_toArray, List.getElem_cons_succ, List.getElem_cons_zero, Act.put, List.setIfInBounds_toArray, List.set_cons_zero, List.set_cons_succ])
      refine wpAnyH_ready (rs := [15]) (by kernel_rfl) (by simp) ?_
      refine AllReadyH.cons (o := _) rfl (fun K hK => ?_) ?_
      · (go_simp)
        (try go_wp2_with fail)
        refine hK.out _ _ ?_ (fun hHeld => ?_)
        · (have h9 := HG.out.1; rw [HW.out.2.2.2.2.2.2.2] at h9; exact h9)
        clear hK K
        (try simp only [List.getElem_toArray, List.getElem_cons_succ, List.getElem_cons_zero, Act.put, List.setIfInBounds_toArray, List.set_cons_zero, List.set_cons_succ])
        refine wpAnyH_ready (rs := [16]) (by kernel_rfl) (by simp) ?_
        refine AllReadyH.cons (o := _) rfl (fun K hK => ?_) ?_
        · (rw [← HW.out.2.2.2.2.2.2.2]; refine step_append_lies _ (by rfl) _ _ _ (by rfl) B 221 i0 _ 2 32 Tryz.underlying200 hi0 hz0 hz1 hz2 rfl (Nat.succ_pos 1) (.slice (some ⟨gh, 0, none⟩) nk ch) nk (hpC xC.H xC.ks) (by rfl) HW.out.2.2.2.2.1 ⟨wC.heap.size + 1, 0, none⟩ 1 1 [.slice (some ⟨wC.heap.size, 0, none⟩) 1 1, .int .i64 z] (by rfl) (by rfl) (World.news_of_block HW.out.2.2.1) (by simp [Value.oneCell']) Nat.one_pos hml hby (by have := HW.out.2.1; have := HW.out.2.2.2.2.2.1; omega) (wC.heap.size + 2) HW.out.2.1 ?_; intro gg cap2 w3 hown3 hgrow hat hlt; have hk3 := Kept.of_grown hgrow; have hr3 : w3.heap[r]? = wC.heap[r]? := (hk3.block r (by have := t_lt HC.out.1.box; have := HW.out.2.1; omega) (fun e => HC.out.1.r_foot (.inl (by rw [HC.out.2.2.2.2.1]; exact e)))).trans HW.out.2.2.2.2.2.2.1; have hbx := hr3.trans HC.out.1.box; have bc := (seven_cells hbx).2.2.1; rw [HC.out.2.2.2.2.1] at bc; have bf := blk_free hbx 2; have HN : Hid _ := And.intro hown3 (And.intro hk3 (And.intro hat hlt)); clear hown3 hk3 hat hlt hbx hr3 hgrow)
          (try go_wp2_with fail)
          refine hK.out _ _ ?_ (fun hHeld => ?_)
          · exact lift_kp HN.out.2.1 HG.out.2.2.2.1 HG.out.2.2.1 HG.out.2.2.2.2.1 HG.out.1
          clear hK K
          (try simp only [List.getElem_toArray, List.getElem_cons_succ, List.getElem_cons_zero, Act.put, List.setIfInBounds_toArray, List.set_cons_zero, List.set_cons_succ])
          refine wpAnyH_take (i := 17) (oi := _) (v := ?_) rfl (by kernel_rfl) (by kernel_rfl) (by kernel_rfl) (fun _ _ _ h => h) (Or.inl ⟨by rfl, ?_⟩) (by assumption) ?_; rotate_left; (focus (intro w hSw; (try dsimp only at hSw); go_simp; (try with_reducible rfl))); (try simp only [List.getElem_toArray, List.getElem_cons_succ, List.getElem_cons_zero, Act.put, List.setIfInBounds_toArray, List.set_cons_zero, List.set_cons_succ])
          refine wpAnyH_take (i := 18) (oi := _) (v := ?_) rfl (by kernel_rfl) (by kernel_rfl) (by kernel_rfl) (fun _ _ _ h => h) (Or.inl ⟨by rfl, ?_⟩) (by assumption) ?_; rotate_left; (focus (intro w hSw; (try dsimp only at hSw); go_simp; (try with_reducible rfl))); (try simp only [List.getElem_toArray, List.getElem_cons_succ, List.getElem_cons_zero, Act.put, List.setIfInBounds_toArray, List.set_cons_zero, List.set_cons_succ])
          refine wpAnyH_ready (rs := [19]) (by kernel_rfl) (by simp) ?_
          refine AllReadyH.cons (o := _) rfl (fun K hK => ?_) ?_
          · (go_simp)
            (try go_wp2_with fail)
            refine hK.out _ _ ?_ (fun hHeld => ?_)
            · exact lift_st HG.out.2.1 HG.out.2.2.2.2.2 hHeld
            clear hK K
            (try simp only [List.getElem_toArray, List.getElem_cons_succ, List.getElem_cons_zero, Act.put, List.setIfInBounds_toArray, List.set_cons_zero, List.set_cons_succ])
            refine wpAnyH_done (by kernel_rfl) ?_ _
            (try go_simp)
            obtain ⟨xD, hxD⟩ : ∃ xD : Rv, xD = { xC with vh := .slice (some ⟨gg, 0, none⟩) (nk + 1) cap2, H := xC.H ++ [(.slice (some ⟨wC.heap.size, 0, none⟩) 1 1, [(bl : Int)])], ks := xC.ks ++ [z] } := ⟨_, rfl⟩
            obtain ⟨wD, hwD⟩ : ∃ wD, wD = w3.setCell ⟨r, 2, none⟩ (.slice (some ⟨gg, 0, none⟩) (nk + 1) cap2) := ⟨_, rfl⟩
            rw [← hwD] at hHeld ⊢
            have hk3 : Kept (fun b => xC.vh.ownBlock = some b) W3 w3 := by rw [HC.out.2.2.2.2.1]; exact HN.out.2.1
            have hat3 : (Value.slice (some ⟨gg, 0, none⟩) (nk + 1) cap2).ownBlock = xC.vh.ownBlock ∨ ∀ b, (Value.slice (some ⟨gg, 0, none⟩) (nk + 1) cap2).ownBlock = some b → W3.heap.size ≤ b := by
              rw [HC.out.2.2.2.2.1]
              rcases HN.out.2.2.1 with e | e
              · exact .inl e.symm
              · exact .inr fun b e2 => by have e3 : gg = b := Option.some.inj e2; have := HW.out.2.1; omega
            have hf3 : ∀ b, (Value.slice (some ⟨wC.heap.size, 0, none⟩) 1 1).ownBlock = some b → wC.heap.size ≤ b := fun b e => by cases e; exact Nat.le_refl _
            have hMD : RnM wD B r g p mb xD := by rw [hwD, hxD]; exact HC.out.1.snocHeap HW.out.1 (Que.one HW.out.2.2.2.2.2.1 HW.out.2.2.2.1) hf3 hk3 (by rw [HC.out.2.2.2.1]; exact HN.out.1) hat3 (at0_of _ _ _)
            have hGD : Grew w wD r x xD := HC.out.2.1.trans (by rw [hwD, hxD]; exact grew_snoc HW.out.1 hf3 hk3 hat3)
            have hvoD : xD.vo = .slice (some ⟨go, oo, none⟩) no co := by rw [hxD]; exact HC.out.2.2.2.2.2.1
            have howD : xD.ow = x.ow := by rw [hxD]; exact HC.out.2.2.2.2.2.2.1
            have j0 := hHeld.2.1
            have j1 := (seven_cells hMD.box).2.2.2.1
            rw [hvoD] at j1
            obtain ⟨j2, j3⟩ := Que.cellAt (w := wD) (B := B) (g := go) (off := oo) (n := no) (cap := co) (by have h9 := hMD.q.q 0 (xD.vo, xD.ow) rfl; rw [hvoD] at h9; exact h9) (show xD.ow[bl]? = some (o : Int) by rw [howD]; exact H0.out.1)
            have HE : Hid _ := And.intro hMD (And.intro hGD (And.intro hvoD (And.intro howD hxD)))
            clear hHeld hMD hGD hvoD howD hxD hk3 hat3 hf3 hwD bc bf
            go_upto_region 6 with fail
            go_region
            go_wp2_with fail
            go_ret2
            have hg9 := And.intro HC.out.2.2.1 HB.out.2.2.1
            refine ⟨rfl, { xD with ow := xD.ow.set bl (nk : Int) }, (HE.out.1.setOw HE.out.2.2.1 (by rw [HE.out.2.2.2.1, ← H.out.2.2.2.2.2.2.1]; exact hol) _).below ((Below.refl _ _).drew), ?_, ?_, ?_, ?_, ?_, HE.out.2.1.trans ⟨((Kept.setCell wD go _ _).mono fun b _ e => .inr (.inr ⟨(xD.vo, xD.ow), by simp [Rv.L], by simp only; rw [HE.out.2.2.1, e]; rfl⟩)).trans (Kept.of_below ((Below.refl _ _).drew)), fun b hb => foot_app (x := xD) (k := 0) (v' := xD.vo) (zs' := xD.ow.set bl (nk : Int)) rfl (.inl rfl) hb⟩⟩
            · show xD.ow.set bl (nk : Int) = _; rw [HE.out.2.2.2.1, H.out.2.2.2.2.2.2.2.1]
            · show xD.sz = _; rw [HE.out.2.2.2.2]; exact HC.out.2.2.2.2.2.2.2.2.1
            · show xD.wt = _; rw [HE.out.2.2.2.2]; show xC.wt = _; rw [hg9.1, hg9.2]
            · show xD.ks = _; rw [HE.out.2.2.2.2]; show xC.ks ++ [z] = _; rw [hg9.1, hg9.2]
            · show xD.H.map (·.2) = _; rw [HE.out.2.2.2.2]; show (xC.H ++ _).map (·.2) = _; rw [hg9.1, hg9.2, List.map_append, List.map_set]; rfl
          exact AllReadyH.nil
        exact AllReadyH.nil
      exact AllReadyH.nil
    refine AllReadyH.cons (o := _) rfl (fun K hK => ?_) ?_
    · (go_simp)
      (try go_wp2_with fail)
      refine hK.out _ _ ?_ (fun hHeld => ?_)
      · (have h9 := HG.out.1; rw [HW.out.2.2.2.2.2.2.2] at h9; exact h9)
      clear hK K
      (try simp only [List.getElem_toArray, List.getElem_cons_succ, List.getElem_cons_zero, Act.put, List.setIfInBounds_toArray, List.set_cons_zero, List.set_cons_succ])
      refine wpAnyH_ready (rs := [4]) (by kernel_rfl) (by simp) ?_
      refine AllReadyH.cons (o := _) rfl (fun K hK => ?_) ?_
      · (go_simp)
        (try go_wp2_with fail)
        refine hK.out _ _ ?_ (fun hHeld => ?_)
        · exact hHeld
        clear hK K
        (try simp only [List.getElem_toArray, List.getElem_cons_succ, List.getElem_cons_zero, Act.put, List.setIfInBounds_toArray, List.set_cons_zero, List.set_cons_succ])
        refine wpAnyH_ready (rs := [16]) (by kernel_rfl) (by simp) ?_
        refine AllReadyH.cons (o := _) rfl (fun K hK => ?_) ?_
        · (rw [← HW.out.2.2.2.2.2.2.2]; refine step_append_lies _ (by rfl) _ _ _ (by rfl) B 221 i0 _ 2 32 Tryz.underlying200 hi0 hz0 hz1 hz2 rfl (Nat.succ_pos 1) (.slice (some ⟨gh, 0, none⟩) nk ch) nk (hpC xC.H xC.ks) (by rfl) HW.out.2.2.2.2.1 ⟨wC.heap.size + 1, 0, none⟩ 1 1 [.slice (some ⟨wC.heap.size, 0, none⟩) 1 1, .int .i64 z] (by rfl) (by rfl) (World.news_of_block HW.out.2.2.1) (by simp [Value.oneCell']) Nat.one_pos hml hby (by have := HW.out.2.1; have := HW.out.2.2.2.2.2.1; omega) (wC.heap.size + 2) HW.out.2.1 ?_; intro gg cap2 w3 hown3 hgrow hat hlt; have hk3 := Kept.of_grown hgrow; have hr3 : w3.heap[r]? = wC.heap[r]? := (hk3.block r (by have := t_lt HC.out.1.box; have := HW.out.2.1; omega) (fun e => HC.out.1.r_foot (.inl (by rw [HC.out.2.2.2.2.1]; exact e)))).trans HW.out.2.2.2.2.2.2.1; have hbx := hr3.trans HC.out.1.box; have bc := (seven_cells hbx).2.2.1; rw [HC.out.2.2.2.2.1] at bc; have bf := blk_free hbx 2; have HN : Hid _ := And.intro hown3 (And.intro hk3 (And.intro hat hlt)); clear hown3 hk3 hat hlt hbx hr3 hgrow)
          (try go_wp2_with fail)
          refine hK.out _ _ ?_ (fun hHeld => ?_)
          · exact lift_kp HN.out.2.1 HG.out.2.2.2.1 HG.out.2.2.1 HG.out.2.2.2.2.1 HG.out.1
          clear hK K
          (try simp only [List.getElem_toArray, List.getElem_cons_succ, List.getElem_cons_zero, Act.put, List.setIfInBounds_toArray, List.set_cons_zero, List.set_cons_succ])
          refine wpAnyH_take (i := 17) (oi := _) (v := ?_) rfl (by kernel_rfl) (by kernel_rfl) (by kernel_rfl) (fun _ _ _ h => h) (Or.inl ⟨by rfl, ?_⟩) (by assumption) ?_; rotate_left; (focus (intro w hSw; (try dsimp only at hSw); go_simp; (try with_reducible rfl))); (try simp only [List.getElem_toArray, List.getElem_cons_succ, List.getElem_cons_zero, Act.put, List.setIfInBounds_toArray, List.set_cons_zero, List.set_cons_succ])
          refine wpAnyH_take (i := 18) (oi := _) (v := ?_) rfl (by kernel_rfl) (by kernel_rfl) (by kernel_rfl) (fun _ _ _ h => h) (Or.inl ⟨by rfl, ?_⟩) (by assumption) ?_; rotate_left; (focus (intro w hSw; (try dsimp only at hSw); go_simp; (try with_reducible rfl))); (try simp only [List.getElem_toArray, List.getElem_cons_succ, List.getElem_cons_zero, Act.put, List.setIfInBounds_toArray, List.set_cons_zero, List.set_cons_succ])
          refine wpAnyH_ready (rs := [19]) (by kernel_rfl) (by simp) ?_
          refine AllReadyH.cons (o := _) rfl (fun K hK => ?_) ?_
          · (go_simp)
            (try go_wp2_with fail)
            refine hK.out _ _ ?_ (fun hHeld => ?_)
            · exact lift_st HG.out.2.1 HG.out.2.2.2.2.2 hHeld
            clear hK K
            (try simp only [List.getElem_toArray, List.getElem_cons_succ, List.getElem_cons_zero, Act.put, List.setIfInBounds_toArray, List.set_cons_zero, List.set_cons_succ])
            refine wpAnyH_done (by kernel_rfl) ?_ _
            (try go_simp)
            obtain ⟨xD, hxD⟩ : ∃ xD : Rv, xD = { xC with vh := .slice (some ⟨gg, 0, none⟩) (nk + 1) cap2, H := xC.H ++ [(.slice (some ⟨wC.heap.size, 0, none⟩) 1 1, [(bl : Int)])], ks := xC.ks ++ [z] } := ⟨_, rfl⟩
            obtain ⟨wD, hwD⟩ : ∃ wD, wD = w3.setCell ⟨r, 2, none⟩ (.slice (some ⟨gg, 0, none⟩) (nk + 1) cap2) := ⟨_, rfl⟩
            rw [← hwD] at hHeld ⊢
            have hk3 : Kept (fun b => xC.vh.ownBlock = some b) W3 w3 := by rw [HC.out.2.2.2.2.1]; exact HN.out.2.1
            have hat3 : (Value.slice (some ⟨gg, 0, none⟩) (nk + 1) cap2).ownBlock = xC.vh.ownBlock ∨ ∀ b, (Value.slice (some ⟨gg, 0, none⟩) (nk + 1) cap2).ownBlock = some b → W3.heap.size ≤ b := by
              rw [HC.out.2.2.2.2.1]
              rcases HN.out.2.2.1 with e | e
              · exact .inl e.symm
              · exact .inr fun b e2 => by have e3 : gg = b := Option.some.inj e2; have := HW.out.2.1; omega
            have hf3 : ∀ b, (Value.slice (some ⟨wC.heap.size, 0, none⟩) 1 1).ownBlock = some b → wC.heap.size ≤ b := fun b e => by cases e; exact Nat.le_refl _
            have hMD : RnM wD B r g p mb xD := by rw [hwD, hxD]; exact HC.out.1.snocHeap HW.out.1 (Que.one HW.out.2.2.2.2.2.1 HW.out.2.2.2.1) hf3 hk3 (by rw [HC.out.2.2.2.1]; exact HN.out.1) hat3 (at0_of _ _ _)
            have hGD : Grew w wD r x xD := HC.out.2.1.trans (by rw [hwD, hxD]; exact grew_snoc HW.out.1 hf3 hk3 hat3)
            have hvoD : xD.vo = .slice (some ⟨go, oo, none⟩) no co := by rw [hxD]; exact HC.out.2.2.2.2.2.1
            have howD : xD.ow = x.ow := by rw [hxD]; exact HC.out.2.2.2.2.2.2.1
            have j0 := hHeld.2.1
            have j1 := (seven_cells hMD.box).2.2.2.1
            rw [hvoD] at j1
            obtain ⟨j2, j3⟩ := Que.cellAt (w := wD) (B := B) (g := go) (off := oo) (n := no) (cap := co) (by have h9 := hMD.q.q 0 (xD.vo, xD.ow) rfl; rw [hvoD] at h9; exact h9) (show xD.ow[bl]? = some (o : Int) by rw [howD]; exact H0.out.1)
            have HE : Hid _ := And.intro hMD (And.intro hGD (And.intro hvoD (And.intro howD hxD)))
            clear hHeld hMD hGD hvoD howD hxD hk3 hat3 hf3 hwD bc bf
            go_upto_region 6 with fail
            go_region
            go_wp2_with fail
            go_ret2
            have hg9 := And.intro HC.out.2.2.1 HB.out.2.2.1
            refine ⟨rfl, { xD with ow := xD.ow.set bl (nk : Int) }, (HE.out.1.setOw HE.out.2.2.1 (by rw [HE.out.2.2.2.1, ← H.out.2.2.2.2.2.2.1]; exact hol) _).below ((Below.refl _ _).drew), ?_, ?_, ?_, ?_, ?_, HE.out.2.1.trans ⟨((Kept.setCell wD go _ _).mono fun b _ e => .inr (.inr ⟨(xD.vo, xD.ow), by simp [Rv.L], by simp only; rw [HE.out.2.2.1, e]; rfl⟩)).trans (Kept.of_below ((Below.refl _ _).drew)), fun b hb => foot_app (x := xD) (k := 0) (v' := xD.vo) (zs' := xD.ow.set bl (nk : Int)) rfl (.inl rfl) hb⟩⟩
            · show xD.ow.set bl (nk : Int) = _; rw [HE.out.2.2.2.1, H.out.2.2.2.2.2.2.2.1]
            · show xD.sz = _; rw [HE.out.2.2.2.2]; exact HC.out.2.2.2.2.2.2.2.2.1
            · show xD.wt = _; rw [HE.out.2.2.2.2]; show xC.wt = _; rw [hg9.1, hg9.2]
            · show xD.ks = _; rw [HE.out.2.2.2.2]; show xC.ks ++ [z] = _; rw [hg9.1, hg9.2]
            · show xD.H.map (·.2) = _; rw [HE.out.2.2.2.2]; show (xC.H ++ _).map (·.2) = _; rw [hg9.1, hg9.2, List.map_append, List.map_set]; rfl
          exact AllReadyH.nil
        exact AllReadyH.nil
      exact AllReadyH.nil
    exact AllReadyH.nil
  exact AllReadyH.nil
end
section
open Go.RowKit Go.Maps
structure OutsI (w : World) (B : Nat) (us : List Value) (n : Nat) (f : Nat → List Int) : Prop where
  len : us.length = n
  row : ∀ i, i < n → ∃ u, us[i]? = some u ∧ OwnI w B u (f i)
  ap : ∀ (i j : Nat) (u x : Value) (b : Nat), us[i]? = some u → us[j]? = some x → i ≠ j → u.ownBlock = some b → x.ownBlock ≠ some b
theorem OutsI.below {w w' : World} {B : Nat} {us : List Value} {n : Nat} {f : Nat → List Int} (h : OutsI w B us n f) (hb : Below w.heap.size w w') : OutsI w' B us n f :=
  ⟨h.len, fun i hi => by obtain ⟨u, h1, h2⟩ := h.row i hi; exact ⟨u, h1, trow_at h2 fun b hb' => hb.block b (h2.lt b hb').2⟩, h.ap⟩
theorem outsI_new (w : World) (B n : Nat) : OutsI w B (List.replicate n (.slice none 0 0)) n fun _ => [] :=
  ⟨by simp, fun i hi => ⟨.slice none 0 0, by rw [List.getElem?_replicate, if_pos hi], World.ownsRow_nil _ _ _ _⟩, fun i j u x b h1 _ _ h3 => by
    rw [List.getElem?_replicate] at h1
    split at h1
    · cases h1; cases h3
    · cases h1⟩
theorem OutsI.set {w w' : World} {B : Nat} {us : List Value} {n : Nat} {f : Nat → List Int} (h : OutsI w B us n f) {i : Nat} {u u' : Value} {F : Nat → Prop} (hi : i < n) (hu : us[i]? = some u) (hk : Kept F w w') (hF : ∀ b, F b → u.ownBlock = some b ∨ ∀ (j : Nat) (x : Value), us[j]? = some x → x.ownBlock ≠ some b) {zs : List Int} (hO : OwnI w' B u' zs) (hat : u'.ownBlock = u.ownBlock ∨ ∀ b, u'.ownBlock = some b → w.heap.size ≤ b) :
    OutsI w' B (us.set i u') n (fun j => if j = i then zs else f j) := by
  refine ⟨by rw [List.length_set]; exact h.len, fun j hj => ?_, fun a c x y b hx hy hac hb => ?_⟩
  · by_cases e : j = i
    · subst e
      exact ⟨u', List.getElem?_set_self (by rw [h.len]; exact hj), by rw [if_pos rfl]; exact hO⟩
    · obtain ⟨x, h1, h2⟩ := h.row j hj
      refine ⟨x, by rw [List.getElem?_set_ne (fun e' => e e'.symm)]; exact h1, ?_⟩
      rw [if_neg e]
      refine own_up h2 hk fun b hb hf => ?_
      rcases hF b hf with hf | hf
      · exact h.ap j i x u b h1 hu e hb hf
      · exact hf j x h1 hb
  · have hold : ∀ (j : Nat) (z : Value), us[j]? = some z → j ≠ i → ∀ b, z.ownBlock = some b → u'.ownBlock ≠ some b := fun j z hz hj b hzb e => by
      rcases hat with h1 | h1
      · rw [h1] at e; exact h.ap j i z u b hz hu hj hzb e
      · have h2 := h1 b e
        obtain ⟨z', h3, h4⟩ := h.row j (by have := (List.getElem?_eq_some_iff.1 hz).1; rw [h.len] at this; exact this)
        rw [hz] at h3; cases h3
        have := (h4.lt b hzb).2
        omega
    by_cases ea : a = i
    · subst ea
      rw [List.getElem?_set_self (by rw [h.len]; exact hi)] at hx
      cases hx
      rw [List.getElem?_set_ne hac] at hy
      exact fun e => hold c y hy (fun e' => hac e'.symm) b e hb
    · rw [List.getElem?_set_ne (fun e' => ea e'.symm)] at hx
      by_cases ec : c = i
      · subst ec
        rw [List.getElem?_set_self (by rw [h.len]; exact hi)] at hy
        cases hy
        exact hold a x hx ea b hb
      · rw [List.getElem?_set_ne (fun e' => ec e'.symm)] at hy
        exact h.ap a c x y b hx hy hac hb
theorem OutsI.congr {w : World} {B : Nat} {us : List Value} {n : Nat} {f g : Nat → List Int} (h : OutsI w B us n f) (hfg : ∀ i, i < n → f i = g i) : OutsI w B us n g :=
  ⟨h.len, fun i hi => by rw [← hfg i hi]; exact h.row i hi, h.ap⟩
theorem OutsI.kept {w w' : World} {B : Nat} {us : List Value} {n : Nat} {f : Nat → List Int} {F : Nat → Prop} (h : OutsI w B us n f) (hk : Kept F w w') (hF : ∀ (j : Nat) (x : Value), us[j]? = some x → ∀ b, x.ownBlock = some b → ¬ F b) : OutsI w' B us n f :=
  ⟨h.len, fun i hi => by obtain ⟨u, h1, h2⟩ := h.row i hi; exact ⟨u, h1, own_up h2 hk fun b hb => hF i u h1 b hb⟩, h.ap⟩
theorem OutsI.base {w : World} {B B' : Nat} {us : List Value} {n : Nat} {f : Nat → List Int} (h : OutsI w B us n f) (hb : B' ≤ B) : OutsI w B' us n f :=
  ⟨h.len, fun i hi => by obtain ⟨u, h1, h2⟩ := h.row i hi; exact ⟨u, h1, row_base h2 hb⟩, h.ap⟩
end
namespace Sy
def cnt (l : List Ed) (r : Int) : Nat := (l.filter fun e => decide (e.1 < r)).length
def Rows (l : List Ed) : Prop := l.Pairwise fun a b => a.1 ≤ b.1
theorem cnt_le (l : List Ed) (r : Int) : cnt l r ≤ l.length := List.length_filter_le _ _
theorem cnt_all {l : List Ed} {r : Int} (h : ∀ e ∈ l, e.1 < r) : cnt l r = l.length := by
  unfold cnt
  rw [List.filter_eq_self.2 fun e he => by simpa using h e he]
theorem cnt_none {l : List Ed} {r : Int} (h : ∀ e ∈ l, ¬ e.1 < r) : cnt l r = 0 := by
  unfold cnt
  rw [List.filter_eq_nil_iff.2 fun e he => by simpa using h e he]
  rfl
theorem cnt_cons (e : Ed) (l : List Ed) (r : Int) : cnt (e :: l) r = (if e.1 < r then 1 else 0) + cnt l r := by
  unfold cnt
  rw [List.filter_cons]
  by_cases h : e.1 < r
  · simp [h]; omega
  · simp [h]
theorem cnt_snoc (l : List Ed) (e : Ed) (r : Int) : cnt (l ++ [e]) r = cnt l r + if e.1 < r then 1 else 0 := by
  unfold cnt
  rw [List.filter_append, List.length_append]
  by_cases h : e.1 < r <;> simp [h]
theorem cnt_mono (l : List Ed) (r : Int) : cnt l r ≤ cnt l (r + 1) := by
  induction l with
  | nil => simp [cnt]
  | cons e t ih =>
    rw [cnt_cons, cnt_cons]
    by_cases h : e.1 < r
    · have h2 : e.1 < r + 1 := by omega
      simp [h, h2]; exact ih
    · by_cases h2 : e.1 < r + 1 <;> simp [h, h2] <;> omega
theorem row_piece {l : List Ed} (h : Rows l) (i : Int) : l.filter (fun e => e.1 == i) = (l.drop (cnt l i)).take (cnt l (i + 1) - cnt l i) := by
  induction l with
  | nil => simp
  | cons e r ih =>
    obtain ⟨h1, h2⟩ := List.pairwise_cons.1 h
    have ih := ih h2
    rw [cnt_cons, cnt_cons]
    by_cases c1 : e.1 < i
    · have c2 : e.1 < i + 1 := by omega
      have c3 : (e.1 == i) = false := by simp; omega
      rw [List.filter_cons, c3, if_pos c1, if_pos c2, Nat.add_comm 1 (cnt r i), List.drop_succ_cons]
      have e1 : 1 + cnt r (i + 1) - (cnt r i + 1) = cnt r (i + 1) - cnt r i := by omega
      rw [e1]
      simpa using ih
    · have hz : cnt r i = 0 := cnt_none fun x hx => by have := h1 x hx; omega
      by_cases c2 : e.1 = i
      · have c3 : (e.1 == i) = true := by simp [c2]
        have c4 : e.1 < i + 1 := by omega
        rw [List.filter_cons, c3, if_neg c1, if_pos c4, hz]
        rw [hz] at ih
        simp only [List.drop_zero, Nat.sub_zero, if_true] at ih ⊢
        rw [ih, Nat.add_comm 1]
        simp
      · have c3 : (e.1 == i) = false := by simpa using c2
        have c4 : ¬ e.1 < i + 1 := by omega
        have hz2 : cnt r (i + 1) = 0 := cnt_none fun x hx => by have := h1 x hx; omega
        rw [List.filter_cons, c3, if_neg c1, if_neg c4, hz, hz2]
        rw [hz, hz2] at ih
        simpa using ih
def lastOf (l : List Ed) (r : Int) : Nat := (l.foldl (fun (p : Nat × Nat) e => (p.1 + 1, if e.1 = r then p.1 + 1 else p.2)) (0, 0)).2
theorem last_fst (r : Int) (l : List Ed) : ∀ p : Nat × Nat, (l.foldl (fun (p : Nat × Nat) (e : Ed) => (p.1 + 1, if e.1 = r then p.1 + 1 else p.2)) p).1 = p.1 + l.length := by
  induction l with
  | nil => intro p; rfl
  | cons e t ih => intro p; rw [List.foldl_cons, ih]; simp; omega
theorem last_snoc (l : List Ed) (e : Ed) (r : Int) : lastOf (l ++ [e]) r = if e.1 = r then l.length + 1 else lastOf l r := by
  unfold lastOf
  rw [List.foldl_append]
  simp only [List.foldl_cons, List.foldl_nil, last_fst, Nat.zero_add]
theorem last_none {l : List Ed} {r : Int} (h : ∀ e ∈ l, e.1 ≠ r) : ∀ i, i ≤ l.length → lastOf (l.take i) r = 0 := by
  intro i
  induction i with
  | zero => intro _; rfl
  | succ i ih =>
    intro hi
    obtain ⟨x, hx⟩ : ∃ x, l[i]? = some x := ⟨l[i], List.getElem?_eq_getElem _⟩
    rw [take_succ_of hx, last_snoc, if_neg (h x (List.mem_of_getElem? hx))]
    exact ih (by omega)
theorem rows_take {l : List Ed} (h : Rows l) {i : Nat} {x : Ed} (hx : l[i]? = some x) : ∀ e ∈ l.take i, e.1 ≤ x.1 := fun e he => by
  obtain ⟨j, hj, rfl⟩ := List.mem_take_iff_getElem.1 he
  obtain ⟨hi, rfl⟩ := List.getElem?_eq_some_iff.1 hx
  exact List.pairwise_iff_getElem.1 h j i (by omega) hi (by omega)
theorem cnt_last {l : List Ed} (h : Rows l) (r : Int) : ∀ i, i ≤ l.length → cnt (l.take i) (r + 1) = max (lastOf (l.take i) r) (cnt (l.take i) r) := by
  intro i
  induction i with
  | zero => intro _; simp [cnt, lastOf]
  | succ i ih =>
    intro hi
    obtain ⟨x, hx⟩ : ∃ x, l[i]? = some x := ⟨l[i], List.getElem?_eq_getElem _⟩
    have hle := rows_take h hx
    have hlen : (l.take i).length = i := by rw [List.length_take]; omega
    rw [take_succ_of hx, cnt_snoc, cnt_snoc, last_snoc, hlen]
    by_cases c1 : x.1 = r
    · have e1 : cnt (l.take i) (r + 1) = i := by rw [cnt_all fun e he => by have := hle e he; omega]; exact hlen
      have e2 := cnt_le (l.take i) r
      rw [hlen] at e2
      rw [e1, if_pos (by omega), if_pos c1, if_neg (by omega)]
      omega
    · by_cases c2 : x.1 < r
      · have e1 : cnt (l.take i) (r + 1) = i := by rw [cnt_all fun e he => by have := hle e he; omega]; exact hlen
        have e2 : cnt (l.take i) r = i := by rw [cnt_all fun e he => by have := hle e he; omega]; exact hlen
        have e3 := last_none (l := l.take i) (r := r) (fun e he => by have := hle e he; omega) i (by rw [hlen]; exact Nat.le_refl _)
        rw [List.take_take, Nat.min_self] at e3
        rw [e1, e2, e3, if_pos (by omega), if_neg c1, if_pos c2]
        omega
      · rw [if_neg (by omega), if_neg c1, if_neg c2]
        exact ih (by omega)
def mixL (n : Nat) (l : List Ed) (st : Nat) : List Int := (List.range (n + 1)).map fun (r : Nat) => if r ≤ st then ((cnt l (r : Int) : Nat) : Int) else ((lastOf l ((r : Int) - 1) : Nat) : Int)
def bndL (n : Nat) (l : List Ed) : List Int := (List.range (n + 1)).map fun (r : Nat) => if r = 0 then 0 else ((lastOf l ((r : Int) - 1) : Nat) : Int)
def bounds (n : Nat) (l : List Ed) : List Int := (List.range (n + 1)).map fun (r : Nat) => ((cnt l (r : Int) : Nat) : Int)
theorem bnd_zero (n : Nat) : bndL n [] = List.replicate (n + 1) 0 := by
  unfold bndL
  rw [List.eq_replicate_iff]
  refine ⟨by simp, fun b hb => ?_⟩
  obtain ⟨r, _, rfl⟩ := List.mem_map.1 hb
  split <;> simp [lastOf]
theorem bnd_step {l : List Ed} {n i : Nat} {x : Ed} (hx : l[i]? = some x) {q : Nat} (hq : x.1 = (q : Int)) : (bndL n (l.take i)).set (q + 1) ((i : Int) + 1) = bndL n (l.take (i + 1)) := by
  have hlen : (l.take i).length = i := by rw [List.length_take]; have := (List.getElem?_eq_some_iff.1 hx).1; omega
  apply List.ext_getElem?
  intro r
  rw [List.getElem?_set]
  unfold bndL
  simp only [List.length_map, List.length_range, List.getElem?_map]
  by_cases hr : r < n + 1
  · rw [List.getElem?_range hr, take_succ_of hx]
    simp only [Option.map_some, last_snoc, hlen, hq]
    by_cases e : q + 1 = r
    · subst e
      rw [if_pos rfl, if_pos hr, if_neg (by omega), if_pos (by omega)]
      rfl
    · rw [if_neg e]
      by_cases e0 : r = 0
      · rw [if_pos e0, if_pos e0]
      · rw [if_neg e0, if_neg e0, if_neg (by omega)]
  · rw [List.getElem?_eq_none (by simp; omega)]
    by_cases e : q + 1 = r
    · rw [if_pos e, if_neg (by omega)]; rfl
    · rw [if_neg e]; rfl
theorem mix_zero {n : Nat} {l : List Ed} (h : ∀ e ∈ l, 0 ≤ e.1) : mixL n l 0 = bndL n l := by
  unfold mixL bndL
  apply List.map_congr_left
  intro r _
  by_cases e : r = 0
  · subst e
    simp only [Nat.le_refl, if_true]
    rw [cnt_none fun x hx => by have := h x hx; omega]
    rfl
  · rw [if_neg (by omega), if_neg e]
theorem mix_full (n : Nat) (l : List Ed) : mixL n l n = bounds n l := by
  unfold mixL bounds
  apply List.map_congr_left
  intro r hr
  have := List.mem_range.1 hr
  rw [if_pos (by omega)]
theorem mix_at {n st r : Nat} {l : List Ed} (hr : r ≤ n) : (mixL n l st)[r]? = some (if r ≤ st then ((cnt l (r : Int) : Nat) : Int) else ((lastOf l ((r : Int) - 1) : Nat) : Int)) := by
  unfold mixL
  rw [List.getElem?_map, List.getElem?_range (by omega)]
  rfl
theorem bounds_at {n r : Nat} {l : List Ed} (hr : r ≤ n) : (bounds n l)[r]? = some ((cnt l (r : Int) : Nat) : Int) := by
  unfold bounds
  rw [List.getElem?_map, List.getElem?_range (by omega)]
  rfl
theorem mix_step {n st : Nat} {l : List Ed} (h : Rows l) : (mixL n l st).set (st + 1) (((max (lastOf l (st : Int)) (cnt l (st : Int)) : Nat)) : Int) = mixL n l (st + 1) := by
  have hc := cnt_last h (st : Int) l.length (Nat.le_refl _)
  rw [List.take_length] at hc
  apply List.ext_getElem?
  intro r
  rw [List.getElem?_set]
  unfold mixL
  simp only [List.length_map, List.length_range, List.getElem?_map]
  by_cases hr : r < n + 1
  · rw [List.getElem?_range hr]
    simp only [Option.map_some]
    by_cases e : st + 1 = r
    · subst e
      rw [if_pos rfl, if_pos hr, if_pos (Nat.le_refl _), ← hc]
      rfl
    · rw [if_neg e]
      by_cases e2 : r ≤ st
      · rw [if_pos e2, if_pos (by omega)]
      · rw [if_neg e2, if_neg (by omega)]
  · rw [List.getElem?_eq_none (by simp; omega)]
    by_cases e : st + 1 = r
    · rw [if_pos e, if_neg (by omega)]; rfl
    · rw [if_neg e]; rfl
end Sy
section
open Go.RowKit Go.Maps
attribute [local go_sem ↓] Go.wp_at_zero Go.wp_at_succ
def cmpI (a b : Int) : Int := if a < b then -1 else if b < a then 1 else 0
theorem isNaN_any (a : Int) (w : World) : Calls Tryz.prog 197 #[.int .i64 a] w fun r w' => r = .returned (.bool false) ∧ w' = w := by
  have e : (a != a) = false := by simp
  go_enter Tryz.func197, Tryz.ntmps197
  go_wp2
  go_ret
  exact ⟨by simp, rfl⟩
set_option maxRecDepth 100000 in
theorem cmpI_any (a b : Int) (w : World) : Calls Tryz.prog 178 #[.int .i64 a, .int .i64 b] w fun r w' => r = .returned (.int .i64 (cmpI a b)) ∧ w' = w := by
  have hN := fun (x : Int) (W : World) => isNaN_any x W
  have HN : Hid _ := hN
  clear hN
  by_cases h1 : a < b
  · go_enter Tryz.func178, Tryz.ntmps178
    go_wp2_with (go_at_call 197; refine (HN.out _ _).mono ?_; rintro r w' ⟨rfl, hw⟩; obtain rfl := hw.symm)
    go_ret
    exact ⟨by simp [cmpI, h1], rfl⟩
  · by_cases h2 : b < a
    · go_enter Tryz.func178, Tryz.ntmps178
      go_wp2_with (go_at_call 197; refine (HN.out _ _).mono ?_; rintro r w' ⟨rfl, hw⟩; obtain rfl := hw.symm)
      go_ret
      exact ⟨by simp [cmpI, h1, h2], rfl⟩
    · go_enter Tryz.func178, Tryz.ntmps178
      go_wp2_with (go_at_call 197; refine (HN.out _ _).mono ?_; rintro r w' ⟨rfl, hw⟩; obtain rfl := hw.symm)
      go_ret
      exact ⟨by simp [cmpI]; split <;> (try split) <;> omega, rfl⟩
def orI (a b c : Int) : Int := if a = 0 then if b = 0 then c else b else a
set_option maxRecDepth 100000 in
set_option maxHeartbeats 1000000 in
theorem orI_any (g : Nat) (a b c : Int) (w : World) (hg : w.heap[g]? = some (.cells #[.int .i64 a, .int .i64 b, .int .i64 c] 3 (0, 0))) : Calls Tryz.prog 206 #[.slice (some ⟨g, 0, none⟩) 3 3] w fun r w' => r = .returned (.int .i64 (orI a b c)) ∧ w' = w := by
  have c0 : w.cell? ⟨g, 0, none⟩ = some (.int .i64 a) := cell0_of hg rfl
  have c1 : w.cell? ⟨g, 1, none⟩ = some (.int .i64 b) := cell0_of hg rfl
  have c2 : w.cell? ⟨g, 2, none⟩ = some (.int .i64 c) := cell0_of hg rfl
  have cs : ∀ (i : Nat) (z : Int), [a, b, c][i]? = some z → w.cell? ⟨g, i, none⟩ = some (.int .i64 z) := fun i z h => by
    match i, h with
    | 0, h => simp at h; rw [← h]; exact c0
    | 1, h => simp at h; rw [← h]; exact c1
    | 2, h => simp at h; rw [← h]; exact c2
    | i + 3, h => simp at h
  have HC : Hid _ := cs
  clear cs hg c0 c1 c2
  go_enter Tryz.func206, Tryz.ntmps206
  go_wp2_with fail
  go_loopg [8] 3 (fun q iv wr => ∃ i : Nat, q = 3 - i ∧ i ≤ 3 ∧ iv = .int .i64 i ∧ wr = w ∧ ∀ x ∈ [a, b, c].take i, x = 0)
  case atStart => exact ⟨0, rfl, by omega, rfl, rfl, fun x hx => by simp at hx⟩
  case round =>
    obtain ⟨i, rfl, hi, rfl, rfl, hz⟩ := hrel
    by_cases hlt : i < 3
    · obtain ⟨z, hz1⟩ : ∃ z, [a, b, c][i]? = some z := ⟨[a, b, c][i]'(by simp; omega), List.getElem?_eq_getElem _⟩
      have cz := HC.out i z hz1
      have q0 : (0 : Int) ≤ (i : Int) := by omega
      have q1 : (i : Int) < 3 := by omega
      have HZ : Hid _ := And.intro hz hz1
      clear hz hz1
      by_cases h0 : z = 0
      · have e0 : (z != 0) = false := by simp [h0]
        have HE : Hid _ := h0
        clear h0
        go_wp2
        go_roundg (3 - (i + 1))
        case measure => omega
        case rel =>
          refine ⟨i + 1, rfl, by omega, by go_num, rfl, fun x hx => ?_⟩
          rw [take_succ_of HZ.out.2] at hx
          rcases List.mem_append.1 hx with hx | hx
          · exact HZ.out.1 x hx
          · rw [List.mem_singleton.1 hx]; exact HE.out
      · have e0 : (z != 0) = true := by simp [h0]
        have HE : Hid _ := h0
        clear h0
        go_wp2
        go_ret
        refine ⟨?_, rfl⟩
        have h1 := HZ.out.2
        have h2 := HZ.out.1
        have h3 := HE.out
        show Ending.returned (Value.int .i64 z) = _
        congr 2
        match i, h1, h2 with
        | 0, h1, h2 => simp at h1; subst h1; unfold orI; rw [if_neg h3]
        | 1, h1, h2 => simp at h1 h2; subst h1; unfold orI; rw [if_pos h2, if_neg h3]
        | 2, h1, h2 => simp at h1 h2; subst h1; unfold orI; rw [if_pos h2.1, if_pos h2.2]
        | i + 3, h1, h2 => simp at h1
    · obtain rfl : i = 3 := by omega
      have HZ : Hid _ := hz
      clear hz
      go_wp2
      go_ret
      refine ⟨?_, rfl⟩
      have h2 := HZ.out
      simp at h2
      simp [orI, h2]
def cmpE (a b : Sy.Ed) : Int := orI (cmpI a.1 b.1) (cmpI a.2.1 b.2.1) (cmpI a.2.2 b.2.2)
theorem cmpE_lt (a b : Sy.Ed) : decide (cmpE a b < 0) = Sy.lt a b := by
  rw [Bool.eq_iff_iff, Sy.lt_iff, decide_eq_true_eq]
  unfold cmpE orI cmpI
  (repeat' split) <;> omega
def ViewAt (f : Nat) (vw : Sy.Ed → Sy.Ed) : Prop := (∀ args w, (callFunc f args).run Tryz.prog w = .ok (.enter f args) w) ∧ ∀ (x : Sy.Ed) (w : World), Calls Tryz.prog f #[edV x] w fun r w' => r = .returned (.tuple #[.int .i64 (vw x).1, .agg #[.int .i64 (vw x).2.1, .int .i64 (vw x).2.2]]) ∧ Below w.heap.size w w'
set_option maxRecDepth 100000 in
set_option maxHeartbeats 1000000 in
theorem forward_at : ViewAt 172 fun x => x := ⟨enters_of Tryz.func172 (by kernel_rfl) rfl, fun x w => by
  obtain ⟨x0, x1, x2⟩ := x
  unfold edV
  go_enter Tryz.func172, Tryz.ntmps172
  go_wp2_with fail
  go_region
  all_goals
    go_wp2_with fail
    refine bodyPost_ret (v := .tuple #[.int .i64 x0, .agg #[.int .i64 x1, .int .i64 x2]]) (by simp [results, Tryz.results172, go_sem]) rfl ⟨rfl, ?_⟩
    first | exact (by repeat (first | exact Below.refl _ _ | assumption | refine Below.drew ?_ | refine Below.setCell ?_ (by simp) _ | refine Below.alloc ?_ (by simp) _)) | exact (by repeat (first | exact Below.refl _ _ | assumption | refine Below.setCell ?_ (by simp) _ | refine Below.alloc ?_ (by simp) _ | refine Below.drew ?_))⟩
set_option maxRecDepth 100000 in
set_option maxHeartbeats 1000000 in
theorem backward_at : ViewAt 174 Sy.turn := ⟨enters_of Tryz.func174 (by kernel_rfl) rfl, fun x w => by
  obtain ⟨x0, x1, x2⟩ := x
  unfold edV
  go_enter Tryz.func174, Tryz.ntmps174
  go_wp2_with fail
  go_region
  all_goals
    go_wp2_with fail
    refine bodyPost_ret (v := .tuple #[.int .i64 x2, .agg #[.int .i64 x1, .int .i64 x0]]) (by simp [results, Tryz.results174, go_sem]) rfl ⟨rfl, ?_⟩
    first | exact (by repeat (first | exact Below.refl _ _ | assumption | refine Below.drew ?_ | refine Below.setCell ?_ (by simp) _ | refine Below.alloc ?_ (by simp) _)) | exact (by repeat (first | exact Below.refl _ _ | assumption | refine Below.setCell ?_ (by simp) _ | refine Below.alloc ?_ (by simp) _ | refine Below.drew ?_))⟩
theorem enter_cmp : ∀ args w, (callFunc 195 args).run Tryz.prog w = .ok (.enter 195 args) w := enters_of Tryz.func195 (by kernel_rfl) rfl
set_option maxRecDepth 100000 in
set_option maxHeartbeats 4000000 in
theorem compare_any (f : Nat) (vw : Sy.Ed → Sy.Ed) (hV : ViewAt f vw) (a b : Sy.Ed) (w : World) :
    Calls Tryz.prog 195 #[.func (.func f) #[] #[], edV a, edV b] w fun r w' => r = .returned (.int .i64 (cmpE (vw a) (vw b))) ∧ Below w.heap.size w w' := by
  obtain ⟨he, hv⟩ := hV
  obtain ⟨a0, a1, a2⟩ := a
  obtain ⟨b0, b1, b2⟩ := b
  obtain ⟨w0, hw0⟩ : ∃ w0, w0 = (w.alloc (.cells #[.int .i64 a0, .int .i64 a1, .int .i64 a2] 70)).alloc (.cells #[.int .i64 b0, .int .i64 b1, .int .i64 b2] 70) := ⟨_, rfl⟩
  have hb0 : Below w.heap.size w w0 := by rw [hw0]; exact ((Below.refl _ _).alloc (Nat.le_refl _) _).alloc (by simp) _
  have hgb : w0.heap[w.heap.size + 1]? = some (.cells #[.int .i64 b0, .int .i64 b1, .int .i64 b2] 70 (0, 0)) := by rw [hw0]; exact two_alloc w _ _
  have hA := hv (a0, a1, a2)
  have hB := hv (b0, b1, b2)
  unfold cmpE
  generalize vw (a0, a1, a2) = p at hA ⊢
  generalize vw (b0, b1, b2) = q at hB ⊢
  obtain ⟨p0, p1, p2⟩ := p
  obtain ⟨q0, q1, q2⟩ := q
  unfold edV at hA hB ⊢
  have HA : Hid _ := And.intro hA hB
  have H0 : Hid _ := And.intro hb0 (And.intro hgb hw0)
  clear hA hB hb0 hgb hw0 hv
  simp only at HA ⊢
  go_enter Tryz.func195, Tryz.ntmps195
  go_wp2_with fail
  rw [← H0.out.2.2]
  refine Calls.mono (HA.out.1 _) ?_
  rintro r w1 ⟨rfl, hb1⟩
  have hgb1 := (hb1.block _ (t_lt H0.out.2.1)).trans H0.out.2.1
  obtain ⟨w2, hw2⟩ : ∃ w2, w2 = (w1.alloc (.cells #[.int .i64 p1, .int .i64 p2] 77)) := ⟨_, rfl⟩
  have hb2 : Below w1.heap.size w1 w2 := by rw [hw2]; exact (Below.refl _ _).alloc (Nat.le_refl _) _
  have hg2 : w2.heap[w1.heap.size]? = some (.cells #[.int .i64 p1, .int .i64 p2] 77 (0, 0)) := by rw [hw2]; exact heap_alloc_new w1 _
  have hgb2 := (hb2.block _ (t_lt hgb1)).trans hgb1
  have c0 : (w1.alloc (.cells #[.int .i64 p1, .int .i64 p2] 77)).cell? ⟨w.heap.size + 1, 0, none⟩ = some (.int .i64 b0) := by rw [← hw2]; exact cell0_of hgb2 rfl
  have c1 : (w1.alloc (.cells #[.int .i64 p1, .int .i64 p2] 77)).cell? ⟨w.heap.size + 1, 1, none⟩ = some (.int .i64 b1) := by rw [← hw2]; exact cell0_of hgb2 rfl
  have c2 : (w1.alloc (.cells #[.int .i64 p1, .int .i64 p2] 77)).cell? ⟨w.heap.size + 1, 2, none⟩ = some (.int .i64 b2) := by rw [← hw2]; exact cell0_of hgb2 rfl
  have hbw : Below w.heap.size w w2 := (H0.out.1.trans (hb1.mono H0.out.1.size)).trans (hb2.mono (by have := H0.out.1.size; have := hb1.size; omega))
  have H1 : Hid _ := And.intro hbw (And.intro hg2 hw2)
  clear hb1 hgb1 hb2 hg2 hgb2 hw2 H0 hbw
  go_wp2_with fail
  rw [← H1.out.2.2]
  refine Calls.mono (HA.out.2 _) ?_
  rintro r w3 ⟨rfl, hb3⟩
  have hg3 := (hb3.block _ (t_lt H1.out.2.1)).trans H1.out.2.1
  obtain ⟨w4, hw4⟩ : ∃ w4, w4 = (w3.alloc (.cells #[.int .i64 q1, .int .i64 q2] 77)) := ⟨_, rfl⟩
  have hb4 : Below w3.heap.size w3 w4 := by rw [hw4]; exact (Below.refl _ _).alloc (Nat.le_refl _) _
  have hg4 : w4.heap[w3.heap.size]? = some (.cells #[.int .i64 q1, .int .i64 q2] 77 (0, 0)) := by rw [hw4]; exact heap_alloc_new w3 _
  have hp4 := (hb4.block _ (t_lt hg3)).trans hg3
  have x0 : w4.cell? ⟨w1.heap.size, 0, none⟩ = some (.int .i64 p1) := cell0_of hp4 rfl
  have x1 : w4.cell? ⟨w1.heap.size, 1, none⟩ = some (.int .i64 p2) := cell0_of hp4 rfl
  have x2 : w4.cell? ⟨w3.heap.size, 0, none⟩ = some (.int .i64 q1) := cell0_of hg4 rfl
  have x3 : w4.cell? ⟨w3.heap.size, 1, none⟩ = some (.int .i64 q2) := cell0_of hg4 rfl
  have hbw : Below w.heap.size w w4 := (H1.out.1.trans (hb3.mono H1.out.1.size)).trans (hb4.mono (by have := H1.out.1.size; have := hb3.size; omega))
  have H2 : Hid _ := And.intro hbw hw4
  have hC : ∀ (x y : Int) (W : World), Calls Tryz.prog 178 #[.int .i64 x, .int .i64 y] W fun r w' => r = .returned (.int .i64 (cmpI x y)) ∧ Below W.heap.size W w' := fun x y W => (cmpI_any x y W).mono fun r w' ⟨hr, hw⟩ => ⟨hr, by rw [hw]; exact Below.refl _ _⟩
  have hO : ∀ (x y z : Int) (W : World), Calls Tryz.prog 206 #[.slice (some ⟨W.heap.size, 0, none⟩) 3 3] (W.alloc (.cells #[.int .i64 x, .int .i64 y, .int .i64 z] 3)) fun r w' => r = .returned (.int .i64 (orI x y z)) ∧ Below (W.alloc (.cells #[.int .i64 x, .int .i64 y, .int .i64 z] 3)).heap.size (W.alloc (.cells #[.int .i64 x, .int .i64 y, .int .i64 z] 3)) w' := fun x y z W => (orI_any _ x y z _ (heap_alloc_new W _)).mono fun r w' ⟨hr, hw⟩ => ⟨hr, by rw [hw]; exact Below.refl _ _⟩
  have HC : Hid _ := And.intro hC hO
  clear hb3 hg3 hb4 hg4 hp4 hw4 hbw H1 HA c0 c1 c2 hC hO
  go_upto_region 3 with fail
  rw [← H2.out.2]
  have HB : Hid _ := H2.out.1
  clear H2
  go_region_held3 (fun w' => (w'.cell? ⟨w1.heap.size, 0, none⟩ = some (.int .i64 p1) ∧ w'.cell? ⟨w1.heap.size, 1, none⟩ = some (.int .i64 p2) ∧ w'.cell? ⟨w3.heap.size, 0, none⟩ = some (.int .i64 q1) ∧ w'.cell? ⟨w3.heap.size, 1, none⟩ = some (.int .i64 q2)) ∧ Hid (Below w4.heap.size w4 w')) (first | exact rg_up4 hb5 (by assumption) | exact rg_up4 ((Below.refl _ _).alloc (Nat.le_refl _) _) (by assumption) | exact ⟨⟨x0, x1, x2, x3⟩, ((Below.refl _ _).drew : Below w4.heap.size w4 w4.drew)⟩ | go_keep)
    ((first
      | (go_at_call 178; refine (HC.out.1 _ _ _).mono ?_; rintro r w5 ⟨rfl, hb5⟩)
      | (go_at_call 206; refine (HC.out.2 _ _ _ _).mono ?_; rintro r w5 ⟨rfl, hb5⟩)
      | fail))
  all_goals
    have HF : Hid (Below w4.heap.size w4 w5) := (rg_b (by assumption) : Below w4.heap.size w4 w5)
    clear hb5
    go_wp2_with fail
    go_ret
    exact ⟨rfl, HB.out.trans (HF.out.mono HB.out.size)⟩
end
section
open Go.RowKit Go.Maps
def RowE (w wr : World) (g : Nat) (d : Array Sy.Ed) (rest : List Value) : Prop := Arr 70 w wr g (BEdges.C d.toList ++ rest)
theorem RowE.below {w wr w' : World} {g : Nat} {d : Array Sy.Ed} {rest : List Value} (h : RowE w wr g d rest) (hb : Below wr.heap.size wr w') : RowE w w' g d rest := Arr.below h hb
theorem getb {d : Array Sy.Ed} {j : Nat} (hj : j < d.size) : d.toList[j]? = some d[j]! := by
  rw [Array.getElem?_toList, Array.getElem?_eq_getElem hj, getElem!_pos d j hj]
theorem RowE.at {w wr : World} {g : Nat} {d : Array Sy.Ed} {rest : List Value} (h : RowE w wr g d rest) {j : Nat} {z : Sy.Ed} (hj : d.toList[j]? = some z) : wr.cell? ⟨g, j * 3, none⟩ = some (.int .i64 z.1) ∧ wr.cell? ⟨g, j * 3 + 1, none⟩ = some (.int .i64 z.2.1) ∧ wr.cell? ⟨g, j * 3 + 2, none⟩ = some (.int .i64 z.2.2) := by
  have hl : j < d.toList.length := (List.getElem?_eq_some_iff.1 hj).1
  have hc := BEdges.C_len d.toList
  have h0 := BEdges.C_at d.toList j z hj 0 (by decide)
  have h1 := BEdges.C_at d.toList j z hj 1 (by decide)
  have h2 := BEdges.C_at d.toList j z hj 2 (by decide)
  refine ⟨Arr.cell h ?_, Arr.cell h ?_, Arr.cell h ?_⟩
  · rw [List.getElem?_append_left (by omega)]; exact h0
  · rw [List.getElem?_append_left (by omega)]; exact h1
  · rw [List.getElem?_append_left (by omega)]; exact h2
theorem RowE.cells {w wr : World} {g : Nat} {d : Array Sy.Ed} {rest : List Value} (h : RowE w wr g d rest) {j : Nat} (hj : j < d.size) : wr.cell? ⟨g, j * 3, none⟩ = some (.int .i64 (d[j]!).1) ∧ wr.cell? ⟨g, j * 3 + 1, none⟩ = some (.int .i64 (d[j]!).2.1) ∧ wr.cell? ⟨g, j * 3 + 2, none⟩ = some (.int .i64 (d[j]!).2.2) := h.at (getb hj)
theorem RowE.free {w wr : World} {g : Nat} {d : Array Sy.Ed} {rest : List Value} (h : RowE w wr g d rest) (k : Nat) : wr.frozen? ⟨g, k, none⟩ = false := Arr.free h k
def st3 (w : World) (g k : Nat) (x : Sy.Ed) : World := ((w.setCell ⟨g, k * 3, none⟩ (.int .i64 x.1)).setCell ⟨g, k * 3 + 1, none⟩ (.int .i64 x.2.1)).setCell ⟨g, k * 3 + 2, none⟩ (.int .i64 x.2.2)
theorem RowE.store {w wr : World} {g : Nat} {d : Array Sy.Ed} {rest : List Value} (h : RowE w wr g d rest) {k : Nat} (hk : k < d.size) (x : Sy.Ed) : RowE w (st3 wr g k x) g (d.setIfInBounds k x) rest := by
  have h1 := ((Arr.set h (k * 3) (.int .i64 x.1)).set (k * 3 + 1) (.int .i64 x.2.1)).set (k * 3 + 2) (.int .i64 x.2.2)
  have hk' : k < d.toList.length := by simpa using hk
  have hc := BEdges.C_len d.toList
  rw [List.set_append_left _ _ (by omega), List.set_append_left _ _ (by rw [List.length_set]; omega), List.set_append_left _ _ (by rw [List.length_set, List.length_set]; omega), ← BEdges.C_set d.toList hk' x] at h1
  unfold RowE st3
  rw [Array.toList_setIfInBounds]
  exact h1
theorem RowE.swap {w wr : World} {g : Nat} {d : Array Sy.Ed} {rest : List Value} (h : RowE w wr g d rest) {i j : Nat} (hi : i < d.size) (hj : j < d.size) : RowE w (st3 (st3 wr g i d[j]!) g j d[i]!) g (Sort.swp d i j) rest :=
  (h.store hi d[j]!).store (by simpa using hj) d[i]!
def cmpV (f : Nat) : Value := .func (.func 195) #[.func (.func f) #[] #[]] #[]
def ltV (vw : Sy.Ed → Sy.Ed) (x y : Sy.Ed) : Bool := Sy.lt (vw x) (vw y)
theorem swoV (vw : Sy.Ed → Sy.Ed) : Sort.SWO (ltV vw) where
  irrefl x := Sy.lt_irrefl _
  trans x y z h1 h2 := Sy.lt_trans h1 h2
  ntrans x y z h1 h2 := by
    unfold ltV at *
    cases h : Sy.lt (vw x) (vw z) with
    | false => rfl
    | true =>
      cases h3 : Sy.lt (vw y) (vw x) with
      | true => have := Sy.lt_trans h3 h; rw [h2] at this; cases this
      | false =>
        have e := Sy.eq_of_not h1 h3
        rw [e, h2] at h
        cases h
theorem cmpV_neg (vw : Sy.Ed → Sy.Ed) (x y : Sy.Ed) : (cmpE (vw x) (vw y) < 0) ↔ ltV vw x y = true := by
  unfold ltV
  rw [← cmpE_lt]
  simp
theorem rg_up6 {w2 wa wb : World} {a0 a1 a2 a3 a4 a5 : Addr} {x0 x1 x2 x3 x4 x5 : Value} (hb : Below wa.heap.size wa wb) (h : ((wa.cell? a0 = some x0 ∧ wa.cell? a1 = some x1 ∧ wa.cell? a2 = some x2) ∧ (wa.cell? a3 = some x3 ∧ wa.cell? a4 = some x4 ∧ wa.cell? a5 = some x5)) ∧ Hid (Below w2.heap.size w2 wa)) : ((wb.cell? a0 = some x0 ∧ wb.cell? a1 = some x1 ∧ wb.cell? a2 = some x2) ∧ (wb.cell? a3 = some x3 ∧ wb.cell? a4 = some x4 ∧ wb.cell? a5 = some x5)) ∧ Hid (Below w2.heap.size w2 wb) :=
  have up : ∀ {a : Addr} {x : Value}, wa.cell? a = some x → wb.cell? a = some x := fun c => (hb.cell (World.block_lt_of_cell? wa _ c)).trans c
  ⟨⟨⟨up h.1.1.1, up h.1.1.2.1, up h.1.1.2.2⟩, ⟨up h.1.2.1, up h.1.2.2.1, up h.1.2.2.2⟩⟩, (h.2.out.trans (hb.mono h.2.out.size) : Below w2.heap.size w2 wb)⟩
theorem ins_go (lt : Sy.Ed → Sy.Ed → Bool) (a j : Nat) (d : Array Sy.Ed) (hj : a < j + 1) (hl : lt d[j + 1]! d[j]! = true) : Sort.insInner lt a (j + 1) d = Sort.insInner lt a j (Sort.swp d (j + 1) j) := by
  rw [Sort.insInner, if_pos (by simp [hl, hj])]
theorem ins_stop (lt : Sy.Ed → Sy.Ed → Bool) (a j : Nat) (d : Array Sy.Ed) (hl : lt d[j + 1]! d[j]! = false) : Sort.insInner lt a (j + 1) d = d := by
  rw [Sort.insInner, if_neg (by simp [hl])]
theorem ins_at (lt : Sy.Ed → Sy.Ed → Bool) (a j : Nat) (d : Array Sy.Ed) (hj : ¬ a < j) : Sort.insInner lt a j d = d := by
  cases j with
  | zero => rfl
  | succ j => rw [Sort.insInner, if_neg (by simp; omega)]
theorem ins_next (lt : Sy.Ed → Sy.Ed → Bool) (a b i : Nat) (d : Array Sy.Ed) (h : i < b) : Sort.insOuter lt a b i d = Sort.insOuter lt a b (i + 1) (Sort.insInner lt a i d) := by rw [Sort.insOuter, if_pos h]
theorem ins_end (lt : Sy.Ed → Sy.Ed → Bool) (a b i : Nat) (d : Array Sy.Ed) (h : ¬ i < b) : Sort.insOuter lt a b i d = d := by rw [Sort.insOuter, if_neg h]
theorem RowE.swapped {w wr : World} {g : Nat} {d : Array Sy.Ed} {rest : List Value} (h : RowE w wr g d rest) {i j : Nat} {x y : Sy.Ed} (hi : i < d.size) (hj : j < d.size) (hx : x = d[i]!) (hy : y = d[j]!) : RowE w (st3 (st3 wr g i y) g j x).drew g (Sort.swp d i j) rest := by
  subst hx hy
  exact (h.swap hi hj).below (Below.refl _ _).drew
end
end Go.Proofs.YthcpliinddjkhaaGreatDoor
