/- Texts of this claim, joined: SgLift, SyOutI, SgSrc, SgNum, SgCnt. -/
import Derived.Test.YtgehimdkdeldaabGreatDoorPart0
import Derived.Test.YtgehimdkdeldaabGreatDoorPart9
import Derived.BigRegion
import Derived.BigQuiet
import Derived.Deep.QuietTactic
import Derived.Test.YtgehimdkdeldaabGreatDoorPart3
import Derived.Deep.AppendLies
import Derived.Deep.LoopGhost
import Derived.Test.YtgehimdkdeldaabGreatDoorPart8
import Derived.WideKeyEntry
import Derived.Maps.OwnSet
import Derived.DeepKeys4
namespace Go.Proofs.YtgehimdkdeldaabGreatDoor
section
open Go.RowKit Go.Maps
attribute [local go_sem ↓] Go.wp_at_zero Go.wp_at_succ
theorem Tryz.infoHp : (Tryz.prog.info? 197).map (fun i => (i.zero, i.size, i.bytes)) = some (some (.agg #[.slice none 0 0, .int .i64 0]), 2, 32) := by kernel_rfl
structure LiftAt (w w' : World) (B r g p mb : Nat) (x x' : Rv) (bl o k z : Nat) (bs : List Int) : Prop where
 m : RnM w' B r g p mb x'
 ow : x'.ow = x.ow.set bl (x.ks.length : Int)
 sz : x'.sz = x.sz
 wt : x'.wt = x.wt
 ks : x'.ks = x.ks.set o (k - z) ++ [z]
 hs : x'.H.map (·.2) = (x.H.map (·.2)).set o (bs.filter fun b => !(b == (bl : Int))) ++ [[(bl : Int)]]
 gw : Grew w w' r x x'
set_option linter.unusedSimpArgs false in
set_option maxRecDepth 100000 in
set_option maxHeartbeats 8000000 in
theorem lift_any (B r g p mb : Nat) (x : Rv) (bl o k z : Nat) (v : Value) (bs : List Int) (w : World) (hM : RnM w B r g p mb x) (how : x.ow[bl]? = some (o : Int)) (hsz : x.sz[bl]? = some (z : Int)) (hH : x.H[o]? = some (v, bs)) (hks : x.ks[o]? = some k) (hkl : x.ks.length <= 100000) (hbl : bs.length <= 100000) (hb0 : 0 < bs.length) (hzk : z <= k) (hk : k <= 1000) :
 Calls Tryz.prog 94 #[.pointer (some ⟨r, 0, none⟩), .int .i64 bl] w fun e w' => e = .returned (.tuple #[.int .i64 o, .int .i64 (x.ks.length : Int)]) /\ ∃ x', LiftAt w w' B r g p mb x x' bl o k z bs := by
 have hvO : OwnI w B v bs := (hM.q.q (o + 3) (v, bs) (by show x.H[o]? = _; exact hH)).own (hM.fl _ (List.mem_of_getElem? hH)) hb0
 obtain ⟨w1, hw1⟩ : ∃ w1, w1 = w.alloc (.cells #[.int .i64 bl] 3) := ⟨_, rfl⟩
 have hb1 : Below w.heap.size w w1 := by rw [hw1]; exact (Below.refl _ _).alloc (Nat.le_refl _) _
 have cb : w1.cell? ⟨w.heap.size, 0, none⟩ = some (.int .i64 bl) := by rw [hw1]; exact cell0_of (heap_alloc_new w _) rfl
 have hM1 := hM.below hb1
 obtain ⟨c0, c1, c2, c3, c4, c5, c6⟩ := seven_cells hM1.box
 have hol := (List.getElem?_eq_some_iff.1 how).1
 have hkk := (List.getElem?_eq_some_iff.1 hks).1
 obtain ⟨go, oo, co, hvo, hoc, cow, fow⟩ := (hM1.q.q 0 (x.vo, x.ow) rfl).cell how
 obtain ⟨gz, oz, cz, hvz, hzc, csz, fsz⟩ := (hM1.q.q 1 (x.vz, x.sz) rfl).cell hsz
 have hzl := (List.getElem?_eq_some_iff.1 hsz).1
 simp only at hvo hvz
 obtain ⟨gh, ch, hvh⟩ := hM1.hform (by omega)
 obtain ⟨nz, hnz⟩ : ∃ nz, nz = x.sz.length := ⟨_, rfl⟩
 obtain ⟨no, hno⟩ : ∃ no, no = x.ow.length := ⟨_, rfl⟩
 obtain ⟨nk, hnk⟩ : ∃ nk, nk = x.ks.length := ⟨_, rfl⟩
 obtain ⟨d0, d1, df⟩ := hM1.hcell hvh hH hks
 rw [hvo, <- hno] at c3
 rw [hvz, <- hnz] at c4
 rw [hvh, <- hnk] at c2
 rw [<- hno] at hol
 rw [<- hnz] at hzl
 rw [<- hnk] at hkk hkl ⊢
 have p0 : (0 : Int) <= (bl : Int) := by omega
 have p1 : (bl : Int) < (no : Int) := by omega
 have p2 : (bl : Int) < (nz : Int) := by omega
 have p3 : (0 : Int) <= (o : Int) := by omega
 have p4 : (o : Int) < (nk : Int) := by omega
 have hvO1 : OwnI w1 B v bs := trow_at hvO fun b e => hb1.block b (hvO.lt b e).2
 have hvn : ∀ b, v.ownBlock = some b -> w.heap.size ≠ b := fun b e e2 => by have := (hvO.lt b e).2; omega
 have H : Hid _ := And.intro hM1 (And.intro hb1 (And.intro hvo (And.intro hvz (And.intro hvh (And.intro hnz (And.intro hno (And.intro hnk (And.intro hH (And.intro hks (And.intro hvO1 (And.intro hvn (And.intro hw1 (And.intro hkl hbl)))))))))))))
 have H0 : Hid _ := And.intro how (And.intro hsz hM)
 have hd0 := d0
 obtain ⟨av, cv, hve⟩ := row_shape hvO1
 have HV : Hid _ := hve
 rw [hve] at d0
 obtain ⟨nb, hnb⟩ : ∃ nb, nb = bs.length := ⟨_, rfl⟩
 rw [<- hnb] at d0
 have HNB : Hid _ := And.intro hnb (And.intro hd0 (And.intro d1 df))
 clear hM hM1 hvo hvz hvh hnz hno hnk hH hks hvO hvO1 hvn how hsz hoc hzc hb1 hve hd0 hnb d1 df hbl hb0 hw1
 go_enter Tryz.func94, Tryz.ntmps94
 go_upto_region 1 with fail
 rw [<- H.out.2.2.2.2.2.2.2.2.2.2.2.2.1]
 refine wp_region_held_drew (S := (fun w' => (w'.cell? ⟨r, 2, none⟩ = some (.slice (some ⟨gh, 0, none⟩) nk ch) /\ w'.cell? ⟨r, 3, none⟩ = some (.slice (some ⟨go, oo, none⟩) no co)) /\ w'.cell? ⟨w.heap.size, 0, none⟩ = some (.int .i64 bl) /\ w'.cell? ⟨go, oo + bl, none⟩ = some (.int .i64 o))) (by kernel_rfl) ?_ (fun hHeld => ?_)
 ·exact ⟨⟨c2, c3⟩, cb, cow⟩
 refine tk8 0 rfl ?_; (try simp only [ty9, Act.put])
 refine tk8 1 rfl ?_; (try simp only [ty9, Act.put])
 refine tk8 2 rfl ?_; (try simp only [ty9, Act.put])
 refine tk8 3 rfl ?_; (try simp only [ty9, Act.put])
 refine tk8 4 rfl ?_; (try simp only [ty9, Act.put])
 refine tk8 5 rfl ?_; (try simp only [ty9, Act.put])
 refine tk8 6 rfl ?_; (try simp only [ty9, Act.put])
 refine tk8 7 rfl ?_; (try simp only [ty9, Act.put])
 refine tk8 8 rfl ?_; (try simp only [ty9, Act.put])
 refine tk8 9 rfl ?_; (try simp only [ty9, Act.put])
 refine tk8 10 rfl ?_; (try simp only [ty9, Act.put])
 refine tk8 11 rfl ?_; (try simp only [ty9, Act.put])
 refine tk8 12 rfl ?_; (try simp only [ty9, Act.put])
 refine tk8 13 rfl ?_; (try simp only [ty9, Act.put])
 refine wpAnyH_done (by kernel_rfl) ?_ _
 (try go_simp)
 clear hHeld
 have hbd : Below w1.heap.size w1 w1.drew := (Below.refl _ _).drew
 obtain ⟨wA, hwA⟩ : ∃ wA, wA = w1.drew := ⟨_, rfl⟩
 rw [<- hwA] at hbd ⊢
 clear hwA
 have hve := HV.out
 rw [<- HNB.out.1] at hve
 subst hve
 have hMA := H.out.1.below hbd
 have e2 := sg_cell c2 hbd
 have ebb := sg_cell cb hbd
 have ed0 := sg_cell d0 hbd
 have hOA : OwnI wA B (.slice av nb cv) bs := trow_at H.out.2.2.2.2.2.2.2.2.2.2.1 fun b e => hbd.block b (H.out.2.2.2.2.2.2.2.2.2.2.1.lt b e).2
 have hDel := deleteFunc1 124 B (.pointer (some ⟨w.heap.size, 0, none⟩)) (fun z => z == (bl : Int)) (.slice av nb cv) bs wA hOA (by have := H.out.2.2.2.2.2.2.2.2.2.2.2.2.2.2; omega) (enters_of Tryz.func124 (by kernel_rfl) rfl) (lift1_asks w.heap.size bl _ _ wA ebb fun e => H.out.2.2.2.2.2.2.2.2.2.2.2.1 _ e rfl)
 have hgn : (Value.slice av nb cv).ownBlock ≠ some gh := fun e => hMA.heap_list (b := gh) (by rw [H.out.2.2.2.2.1]; rfl) ⟨_, List.mem_of_getElem? (show x.L[o + 3]? = some _ from H.out.2.2.2.2.2.2.2.2.1), e⟩
 have hgf : wA.frozen? ⟨gh, o * 2, none⟩ = false := (hMA.hcell H.out.2.2.2.2.1 H.out.2.2.2.2.2.2.2.2.1 H.out.2.2.2.2.2.2.2.2.2.1).2.2 _
 have HD : Hid _ := And.intro hDel (And.intro hgn (And.intro hgf (And.intro hMA (And.intro hbd (And.intro ebb trivial)))))
 clear hDel hgn hgf hMA hbd c0 c1 c2 c3 c4 c5 c6 cb cow fow csz fsz d0 hOA ebb HV
 go_upto_region 4 with (go_at_call 96; refine Calls.mono HD.out.1 ?_; rintro r1 w2 ⟨v', rfl, hO2, hob, hkp⟩; obtain ⟨a2, m2, hv2⟩ := row_shape hO2; obtain ⟨n2, hn2⟩ : ∃ n2, n2 = (bs.filter fun b => !(b == (bl : Int))).length := ⟨_, rfl⟩; rw [<- hn2] at hv2; subst hv2; have q0 := kcell2 hkp HD.out.2.1 ed0; have qf : w2.frozen? ⟨gh, o * 2, none⟩ = false := (World.frozen?_of_block (hkp.block gh (World.block_lt_of_cell? wA _ ed0) HD.out.2.1)).trans HD.out.2.2.1; have H2 : Hid _ := And.intro hO2 (And.intro hob (And.intro hkp hn2)); clear hO2 hob hkp hn2)
 obtain ⟨xB, hxB⟩ : ∃ xB : Rv, xB = { x with H := x.H.set o (.slice a2 n2 m2, bs.filter fun b => !(b == (bl : Int))) } := ⟨_, rfl⟩
 obtain ⟨wB, hwB⟩ : ∃ wB, wB = w2.setCell ⟨gh, o * 2, none⟩ (.slice a2 n2 m2) := ⟨_, rfl⟩
 rw [<- hwB]
 have hMB : RnM wB B r g p mb xB := by rw [hwB, hxB]; exact HD.out.2.2.2.1.putHeap H.out.2.2.2.2.1 H.out.2.2.2.2.2.2.2.2.1 H2.out.2.2.1 (Que.of_own H2.out.1) (.inl H2.out.2.1) H2.out.1.at0
 have hkB : Kept (fun b => (Value.slice av nb cv).ownBlock = some b \/ b = gh) wA wB := by rw [hwB]; exact (H2.out.2.2.1.mono fun _ _ e => .inl e).trans ((Kept.setCell w2 gh _ _).mono fun _ _ e => .inr e)
 have hbA : Below w.heap.size w wA := sg_bel HD.out.2.2.2.2.1 H.out.2.1
 have hghf : x.foot gh := .inl (by rw [H.out.2.2.2.2.1]; rfl)
 have hvf : ∀ b, (Value.slice av nb cv).ownBlock = some b -> x.foot b := fun b e => .inr ⟨_, List.mem_of_getElem? (show x.L[o + 3]? = some _ from H.out.2.2.2.2.2.2.2.2.1), e⟩
 have hGB : Grew w wB r x xB := ⟨(Kept.of_below hbA).trans (hkB.mono fun b _ e => .inr (e.elim (hvf b) fun e => by rw [e]; exact hghf)), fun b hb => by rw [hxB] at hb; exact foot_app (x := x) (k := o + 3) (v' := .slice a2 n2 m2) (zs' := bs.filter fun b => !(b == (bl : Int))) H.out.2.2.2.2.2.2.2.2.1 (.inl H2.out.2.1) hb⟩
 have hbbf : ¬ ((Value.slice av nb cv).ownBlock = some w.heap.size \/ w.heap.size = gh) := fun e => by
  rcases e with e | e
  ·have := (H0.out.2.2.foot_lt (hvf _ e)).2; omega
  ·have := (H0.out.2.2.foot_lt hghf).2; omega
 have f0 : wB.cell? ⟨w.heap.size, 0, none⟩ = some (.int .i64 bl) := (World.cell?_of_block (a := ⟨w.heap.size, 0, none⟩) (hkB.block w.heap.size (World.block_lt_of_cell? wA _ HD.out.2.2.2.2.2.1) hbbf)).trans HD.out.2.2.2.2.2.1
 have hvhB : xB.vh = .slice (some ⟨gh, 0, none⟩) xB.ks.length ch := by rw [hxB]; exact H.out.2.2.2.2.1
 obtain ⟨_, f1, f2⟩ := hMB.hcell (o := o) (k := k) hvhB (by rw [hxB]; exact List.getElem?_set_self (List.getElem?_eq_some_iff.1 H.out.2.2.2.2.2.2.2.2.1).1) (by rw [hxB]; exact H.out.2.2.2.2.2.2.2.2.2.1)
 have f3 := (seven_cells hMB.box).2.2.2.2.1
 rw [show xB.vz = .slice (some ⟨gz, oz, none⟩) nz cz by rw [hxB, H.out.2.2.2.2.2.1]; exact H.out.2.2.2.1] at f3
 have f4 := (Que.cellAt (w := wB) (B := B) (g := gz) (off := oz) (n := nz) (cap := cz) (by have h9 := hMB.q.q 1 (xB.vz, xB.sz) rfl; rw [show xB.vz = .slice (some ⟨gz, oz, none⟩) nz cz by rw [hxB, H.out.2.2.2.2.2.1]; exact H.out.2.2.2.1] at h9; exact h9) (show xB.sz[bl]? = some (z : Int) by rw [hxB]; exact H0.out.2.1)).1
 have f5 := f2 (o * 2 + 1)
 have p5 : IntKind.i64.wrap ((k : Int) - (z : Int)) = (k : Int) - (z : Int) := by rw [IntKind.wrap_i64]; omega
 have HB : Hid _ := And.intro hMB (And.intro hGB (And.intro hxB (And.intro hvhB (And.intro hbbf hghf))))
 clear hMB hGB hxB hvhB hbbf hghf hvf hbA hkB hwB f2 q0 qf ed0 e2
 go_region
 have hpc : (k : Int) - (z : Int) = ((k - z : Nat) : Int) := by omega
 rw [hpc]
 obtain ⟨wC, hwC⟩ : ∃ wC, wC = (wB.setCell ⟨gh, o * 2 + 1, none⟩ (.int .i64 ((k - z : Nat) : Int))).drew := ⟨_, rfl⟩
 rw [<- hwC]
 obtain ⟨xC, hxC⟩ : ∃ xC : Rv, xC = { xB with ks := xB.ks.set o (k - z) } := ⟨_, rfl⟩
 have hMC : RnM wC B r g p mb xC := by rw [hwC, hxC]; exact (HB.out.1.putStates HB.out.2.2.2.1 (o := o) (k - z)).below ((Below.refl _ _).drew)
 have hkC : Kept (fun b => b = gh) wB wC := by rw [hwC]; exact (Kept.setCell wB gh _ _).trans (Kept.of_below ((Below.refl _ _).drew))
 have hfC : xB.foot = xC.foot := by rw [hxC]; rfl
 have hGC : Grew w wC r x xC := HB.out.2.1.trans ⟨hkC.mono fun b _ e => .inr (.inl (by rw [HB.out.2.2.2.1, e]; rfl)), fun b hb => .inl (by rw [hfC]; exact hb)⟩
 have g0 : wC.cell? ⟨w.heap.size, 0, none⟩ = some (.int .i64 bl) := (World.cell?_of_block (a := ⟨w.heap.size, 0, none⟩) (hkC.block w.heap.size (World.block_lt_of_cell? wB _ f0) fun e => HB.out.2.2.2.2.1 (.inr e))).trans f0
 have hlC : xC.ks.length = nk := by rw [hxC, HB.out.2.2.1, H.out.2.2.2.2.2.2.2.1]; exact List.length_set
 have hvhC : xC.vh = .slice (some ⟨gh, 0, none⟩) nk ch := by rw [hxC]; show xB.vh = _; rw [HB.out.2.2.1, H.out.2.2.2.2.2.2.2.1]; exact H.out.2.2.2.2.1
 have hvzC : xC.vz = .slice (some ⟨gz, oz, none⟩) nz cz := by rw [hxC, HB.out.2.2.1, H.out.2.2.2.2.2.1]; exact H.out.2.2.2.1
 have hvoC : xC.vo = .slice (some ⟨go, oo, none⟩) no co := by rw [hxC, HB.out.2.2.1, H.out.2.2.2.2.2.2.1]; exact H.out.2.2.1
 have hszC : xC.sz = x.sz := by rw [hxC, HB.out.2.2.1]
 have howC : xC.ow = x.ow := by rw [hxC, HB.out.2.2.1]
 have g1 := (seven_cells hMC.box).2.2.2.2.1
 rw [hvzC] at g1
 have g2 := (seven_cells hMC.box).2.2.1
 rw [hvhC] at g2
 have g3 := (Que.cellAt (w := wC) (B := B) (g := gz) (off := oz) (n := nz) (cap := cz) (by have h9 := hMC.q.q 1 (xC.vz, xC.sz) rfl; rw [hvzC] at h9; exact h9) (show xC.sz[bl]? = some (z : Int) by rw [hszC]; exact H0.out.2.1)).1
 have hwn : World.ownsRow wC B 197 2 (.slice (some ⟨gh, 0, none⟩) nk ch) nk (hpC xC.H xC.ks) := by have h9 := hMC.hp; rw [hvhC, hlC] at h9; exact h9
 obtain ⟨i0, hi0, hz0, hz1, hz2⟩ := info_parts Tryz.infoHp
 have HC : Hid _ := And.intro hMC (And.intro hGC (And.intro hxC (And.intro hlC (And.intro hvhC (And.intro hvoC (And.intro howC (And.intro hwn (And.intro hszC hvzC))))))))
 clear hMC hGC hxC hlC hvzC hvhC hvoC howC hwn hszC hkC hfC hwC hpc f0 f1 f3 f4 f5 p5
 have hba : Below wC.heap.size wC (wC.alloc (.cells #[.int .i64 bl] 3)) := (Below.refl _ _).alloc (Nat.le_refl _) _
 have k0 := sg_cell g0 hba
 have k1 := sg_cell g1 hba
 have k2 := sg_cell g2 hba
 have k3 := sg_cell g3 hba
 obtain ⟨W3, hW3⟩ : ∃ W3, W3 = ((wC.alloc (.cells #[.int .i64 bl] 3)).alloc (.cells #[.slice (some ⟨wC.heap.size, 0, none⟩) 1 1, .int .i64 z] 197)).drew := ⟨_, rfl⟩
 have hb3 : Below wC.heap.size wC W3 := by rw [hW3]; exact (((Below.refl _ _).alloc (Nat.le_refl _) _).alloc (by rw [World.size_alloc]; omega) _).drew
 have hs3 : W3.heap.size = wC.heap.size + 2 := by rw [hW3]; simp
 have hn3 : W3.heap[wC.heap.size + 1]? = some (.cells #[.slice (some ⟨wC.heap.size, 0, none⟩) 1 1, .int .i64 z] 197 (0, 0)) := by rw [hW3]; have h9 := heap_alloc_new (wC.alloc (.cells #[.int .i64 bl] 3)) (.cells #[.slice (some ⟨wC.heap.size, 0, none⟩) 1 1, .int .i64 z] 197); rw [World.size_alloc] at h9; exact h9
 have hm3 : W3.heap[wC.heap.size]? = some (.cells #[.int .i64 bl] 3 (0, 0)) := by rw [hW3]; exact (heap_alloc_old (wC.alloc (.cells #[.int .i64 bl] 3)) _ (by rw [World.size_alloc]; omega)).trans (heap_alloc_new wC _)
 have hO3 := own_up (F := fun _ => False) HC.out.2.2.2.2.2.2.2.1 (Kept.of_below hb3) (fun _ _ h => h)
 have hB3 : B <= wC.heap.size := by have := t_lt HC.out.1.box; have := HC.out.1.up; omega
 have hx3 : W3.heap[r]? = wC.heap[r]? := hb3.block r (t_lt HC.out.1.box)
 have hml : nk + 1 <= maxLen := by unfold maxLen; have := H.out.2.2.2.2.2.2.2.2.2.2.2.2.2.1; omega
 have hby : (nk + 1) * 32 <= 140737488355328 := by have := H.out.2.2.2.2.2.2.2.2.2.2.2.2.2.1; omega
 have HW : Hid _ := And.intro hb3 (And.intro hs3 (And.intro hn3 (And.intro hm3 (And.intro hO3 (And.intro hB3 (And.intro hx3 hW3))))))
 clear hb3 hs3 hn3 hm3 hO3 hB3 hx3 hW3
 have hrw : r ≠ w.heap.size := by have := t_lt H0.out.2.2.box; omega
 have hbg : w.heap.size ≠ gh := fun e => HB.out.2.2.2.2.1 (.inr e)
 have hrg : r ≠ gh := fun e => HC.out.1.r_foot (.inl (by rw [HC.out.2.2.2.2.1, e]; rfl))
 have hzf : Foot xC.L gz := ⟨(xC.vz, xC.sz), by simp [Rv.L], by rw [HC.out.2.2.2.2.2.2.2.2.2]; rfl⟩
 have hzg : gz ≠ gh := fun e => HC.out.1.heap_list (b := gh) (by rw [HC.out.2.2.2.2.1]; rfl) (by rw [<- e]; exact hzf)
 have hzr : gz ≠ r := fun e => HC.out.1.r_foot (.inr (by rw [<- e]; exact hzf))
 have l0 := sg_cell g0 HW.out.1
 have l1 := sg_cell g1 HW.out.1
 have l2 := sg_cell g2 HW.out.1
 have l3 := sg_cell g3 HW.out.1
 have HG : Hid _ := And.intro (And.intro l1 (And.intro l0 l3)) (And.intro hrw (And.intro hbg (And.intro hrg (And.intro hzg hzr))))
 rw [HW.out.2.2.2.2.2.2.2] at l2
 clear l0 l1 l3 hrw hbg hrg hzf hzg hzr
 have HK : Hid _ := And.intro k1 (And.intro k0 k3)
 clear k0 k1 k3
 go_upto_region 5 with fail
 refine wp_region_held_drew (S := (fun w' => w'.cell? ⟨r, 4, none⟩ = some (.slice (some ⟨gz, oz, none⟩) nz cz) /\ w'.cell? ⟨w.heap.size, 0, none⟩ = some (.int .i64 bl) /\ w'.cell? ⟨gz, oz + bl, none⟩ = some (.int .i64 z))) (by kernel_rfl) ?_ (fun hHeld => ?_)
 ·exact ⟨g1, g0, g3⟩
 refine tk8 0 rfl ?_; (try simp only [ty9, Act.put])
 refine tk8 1 rfl ?_; (try simp only [ty9, Act.put])
 refine tk8 2 rfl ?_; (try simp only [ty9, Act.put])
 refine tk8 3 rfl ?_; (try simp only [ty9, Act.put])
 refine tk8 5 rfl ?_; (try simp only [ty9, Act.put])
 refine tk8 7 rfl ?_; (try simp only [ty9, Act.put])
 refine tk8 8 rfl ?_; (try simp only [ty9, Act.put])
 refine tk8 9 rfl ?_; (try simp only [ty9, Act.put])
 refine tk8 10 rfl ?_; (try simp only [ty9, Act.put])
 refine tk8 11 rfl ?_; (try simp only [ty9, Act.put])
 refine tk8 12 rfl ?_; (try simp only [ty9, Act.put])
 refine tk8 13 rfl ?_; (try simp only [ty9, Act.put])
 refine wpAnyH_ready (rs := [4, 6]) (by kernel_rfl) (by simp) ?_
 refine AllReadyH.cons (o := _) rfl (fun K hK => ?_) ?_
 ·(go_simp)
  (try go_wp2_with fail)
  refine hK.out _ _ ?_ (fun hHeld => ?_)
  ·exact hHeld
  clear hK K
  (try simp only [ty9, Act.put])
  refine wpAnyH_ready (rs := [6]) (by kernel_rfl) (by simp) ?_
  refine AllReadyH.cons (o := _) rfl (fun K hK => ?_) ?_
  ·(go_simp)
   (try go_wp2_with fail)
   refine hK.out _ _ ?_ (fun hHeld => ?_)
   ·exact HK.out
   clear hK K
   (try simp only [ty9, Act.put])
   refine tk8 14 rfl ?_; (try simp only [ty9, Act.put])
   refine wpAnyH_ready (rs := [15]) (by kernel_rfl) (by simp) ?_
   refine AllReadyH.cons (o := _) rfl (fun K hK => ?_) ?_
   ·(go_simp)
    (try go_wp2_with fail)
    refine hK.out _ _ ?_ (fun hHeld => ?_)
    ·(have h9 := HG.out.1; rw [HW.out.2.2.2.2.2.2.2] at h9; exact h9)
    clear hK K
    (try simp only [ty9, Act.put])
    refine wpAnyH_ready (rs := [16]) (by kernel_rfl) (by simp) ?_
    refine AllReadyH.cons (o := _) rfl (fun K hK => ?_) ?_
    ·(rw [<- HW.out.2.2.2.2.2.2.2]; refine step_append_lies _ (by rfl) _ _ _ (by rfl) B 197 i0 _ 2 32 Tryz.underlying161 hi0 hz0 hz1 hz2 rfl (Nat.succ_pos 1) (.slice (some ⟨gh, 0, none⟩) nk ch) nk (hpC xC.H xC.ks) (by rfl) HW.out.2.2.2.2.1 ⟨wC.heap.size + 1, 0, none⟩ 1 1 [.slice (some ⟨wC.heap.size, 0, none⟩) 1 1, .int .i64 z] (by rfl) (by rfl) (World.news_of_block HW.out.2.2.1) (by simp [Value.oneCell']) Nat.one_pos hml hby (by have := HW.out.2.1; have := HW.out.2.2.2.2.2.1; omega) (wC.heap.size + 2) HW.out.2.1 ?_; intro gg cap2 w3 hown3 hgrow hat hlt; have hk3 := Kept.of_grown hgrow; have hr3 : w3.heap[r]? = wC.heap[r]? := (hk3.block r (by have := t_lt HC.out.1.box; have := HW.out.2.1; omega) (fun e => HC.out.1.r_foot (.inl (by rw [HC.out.2.2.2.2.1]; exact e)))).trans HW.out.2.2.2.2.2.2.1; have hbx := hr3.trans HC.out.1.box; have bc := (seven_cells hbx).2.2.1; rw [HC.out.2.2.2.2.1] at bc; have bf := blk_free hbx 2; have HN : Hid _ := And.intro hown3 (And.intro hk3 (And.intro hat hlt)); clear hown3 hk3 hat hlt hbx hr3 hgrow)
     (try go_wp2_with fail)
     refine hK.out _ _ ?_ (fun hHeld => ?_)
     ·exact lift_kp HN.out.2.1 HG.out.2.2.2.1 HG.out.2.2.1 HG.out.2.2.2.2.1 HG.out.1
     clear hK K
     (try simp only [ty9, Act.put])
     refine tk8 17 rfl ?_; (try simp only [ty9, Act.put])
     refine tk8 18 rfl ?_; (try simp only [ty9, Act.put])
     refine wpAnyH_ready (rs := [19]) (by kernel_rfl) (by simp) ?_
     refine AllReadyH.cons (o := _) rfl (fun K hK => ?_) ?_
     ·(go_simp)
      (try go_wp2_with fail)
      refine hK.out _ _ ?_ (fun hHeld => ?_)
      ·exact lift_st HG.out.2.1 HG.out.2.2.2.2.2 hHeld
      clear hK K
      (try simp only [ty9, Act.put])
      refine wpAnyH_done (by kernel_rfl) ?_ _
      (try go_simp)
      obtain ⟨xD, hxD⟩ : ∃ xD : Rv, xD = { xC with vh := .slice (some ⟨gg, 0, none⟩) (nk + 1) cap2, H := xC.H ++ [(.slice (some ⟨wC.heap.size, 0, none⟩) 1 1, [(bl : Int)])], ks := xC.ks ++ [z] } := ⟨_, rfl⟩
      obtain ⟨wD, hwD⟩ : ∃ wD, wD = w3.setCell ⟨r, 2, none⟩ (.slice (some ⟨gg, 0, none⟩) (nk + 1) cap2) := ⟨_, rfl⟩
      rw [<- hwD] at hHeld ⊢
      have hk3 : Kept (fun b => xC.vh.ownBlock = some b) W3 w3 := by rw [HC.out.2.2.2.2.1]; exact HN.out.2.1
      have hat3 : (Value.slice (some ⟨gg, 0, none⟩) (nk + 1) cap2).ownBlock = xC.vh.ownBlock \/ ∀ b, (Value.slice (some ⟨gg, 0, none⟩) (nk + 1) cap2).ownBlock = some b -> W3.heap.size <= b := by
       rw [HC.out.2.2.2.2.1]
       rcases HN.out.2.2.1 with e | e
       ·exact .inl e.symm
       ·exact .inr fun b e2 => by have e3 : gg = b := Option.some.inj e2; have := HW.out.2.1; omega
      have hf3 : ∀ b, (Value.slice (some ⟨wC.heap.size, 0, none⟩) 1 1).ownBlock = some b -> wC.heap.size <= b := fun b e => by cases e; exact Nat.le_refl _
      have hMD : RnM wD B r g p mb xD := by rw [hwD, hxD]; exact HC.out.1.snocHeap HW.out.1 (Que.one HW.out.2.2.2.2.2.1 HW.out.2.2.2.1) hf3 hk3 (by rw [HC.out.2.2.2.1]; exact HN.out.1) hat3 (at0_of _ _ _)
      have hGD : Grew w wD r x xD := HC.out.2.1.trans (by rw [hwD, hxD]; exact grew_snoc HW.out.1 hf3 hk3 hat3)
      have hvoD : xD.vo = .slice (some ⟨go, oo, none⟩) no co := by rw [hxD]; exact HC.out.2.2.2.2.2.1
      have howD : xD.ow = x.ow := by rw [hxD]; exact HC.out.2.2.2.2.2.2.1
      have j0 := hHeld.2.1
      have j1 := (seven_cells hMD.box).2.2.2.1
      rw [hvoD] at j1
      obtain ⟨j2, j3⟩ := Que.cellAt (w := wD) (B := B) (g := go) (off := oo) (n := no) (cap := co) (by have h9 := hMD.q.q 0 (xD.vo, xD.ow) rfl; rw [hvoD] at h9; exact h9) (show xD.ow[bl]? = some (o : Int) by rw [howD]; exact H0.out.1)
      have HE : Hid _ := And.intro hMD (And.intro hGD (And.intro hvoD (And.intro howD hxD)))
      clear hHeld hMD hGD hvoD howD hxD hk3 hat3 hf3 hwD bc bf
      go_upto_region 6 with fail
      go_region
      go_wp2_with fail
      go_ret2
      have hg9 := And.intro HC.out.2.2.1 HB.out.2.2.1
      refine ⟨rfl, { xD with ow := xD.ow.set bl (nk : Int) }, (HE.out.1.setOw HE.out.2.2.1 (by rw [HE.out.2.2.2.1, <- H.out.2.2.2.2.2.2.1]; exact hol) _).below ((Below.refl _ _).drew), ?_, ?_, ?_, ?_, ?_, HE.out.2.1.trans ⟨((Kept.setCell wD go _ _).mono fun b _ e => .inr (.inr ⟨(xD.vo, xD.ow), by simp [Rv.L], by simp only; rw [HE.out.2.2.1, e]; rfl⟩)).trans (Kept.of_below ((Below.refl _ _).drew)), fun b hb => foot_app (x := xD) (k := 0) (v' := xD.vo) (zs' := xD.ow.set bl (nk : Int)) rfl (.inl rfl) hb⟩⟩
      ·show xD.ow.set bl (nk : Int) = _; rw [HE.out.2.2.2.1, H.out.2.2.2.2.2.2.2.1]
      ·show xD.sz = _; rw [HE.out.2.2.2.2]; exact HC.out.2.2.2.2.2.2.2.2.1
      ·show xD.wt = _; rw [HE.out.2.2.2.2]; show xC.wt = _; rw [hg9.1, hg9.2]
      ·show xD.ks = _; rw [HE.out.2.2.2.2]; show xC.ks ++ [z] = _; rw [hg9.1, hg9.2]
      ·show xD.H.map (·.2) = _; rw [HE.out.2.2.2.2]; show (xC.H ++ _).map (·.2) = _; rw [hg9.1, hg9.2, List.map_append, List.map_set]; rfl
     exact AllReadyH.nil
    exact AllReadyH.nil
   exact AllReadyH.nil
  exact AllReadyH.nil
 refine AllReadyH.cons (o := _) rfl (fun K hK => ?_) ?_
 ·(go_simp)
  (try go_wp2_with fail)
  refine hK.out _ _ ?_ (fun hHeld => ?_)
  ·exact HK.out
  clear hK K
  (try simp only [ty9, Act.put])
  refine tk8 14 rfl ?_; (try simp only [ty9, Act.put])
  refine wpAnyH_ready (rs := [4, 15]) (by kernel_rfl) (by simp) ?_
  refine AllReadyH.cons (o := _) rfl (fun K hK => ?_) ?_
  ·(go_simp)
   (try go_wp2_with fail)
   refine hK.out _ _ ?_ (fun hHeld => ?_)
   ·exact hHeld
   clear hK K
   (try simp only [ty9, Act.put])
   refine wpAnyH_ready (rs := [15]) (by kernel_rfl) (by simp) ?_
   refine AllReadyH.cons (o := _) rfl (fun K hK => ?_) ?_
   ·(go_simp)
    (try go_wp2_with fail)
    refine hK.out _ _ ?_ (fun hHeld => ?_)
    ·(have h9 := HG.out.1; rw [HW.out.2.2.2.2.2.2.2] at h9; exact h9)
    clear hK K
    (try simp only [ty9, Act.put])
    refine wpAnyH_ready (rs := [16]) (by kernel_rfl) (by simp) ?_
    refine AllReadyH.cons (o := _) rfl (fun K hK => ?_) ?_
    ·(rw [<- HW.out.2.2.2.2.2.2.2]; refine step_append_lies _ (by rfl) _ _ _ (by rfl) B 197 i0 _ 2 32 Tryz.underlying161 hi0 hz0 hz1 hz2 rfl (Nat.succ_pos 1) (.slice (some ⟨gh, 0, none⟩) nk ch) nk (hpC xC.H xC.ks) (by rfl) HW.out.2.2.2.2.1 ⟨wC.heap.size + 1, 0, none⟩ 1 1 [.slice (some ⟨wC.heap.size, 0, none⟩) 1 1, .int .i64 z] (by rfl) (by rfl) (World.news_of_block HW.out.2.2.1) (by simp [Value.oneCell']) Nat.one_pos hml hby (by have := HW.out.2.1; have := HW.out.2.2.2.2.2.1; omega) (wC.heap.size + 2) HW.out.2.1 ?_; intro gg cap2 w3 hown3 hgrow hat hlt; have hk3 := Kept.of_grown hgrow; have hr3 : w3.heap[r]? = wC.heap[r]? := (hk3.block r (by have := t_lt HC.out.1.box; have := HW.out.2.1; omega) (fun e => HC.out.1.r_foot (.inl (by rw [HC.out.2.2.2.2.1]; exact e)))).trans HW.out.2.2.2.2.2.2.1; have hbx := hr3.trans HC.out.1.box; have bc := (seven_cells hbx).2.2.1; rw [HC.out.2.2.2.2.1] at bc; have bf := blk_free hbx 2; have HN : Hid _ := And.intro hown3 (And.intro hk3 (And.intro hat hlt)); clear hown3 hk3 hat hlt hbx hr3 hgrow)
     (try go_wp2_with fail)
     refine hK.out _ _ ?_ (fun hHeld => ?_)
     ·exact lift_kp HN.out.2.1 HG.out.2.2.2.1 HG.out.2.2.1 HG.out.2.2.2.2.1 HG.out.1
     clear hK K
     (try simp only [ty9, Act.put])
     refine tk8 17 rfl ?_; (try simp only [ty9, Act.put])
     refine tk8 18 rfl ?_; (try simp only [ty9, Act.put])
     refine wpAnyH_ready (rs := [19]) (by kernel_rfl) (by simp) ?_
     refine AllReadyH.cons (o := _) rfl (fun K hK => ?_) ?_
     ·(go_simp)
      (try go_wp2_with fail)
      refine hK.out _ _ ?_ (fun hHeld => ?_)
      ·exact lift_st HG.out.2.1 HG.out.2.2.2.2.2 hHeld
      clear hK K
      (try simp only [ty9, Act.put])
      refine wpAnyH_done (by kernel_rfl) ?_ _
      (try go_simp)
      obtain ⟨xD, hxD⟩ : ∃ xD : Rv, xD = { xC with vh := .slice (some ⟨gg, 0, none⟩) (nk + 1) cap2, H := xC.H ++ [(.slice (some ⟨wC.heap.size, 0, none⟩) 1 1, [(bl : Int)])], ks := xC.ks ++ [z] } := ⟨_, rfl⟩
      obtain ⟨wD, hwD⟩ : ∃ wD, wD = w3.setCell ⟨r, 2, none⟩ (.slice (some ⟨gg, 0, none⟩) (nk + 1) cap2) := ⟨_, rfl⟩
      rw [<- hwD] at hHeld ⊢
      have hk3 : Kept (fun b => xC.vh.ownBlock = some b) W3 w3 := by rw [HC.out.2.2.2.2.1]; exact HN.out.2.1
      have hat3 : (Value.slice (some ⟨gg, 0, none⟩) (nk + 1) cap2).ownBlock = xC.vh.ownBlock \/ ∀ b, (Value.slice (some ⟨gg, 0, none⟩) (nk + 1) cap2).ownBlock = some b -> W3.heap.size <= b := by
       rw [HC.out.2.2.2.2.1]
       rcases HN.out.2.2.1 with e | e
       ·exact .inl e.symm
       ·exact .inr fun b e2 => by have e3 : gg = b := Option.some.inj e2; have := HW.out.2.1; omega
      have hf3 : ∀ b, (Value.slice (some ⟨wC.heap.size, 0, none⟩) 1 1).ownBlock = some b -> wC.heap.size <= b := fun b e => by cases e; exact Nat.le_refl _
      have hMD : RnM wD B r g p mb xD := by rw [hwD, hxD]; exact HC.out.1.snocHeap HW.out.1 (Que.one HW.out.2.2.2.2.2.1 HW.out.2.2.2.1) hf3 hk3 (by rw [HC.out.2.2.2.1]; exact HN.out.1) hat3 (at0_of _ _ _)
      have hGD : Grew w wD r x xD := HC.out.2.1.trans (by rw [hwD, hxD]; exact grew_snoc HW.out.1 hf3 hk3 hat3)
      have hvoD : xD.vo = .slice (some ⟨go, oo, none⟩) no co := by rw [hxD]; exact HC.out.2.2.2.2.2.1
      have howD : xD.ow = x.ow := by rw [hxD]; exact HC.out.2.2.2.2.2.2.1
      have j0 := hHeld.2.1
      have j1 := (seven_cells hMD.box).2.2.2.1
      rw [hvoD] at j1
      obtain ⟨j2, j3⟩ := Que.cellAt (w := wD) (B := B) (g := go) (off := oo) (n := no) (cap := co) (by have h9 := hMD.q.q 0 (xD.vo, xD.ow) rfl; rw [hvoD] at h9; exact h9) (show xD.ow[bl]? = some (o : Int) by rw [howD]; exact H0.out.1)
      have HE : Hid _ := And.intro hMD (And.intro hGD (And.intro hvoD (And.intro howD hxD)))
      clear hHeld hMD hGD hvoD howD hxD hk3 hat3 hf3 hwD bc bf
      go_upto_region 6 with fail
      go_region
      go_wp2_with fail
      go_ret2
      have hg9 := And.intro HC.out.2.2.1 HB.out.2.2.1
      refine ⟨rfl, { xD with ow := xD.ow.set bl (nk : Int) }, (HE.out.1.setOw HE.out.2.2.1 (by rw [HE.out.2.2.2.1, <- H.out.2.2.2.2.2.2.1]; exact hol) _).below ((Below.refl _ _).drew), ?_, ?_, ?_, ?_, ?_, HE.out.2.1.trans ⟨((Kept.setCell wD go _ _).mono fun b _ e => .inr (.inr ⟨(xD.vo, xD.ow), by simp [Rv.L], by simp only; rw [HE.out.2.2.1, e]; rfl⟩)).trans (Kept.of_below ((Below.refl _ _).drew)), fun b hb => foot_app (x := xD) (k := 0) (v' := xD.vo) (zs' := xD.ow.set bl (nk : Int)) rfl (.inl rfl) hb⟩⟩
      ·show xD.ow.set bl (nk : Int) = _; rw [HE.out.2.2.2.1, H.out.2.2.2.2.2.2.2.1]
      ·show xD.sz = _; rw [HE.out.2.2.2.2]; exact HC.out.2.2.2.2.2.2.2.2.1
      ·show xD.wt = _; rw [HE.out.2.2.2.2]; show xC.wt = _; rw [hg9.1, hg9.2]
      ·show xD.ks = _; rw [HE.out.2.2.2.2]; show xC.ks ++ [z] = _; rw [hg9.1, hg9.2]
      ·show xD.H.map (·.2) = _; rw [HE.out.2.2.2.2]; show (xC.H ++ _).map (·.2) = _; rw [hg9.1, hg9.2, List.map_append, List.map_set]; rfl
     exact AllReadyH.nil
    exact AllReadyH.nil
   exact AllReadyH.nil
  refine AllReadyH.cons (o := _) rfl (fun K hK => ?_) ?_
  ·(go_simp)
   (try go_wp2_with fail)
   refine hK.out _ _ ?_ (fun hHeld => ?_)
   ·(have h9 := HG.out.1; rw [HW.out.2.2.2.2.2.2.2] at h9; exact h9)
   clear hK K
   (try simp only [ty9, Act.put])
   refine wpAnyH_ready (rs := [4]) (by kernel_rfl) (by simp) ?_
   refine AllReadyH.cons (o := _) rfl (fun K hK => ?_) ?_
   ·(go_simp)
    (try go_wp2_with fail)
    refine hK.out _ _ ?_ (fun hHeld => ?_)
    ·exact hHeld
    clear hK K
    (try simp only [ty9, Act.put])
    refine wpAnyH_ready (rs := [16]) (by kernel_rfl) (by simp) ?_
    refine AllReadyH.cons (o := _) rfl (fun K hK => ?_) ?_
    ·(rw [<- HW.out.2.2.2.2.2.2.2]; refine step_append_lies _ (by rfl) _ _ _ (by rfl) B 197 i0 _ 2 32 Tryz.underlying161 hi0 hz0 hz1 hz2 rfl (Nat.succ_pos 1) (.slice (some ⟨gh, 0, none⟩) nk ch) nk (hpC xC.H xC.ks) (by rfl) HW.out.2.2.2.2.1 ⟨wC.heap.size + 1, 0, none⟩ 1 1 [.slice (some ⟨wC.heap.size, 0, none⟩) 1 1, .int .i64 z] (by rfl) (by rfl) (World.news_of_block HW.out.2.2.1) (by simp [Value.oneCell']) Nat.one_pos hml hby (by have := HW.out.2.1; have := HW.out.2.2.2.2.2.1; omega) (wC.heap.size + 2) HW.out.2.1 ?_; intro gg cap2 w3 hown3 hgrow hat hlt; have hk3 := Kept.of_grown hgrow; have hr3 : w3.heap[r]? = wC.heap[r]? := (hk3.block r (by have := t_lt HC.out.1.box; have := HW.out.2.1; omega) (fun e => HC.out.1.r_foot (.inl (by rw [HC.out.2.2.2.2.1]; exact e)))).trans HW.out.2.2.2.2.2.2.1; have hbx := hr3.trans HC.out.1.box; have bc := (seven_cells hbx).2.2.1; rw [HC.out.2.2.2.2.1] at bc; have bf := blk_free hbx 2; have HN : Hid _ := And.intro hown3 (And.intro hk3 (And.intro hat hlt)); clear hown3 hk3 hat hlt hbx hr3 hgrow)
     (try go_wp2_with fail)
     refine hK.out _ _ ?_ (fun hHeld => ?_)
     ·exact lift_kp HN.out.2.1 HG.out.2.2.2.1 HG.out.2.2.1 HG.out.2.2.2.2.1 HG.out.1
     clear hK K
     (try simp only [ty9, Act.put])
     refine tk8 17 rfl ?_; (try simp only [ty9, Act.put])
     refine tk8 18 rfl ?_; (try simp only [ty9, Act.put])
     refine wpAnyH_ready (rs := [19]) (by kernel_rfl) (by simp) ?_
     refine AllReadyH.cons (o := _) rfl (fun K hK => ?_) ?_
     ·(go_simp)
      (try go_wp2_with fail)
      refine hK.out _ _ ?_ (fun hHeld => ?_)
      ·exact lift_st HG.out.2.1 HG.out.2.2.2.2.2 hHeld
      clear hK K
      (try simp only [ty9, Act.put])
      refine wpAnyH_done (by kernel_rfl) ?_ _
      (try go_simp)
      obtain ⟨xD, hxD⟩ : ∃ xD : Rv, xD = { xC with vh := .slice (some ⟨gg, 0, none⟩) (nk + 1) cap2, H := xC.H ++ [(.slice (some ⟨wC.heap.size, 0, none⟩) 1 1, [(bl : Int)])], ks := xC.ks ++ [z] } := ⟨_, rfl⟩
      obtain ⟨wD, hwD⟩ : ∃ wD, wD = w3.setCell ⟨r, 2, none⟩ (.slice (some ⟨gg, 0, none⟩) (nk + 1) cap2) := ⟨_, rfl⟩
      rw [<- hwD] at hHeld ⊢
      have hk3 : Kept (fun b => xC.vh.ownBlock = some b) W3 w3 := by rw [HC.out.2.2.2.2.1]; exact HN.out.2.1
      have hat3 : (Value.slice (some ⟨gg, 0, none⟩) (nk + 1) cap2).ownBlock = xC.vh.ownBlock \/ ∀ b, (Value.slice (some ⟨gg, 0, none⟩) (nk + 1) cap2).ownBlock = some b -> W3.heap.size <= b := by
       rw [HC.out.2.2.2.2.1]
       rcases HN.out.2.2.1 with e | e
       ·exact .inl e.symm
       ·exact .inr fun b e2 => by have e3 : gg = b := Option.some.inj e2; have := HW.out.2.1; omega
      have hf3 : ∀ b, (Value.slice (some ⟨wC.heap.size, 0, none⟩) 1 1).ownBlock = some b -> wC.heap.size <= b := fun b e => by cases e; exact Nat.le_refl _
      have hMD : RnM wD B r g p mb xD := by rw [hwD, hxD]; exact HC.out.1.snocHeap HW.out.1 (Que.one HW.out.2.2.2.2.2.1 HW.out.2.2.2.1) hf3 hk3 (by rw [HC.out.2.2.2.1]; exact HN.out.1) hat3 (at0_of _ _ _)
      have hGD : Grew w wD r x xD := HC.out.2.1.trans (by rw [hwD, hxD]; exact grew_snoc HW.out.1 hf3 hk3 hat3)
      have hvoD : xD.vo = .slice (some ⟨go, oo, none⟩) no co := by rw [hxD]; exact HC.out.2.2.2.2.2.1
      have howD : xD.ow = x.ow := by rw [hxD]; exact HC.out.2.2.2.2.2.2.1
      have j0 := hHeld.2.1
      have j1 := (seven_cells hMD.box).2.2.2.1
      rw [hvoD] at j1
      obtain ⟨j2, j3⟩ := Que.cellAt (w := wD) (B := B) (g := go) (off := oo) (n := no) (cap := co) (by have h9 := hMD.q.q 0 (xD.vo, xD.ow) rfl; rw [hvoD] at h9; exact h9) (show xD.ow[bl]? = some (o : Int) by rw [howD]; exact H0.out.1)
      have HE : Hid _ := And.intro hMD (And.intro hGD (And.intro hvoD (And.intro howD hxD)))
      clear hHeld hMD hGD hvoD howD hxD hk3 hat3 hf3 hwD bc bf
      go_upto_region 6 with fail
      go_region
      go_wp2_with fail
      go_ret2
      have hg9 := And.intro HC.out.2.2.1 HB.out.2.2.1
      refine ⟨rfl, { xD with ow := xD.ow.set bl (nk : Int) }, (HE.out.1.setOw HE.out.2.2.1 (by rw [HE.out.2.2.2.1, <- H.out.2.2.2.2.2.2.1]; exact hol) _).below ((Below.refl _ _).drew), ?_, ?_, ?_, ?_, ?_, HE.out.2.1.trans ⟨((Kept.setCell wD go _ _).mono fun b _ e => .inr (.inr ⟨(xD.vo, xD.ow), by simp [Rv.L], by simp only; rw [HE.out.2.2.1, e]; rfl⟩)).trans (Kept.of_below ((Below.refl _ _).drew)), fun b hb => foot_app (x := xD) (k := 0) (v' := xD.vo) (zs' := xD.ow.set bl (nk : Int)) rfl (.inl rfl) hb⟩⟩
      ·show xD.ow.set bl (nk : Int) = _; rw [HE.out.2.2.2.1, H.out.2.2.2.2.2.2.2.1]
      ·show xD.sz = _; rw [HE.out.2.2.2.2]; exact HC.out.2.2.2.2.2.2.2.2.1
      ·show xD.wt = _; rw [HE.out.2.2.2.2]; show xC.wt = _; rw [hg9.1, hg9.2]
      ·show xD.ks = _; rw [HE.out.2.2.2.2]; show xC.ks ++ [z] = _; rw [hg9.1, hg9.2]
      ·show xD.H.map (·.2) = _; rw [HE.out.2.2.2.2]; show (xC.H ++ _).map (·.2) = _; rw [hg9.1, hg9.2, List.map_append, List.map_set]; rfl
     exact AllReadyH.nil
    exact AllReadyH.nil
   exact AllReadyH.nil
  exact AllReadyH.nil
 exact AllReadyH.nil
end
section
open Go.RowKit Go.Maps
structure OutsI (w : World) (B : Nat) (us : List Value) (n : Nat) (f : Nat -> List Int) : Prop where
 len : us.length = n
 row : ∀ i, i < n -> ∃ u, us[i]? = some u /\ OwnI w B u (f i)
 ap : ∀ (i j : Nat) (u x : Value) (b : Nat), us[i]? = some u -> us[j]? = some x -> i ≠ j -> u.ownBlock = some b -> x.ownBlock ≠ some b
theorem OutsI.below {w w' : World} {B : Nat} {us : List Value} {n : Nat} {f : Nat -> List Int} (h : OutsI w B us n f) (hb : Below w.heap.size w w') : OutsI w' B us n f :=
 ⟨h.len, fun i hi => by obtain ⟨u, h1, h2⟩ := h.row i hi; exact ⟨u, h1, trow_at h2 fun b hb' => hb.block b (h2.lt b hb').2⟩, h.ap⟩
theorem outsI_new (w : World) (B n : Nat) : OutsI w B (List.replicate n (.slice none 0 0)) n fun _ => [] :=
 ⟨by simp, fun i hi => ⟨.slice none 0 0, by rw [List.getElem?_replicate, if_pos hi], World.ownsRow_nil _ _ _ _⟩, fun i j u x b h1 _ _ h3 => by
  rw [List.getElem?_replicate] at h1
  split at h1
  ·cases h1; cases h3
  ·cases h1⟩
theorem OutsI.set {w w' : World} {B : Nat} {us : List Value} {n : Nat} {f : Nat -> List Int} (h : OutsI w B us n f) {i : Nat} {u u' : Value} {F : Nat -> Prop} (hi : i < n) (hu : us[i]? = some u) (hk : Kept F w w') (hF : ∀ b, F b -> u.ownBlock = some b \/ ∀ (j : Nat) (x : Value), us[j]? = some x -> x.ownBlock ≠ some b) {zs : List Int} (hO : OwnI w' B u' zs) (hat : u'.ownBlock = u.ownBlock \/ ∀ b, u'.ownBlock = some b -> w.heap.size <= b) :
 OutsI w' B (us.set i u') n (fun j => if j = i then zs else f j) := by
 refine ⟨by rw [List.length_set]; exact h.len, fun j hj => ?_, fun a c x y b hx hy hac hb => ?_⟩
 ·by_cases e : j = i
  ·subst e
   exact ⟨u', List.getElem?_set_self (by rw [h.len]; exact hj), by rw [if_pos rfl]; exact hO⟩
  ·obtain ⟨x, h1, h2⟩ := h.row j hj
   refine ⟨x, by rw [List.getElem?_set_ne (fun e' => e e'.symm)]; exact h1, ?_⟩
   rw [if_neg e]
   refine own_up h2 hk fun b hb hf => ?_
   rcases hF b hf with hf | hf
   ·exact h.ap j i x u b h1 hu e hb hf
   ·exact hf j x h1 hb
 ·have hold : ∀ (j : Nat) (z : Value), us[j]? = some z -> j ≠ i -> ∀ b, z.ownBlock = some b -> u'.ownBlock ≠ some b := fun j z hz hj b hzb e => by
   rcases hat with h1 | h1
   ·rw [h1] at e; exact h.ap j i z u b hz hu hj hzb e
   ·have h2 := h1 b e
    obtain ⟨z', h3, h4⟩ := h.row j (by have := (List.getElem?_eq_some_iff.1 hz).1; rw [h.len] at this; exact this)
    rw [hz] at h3; cases h3
    have := (h4.lt b hzb).2
    omega
  by_cases ea : a = i
  ·subst ea
   rw [List.getElem?_set_self (by rw [h.len]; exact hi)] at hx
   cases hx
   rw [List.getElem?_set_ne hac] at hy
   exact fun e => hold c y hy (fun e' => hac e'.symm) b e hb
  ·rw [List.getElem?_set_ne (fun e' => ea e'.symm)] at hx
   by_cases ec : c = i
   ·subst ec
    rw [List.getElem?_set_self (by rw [h.len]; exact hi)] at hy
    cases hy
    exact hold a x hx ea b hb
   ·rw [List.getElem?_set_ne (fun e' => ec e'.symm)] at hy
    exact h.ap a c x y b hx hy hac hb
theorem OutsI.congr {w : World} {B : Nat} {us : List Value} {n : Nat} {f g : Nat -> List Int} (h : OutsI w B us n f) (hfg : ∀ i, i < n -> f i = g i) : OutsI w B us n g :=
 ⟨h.len, fun i hi => by rw [<- hfg i hi]; exact h.row i hi, h.ap⟩
theorem OutsI.kept {w w' : World} {B : Nat} {us : List Value} {n : Nat} {f : Nat -> List Int} {F : Nat -> Prop} (h : OutsI w B us n f) (hk : Kept F w w') (hF : ∀ (j : Nat) (x : Value), us[j]? = some x -> ∀ b, x.ownBlock = some b -> ¬ F b) : OutsI w' B us n f :=
 ⟨h.len, fun i hi => by obtain ⟨u, h1, h2⟩ := h.row i hi; exact ⟨u, h1, own_up h2 hk fun b hb => hF i u h1 b hb⟩, h.ap⟩
theorem OutsI.base {w : World} {B B' : Nat} {us : List Value} {n : Nat} {f : Nat -> List Int} (h : OutsI w B us n f) (hb : B' <= B) : OutsI w B' us n f :=
 ⟨h.len, fun i hi => by obtain ⟨u, h1, h2⟩ := h.row i hi; exact ⟨u, h1, row_base h2 hb⟩, h.ap⟩
end
section
open Go.RowKit Go.Maps
attribute [local go_sem ↓] Go.wp_at_zero Go.wp_at_succ
theorem Tryz.infoRSg : (Tryz.prog.info? 39).map (fun i => (i.zero, i.size, i.bytes)) = some (some (.slice none 0 0), 1, 24) := by kernel_rfl
theorem makeRSg (n : Nat) (hn : n <= 1000000) (w : World) : (Instr.makeSlice 52 (.int .i64 (n : Int)) (.int .i64 (n : Int))).run Tryz.prog w = .ok (.slice (some ⟨w.heap.size, 0, none⟩) n n) (w.alloc (.cells (madeV (.slice none 0 0) n) 39)) := make_of _ _ _ 24 Tryz.underlying52 Tryz.infoRSg n hn (by decide) w
theorem labelsS_any {B g bs bb cs cb n : Nat} {k s : Int} {es : List Sy.Ed} (w : World) (h : Gr w B g bs bb cs cb n k s es) : Calls Tryz.prog 122 #[.pointer (some ⟨g, 0, none⟩)] w fun r w' => r = .returned (.int .i64 k) /\ w' = w := by
 obtain ⟨_, c1, _, _, _, _⟩ := h.cells
 have hq := Tryz.eqG g
 clear h
 go_enter Tryz.func122, Tryz.ntmps122
 go_wp2_with fail
 go_ret
 exact ⟨rfl, rfl⟩
namespace Sg
def ends (l : List (Int × Int)) (b : Int) : List Int := (l.filter fun e => e.1 == b).map (·.2)
theorem ends_snoc (l : List (Int × Int)) (e : Int × Int) (b : Int) : ends (l ++ [e]) b = if b = e.1 then ends l b ++ [e.2] else ends l b := by
 unfold ends
 rw [List.filter_append, List.map_append]
 by_cases h : e.1 = b
 ·simp [h]
 ·have h2 : ¬ b = e.1 := fun e2 => h e2.symm
  simp [h, h2]
theorem ends_len (l : List (Int × Int)) (b : Int) : (ends l b).length <= l.length := by
 unfold ends
 rw [List.length_map]
 exact List.length_filter_le _ _
def inAll (f : Int -> List (Int × Int)) (ms : List Int) : List (Int × Int) := ms.flatMap f
theorem inAll_len {f : Int -> List (Int × Int)} {c : Nat} (h : ∀ z, (f z).length <= c) (ms : List Int) : (inAll f ms).length <= ms.length * c := by
 unfold inAll
 induction ms with
 | nil => simp
 | cons z r ih => rw [List.flatMap_cons, List.length_append, List.length_cons, Nat.succ_mul]; have := h z; omega
theorem inAll_next (f : Int -> List (Int × Int)) (ms : List Int) {i : Nat} {z : Int} (h : ms[i]? = some z) : inAll f (ms.take (i + 1)) = inAll f (ms.take i) ++ f z := by
 obtain ⟨hi, e⟩ := List.getElem?_eq_some_iff.1 h
 rw [List.take_succ_eq_append_getElem hi, e]
 unfold inAll
 simp
theorem ends_next {l ss : List (Int × Int)} {j : Nat} {e : Int × Int} (h : ss[j]? = some e) (b : Int) : ends (l ++ ss.take (j + 1)) b = if b = e.1 then ends (l ++ ss.take j) b ++ [e.2] else ends (l ++ ss.take j) b := by
 obtain ⟨hi, e2⟩ := List.getElem?_eq_some_iff.1 h
 rw [List.take_succ_eq_append_getElem hi, e2, <- List.append_assoc]
 exact ends_snoc _ _ _
end Sg
def insOf (n : Nat) (es : List Sy.Ed) (q : Int) : List (Int × Int) := Sy.rowOf n (Sy.nf ((Sy.nf es).map Sy.turn)) q
theorem insOf_len {w : World} {B g bs bb cs cb n : Nat} {k s : Int} {es : List Sy.Ed} (h : Gr w B g bs bb cs cb n k s es) (q : Int) : (insOf n es q).length <= 10000 := by
 have := h.sizes
 have := rowOf_len n (Sy.nf ((Sy.nf es).map Sy.turn)) q
 have := nf_turn_len es
 unfold insOf
 omega
theorem rows_apart {w : World} {B1 B2 s1 s2 n1 n2 : Nat} {e1 e2 : TypeId} {v1 v2 : Value} {xs1 xs2 : List Value} (h1 : w.ownsRow B1 e1 s1 v1 n1 xs1) (h2 : w.ownsRow B2 e2 s2 v2 n2 xs2) (hne : e1 ≠ e2) : ∀ b, v2.ownBlock = some b -> v1.ownBlock ≠ some b := fun b hb => by
 rcases h2.2 with ⟨rfl, _⟩ | ⟨g, cap, cur, rfl, _, hg, _⟩
 ·cases hb
 ·cases hb
  exact own_bk h1 hg hne
theorem src_kp {w w' : World} {a : Nat} {v x y : Value} (hk : Kept (fun i => v.ownBlock = some i) w w') (h1 : v.ownBlock ≠ some a) (h : w.cell? ⟨a, 0, none⟩ = some x /\ w.cell? ⟨a, 1, none⟩ = some y) : w'.cell? ⟨a, 0, none⟩ = some x /\ w'.cell? ⟨a, 1, none⟩ = some y :=
 ⟨(World.cell?_of_block (a := ⟨a, 0, none⟩) (hk.block a (World.block_lt_of_cell? w _ h.1) h1)).trans h.1, (World.cell?_of_block (a := ⟨a, 1, none⟩) (hk.block a (World.block_lt_of_cell? w _ h.2) h1)).trans h.2⟩
theorem src_st {w : World} {a b k : Nat} {x y u : Value} (h1 : a ≠ b) (h : w.cell? ⟨a, 0, none⟩ = some x /\ w.cell? ⟨a, 1, none⟩ = some y) : (w.setCell ⟨b, k, none⟩ u).cell? ⟨a, 0, none⟩ = some x /\ (w.setCell ⟨b, k, none⟩ u).cell? ⟨a, 1, none⟩ = some y :=
 ⟨(World.cell?_of_block (a := ⟨a, 0, none⟩) (set_other _ _ _ _ _ h1)).trans h.1, (World.cell?_of_block (a := ⟨a, 1, none⟩) (set_other _ _ _ _ _ h1)).trans h.2⟩
theorem src_row {l0 ss : List (Int × Int)} {j lb : Nat} {tt : Int} (hz : ss[j]? = some ((lb : Int), tt)) (l : Nat) : (if l = lb then Sg.ends (l0 ++ ss.take j) (lb : Int) ++ [tt] else Sg.ends (l0 ++ ss.take j) (l : Int)) = Sg.ends (l0 ++ ss.take (j + 1)) (l : Int) := by
 rw [Sg.ends_next hz]
 by_cases e : l = lb
 ·subst e
  rw [if_pos rfl, if_pos rfl]
 ·rw [if_neg e, if_neg (fun e2 => e (Int.ofNat_inj.1 e2))]
theorem src_grow {w w2 wr w4 : World} {n i N g4 k4 cu H : Nat} {au : Option Addr} {us : List Value} {f : Nat -> List Int} (z : Int) (hOs : OutsI wr w2.heap.size us n f) (hi : i < n) (hu : us[i]? = some (.slice au N cu)) (hN : N = (f i).length) (hown : w4.ownsRow w2.heap.size 3 1 (.slice (some ⟨g4, 0, none⟩) (N + 1) k4) (N + 1) (iC (f i) ++ [.int .i64 z])) (hk : Kept (fun b => (Value.slice au N cu).ownBlock = some b) wr w4) (hat : (Value.slice au N cu).ownBlock = some g4 \/ g4 = H) (hH : wr.heap.size <= H) (hA4 : Arr 39 w w4 w.heap.size us) (hlt : w.heap.size < w2.heap.size) (hW : Kept (fun b => b = w.heap.size) w2 wr) :
 Arr 39 w (w4.setCell ⟨w.heap.size, i, none⟩ (.slice (some ⟨g4, 0, none⟩) (N + 1) k4)) w.heap.size (us.set i (.slice (some ⟨g4, 0, none⟩) (N + 1) k4)) /\ OutsI (w4.setCell ⟨w.heap.size, i, none⟩ (.slice (some ⟨g4, 0, none⟩) (N + 1) k4)) w2.heap.size (us.set i (.slice (some ⟨g4, 0, none⟩) (N + 1) k4)) n (fun j => if j = i then f i ++ [z] else f j) /\ Kept (fun b => b = w.heap.size) w2 (w4.setCell ⟨w.heap.size, i, none⟩ (.slice (some ⟨g4, 0, none⟩) (N + 1) k4)) /\ Kept (fun b => b = w.heap.size \/ (Value.slice au N cu).ownBlock = some b) wr (w4.setCell ⟨w.heap.size, i, none⟩ (.slice (some ⟨g4, 0, none⟩) (N + 1) k4)) := by
 have hO : OwnI w4 w2.heap.size (.slice (some ⟨g4, 0, none⟩) (N + 1) k4) (f i ++ [z]) := by
  unfold OwnI
  have e1 : (f i ++ [z]).length = N + 1 := by rw [List.length_append, hN]; rfl
  rw [e1, show iC (f i ++ [z]) = iC (f i) ++ [.int .i64 z] by simp [iC]]
  exact hown
 have h1 := hOs.set (F := fun b => (Value.slice au N cu).ownBlock = some b) hi hu hk (fun b hb => .inl hb) hO (by
  rcases hat with h | h
  ·exact .inl h.symm
  ·exact .inr fun b hb => by have e9 : g4 = b := Option.some.inj hb; omega)
 have hk2 : Kept (fun b => b = w.heap.size \/ (Value.slice au N cu).ownBlock = some b) wr (w4.setCell ⟨w.heap.size, i, none⟩ (.slice (some ⟨g4, 0, none⟩) (N + 1) k4)) := (hk.mono fun b _ hb => .inr hb).trans ((Kept.setCell w4 w.heap.size i _).mono fun b _ hb => .inl hb)
 refine ⟨hA4.set i _, ?_, ?_, hk2⟩
 ·refine h1.kept (Kept.setCell w4 w.heap.size i _) fun j x hx b hb (e : b = w.heap.size) => ?_
  obtain ⟨x', h2, h3⟩ := h1.row j (by have := (List.getElem?_eq_some_iff.1 hx).1; rw [h1.len] at this; exact this)
  rw [hx] at h2; cases h2
  have := (h3.lt b hb).1
  omega
 ·obtain ⟨uo, hu1, hu2⟩ := hOs.row i hi
  rw [hu] at hu1; cases hu1
  refine hW.trans2 hk2 fun b hb => ?_
  rcases hb with hb | hb
  ·exact .inl hb
  ·exact .inr (hu2.lt b hb).1
set_option linter.unusedSimpArgs false in
set_option maxRecDepth 100000 in
set_option maxHeartbeats 4000000 in
theorem sources_any (w0 : World) (B r g p mb : Nat) (x : Rv) (c : Nat -> Int) (s : Pst) (bl : Nat) (bs bb cs cb n kk : Nat) (st : Int) (es : List Sy.Ed) (B2 : Nat) (w : World) (hM : RnM w B r g p mb x) (hP : Pt w0 w p c) (hL : Lay c s) (hO : s.Ok) (hb : bl < s.nb) (hG : Gr w B2 g bs bb cs cb n (kk : Int) st es) (hlab : ∀ q, ∀ e ∈ insOf n es q, 0 <= e.1 /\ e.1 < (kk : Int)) :
 Calls Tryz.prog 93 #[.pointer (some ⟨r, 0, none⟩), .int .i64 bl] w fun e w' => ∃ g' us, e = .returned (.slice (some ⟨g', 0, none⟩) kk kk) /\ Arr 39 w w' g' us /\ OutsI w' w.heap.size us kk (fun l => Sg.ends (Sg.inAll (insOf n es) (s.mem bl)) (l : Int)) := by
 obtain ⟨i0, hi0, hz0, hz1, hz2⟩ := info_parts Tryz.infoI3
 have hkk : kk <= 201 := by have := (right_parts hG.right).2.1.2; omega
 have hml0 : (s.mem bl).length <= 1000 := by rw [mem_len hO hb]; have := hO.iv bl hb; have := hO.n1; omega
 have hLb := labelsS_any w hG
 have hmk := makeRSg kk (by omega) w
 obtain ⟨w1, hw1⟩ : ∃ w1, w1 = w.alloc (.cells (madeV (.slice none 0 0) kk) 39) := ⟨_, rfl⟩
 have hA0 : Arr 39 w w1 w.heap.size (List.replicate kk (.slice none 0 0)) := by rw [hw1]; exact arr_new 39 (.slice none 0 0) rfl kk w
 rw [<- hw1] at hmk
 have hMem := rmembers_any w0 B r g p mb x c s bl w1 (hM.below hA0.bl) (hP.below hA0.bl) hL hO hb
 have hIn := fun (q : Int) W (hb : Below w.heap.size w W) => in_any q W (hG.below hb)
 have hil := fun q => insOf_len hG q
 obtain ⟨ms, hms⟩ : ∃ ms, ms = s.mem bl := ⟨_, rfl⟩
 rw [<- hms] at hMem hml0 ⊢
 obtain ⟨ins, hins⟩ : ∃ ins, ins = insOf n es := ⟨_, rfl⟩
 have hIn' : ∀ (q : Int) W, Below w.heap.size w W -> Calls Tryz.prog 123 #[.pointer (some ⟨g, 0, none⟩), .int .i64 q] W fun r w' => ∃ u, r = .returned u /\ BSteps.Own w' W.heap.size u (ins q) /\ Below W.heap.size W w' := by rw [hins]; exact hIn
 rw [<- hins] at hlab hil ⊢
 have hbox := hM.box
 obtain ⟨c0, _⟩ := seven_cells hbox
 have H1 : Hid _ := And.intro hbox (And.intro hA0 (And.intro hMem (And.intro hIn' (And.intro hil (And.intro hlab (And.intro hLb trivial))))))
 clear hM hP hL hO hb hG hbox hA0 hMem hIn hIn' hil hlab hins hms hLb hw1
 go_enter Tryz.func93, Tryz.ntmps93
 go_upto_region 2 with (go_at_call 122; refine Calls.mono H1.out.2.2.2.2.2.2.1 ?_; rintro r1 w9 ⟨rfl, hw9⟩; obtain rfl := hw9.symm; clear hw9)
 go_wp2_with (go_at_call 67; go_loud (refine Calls.mono H1.out.2.2.1 ?_; rintro r2 w2 ⟨u, rfl, hu, hb2⟩; have hs1 : w.heap.size < w1.heap.size := H1.out.2.1.lt; have hum : ∀ W, Kept (fun b => b = w.heap.size) w2 W -> HasI W u ms := (fun W hk => OwnI.has (B := w1.heap.size) (own_up hu hk (fun b hb (e : b = w.heap.size) => by have := (hu.lt b hb).1; omega))); obtain ⟨ua, uc, rfl⟩ := row_shape hu; obtain ⟨L, hL⟩ : ∃ L, L = ms.length := ⟨_, rfl⟩; rw [<- hL] at hum; rw [<- hL]; have H2 : Hid _ := And.intro hum (And.intro hb2 (And.intro hL (And.intro (H1.out.2.1.below hb2) (by have := hb2.size; omega : w.heap.size < w2.heap.size)))); clear hum hb2 hL hu hs1))
 go_loopg [20] L (fun z iv wr => ∃ (i : Nat) (us : List Value), z = L - i /\ i <= L /\ iv = .int .i64 i /\ Arr 39 w wr w.heap.size us /\ OutsI wr w2.heap.size us kk (fun l => Sg.ends (Sg.inAll ins (ms.take i)) (l : Int)) /\ Kept (fun b => b = w.heap.size) w2 wr)
 case atStart => exact ⟨0, _, rfl, Nat.zero_le _, rfl, H2.out.2.2.2.1, (outsI_new _ _ _).congr fun i _ => rfl, Kept.refl _ _⟩
 case round =>
  obtain ⟨i, us, rfl, hi, rfl, hA, hOs, hKp⟩ := hrel
  have hLl : L <= 1000 := by rw [H2.out.2.2.1]; exact hml0
  clear c0
  obtain ⟨c0, _⟩ := seven_cells ((hA.bl.block r (t_lt H1.out.1)).trans H1.out.1)
  by_cases hlt : i < L
  ·have p1 : (i : Int) < (L : Int) := by omega
   have p0 : (0 : Int) <= (i : Int) := by omega
   obtain ⟨q, hq⟩ : ∃ q, ms[i]? = some q := ⟨ms[i]'(by have := H2.out.2.2.1; omega), List.getElem?_eq_getElem _⟩
   obtain ⟨ao9, cap9, he9, hc9⟩ := H2.out.1 wr hKp
   obtain ⟨a9, ha9, d0⟩ := hc9 i q hq
   injection he9 with e1 e2 e3
   subst e3
   rw [ha9] at e1
   have HI := H1.out.2.2.2.1 q wr hA.bl
   have HA : Hid _ := And.intro hA (And.intro hOs (And.intro hKp (And.intro hq HI)))
   clear hA hOs hKp hq HI hc9 ha9 e2
   subst e1
   obtain ⟨wp, hwp⟩ : ∃ wp, wp = wr := ⟨_, rfl⟩
   rw [<- hwp] at HA c0 d0 ⊢
   clear hwp
   go_wp2_with (go_at_call 123; refine Calls.mono HA.out.2.2.2.2 ?_; rintro r3 w3 ⟨v3, rfl, hO3, hb3⟩; obtain ⟨a3, k3, hv3⟩ := row_shape hO3; obtain ⟨M, hMl⟩ : ∃ M, M = (ins q).length := ⟨_, rfl⟩; rw [<- hMl] at hv3; subst hv3; have H3 : Hid _ := And.intro hO3 (And.intro hb3 (And.intro hMl (And.intro (HA.out.1.below hb3) (And.intro (HA.out.2.1.below hb3) (HA.out.2.2.1.trans (Kept.of_below hb3)))))); clear hO3 hb3 hMl)
   go_loopg [31] M (fun z jv wr => ∃ (j : Nat) (us : List Value), z = M - j /\ j <= M /\ jv = .int .i64 j /\ Arr 39 w wr w.heap.size us /\ OutsI wr w2.heap.size us kk (fun l => Sg.ends (Sg.inAll ins (ms.take i) ++ (ins q).take j) (l : Int)) /\ Kept (fun b => b = w.heap.size) w2 wr /\ BSteps.Own wr wp.heap.size (.slice a3 M k3) (ins q))
   case atStart => exact ⟨0, us, rfl, Nat.zero_le _, rfl, H3.out.2.2.2.1, H3.out.2.2.2.2.1.congr fun l _ => by rw [List.take_zero, List.append_nil], H3.out.2.2.2.2.2, H3.out.1⟩
   case round =>
    obtain ⟨j, us, rfl, hj, rfl, hA, hOs, hKp, hOi⟩ := hrel
    have hMl : M <= 10000 := by rw [H3.out.2.2.1]; exact H1.out.2.2.2.2.1 q
    clear c0
    obtain ⟨c0, _⟩ := seven_cells ((hA.bl.block r (t_lt H1.out.1)).trans H1.out.1)
    by_cases hjm : j < M
    ·have p2 : (j : Int) < (M : Int) := by omega
     have p3 : (0 : Int) <= (j : Int) := by omega
     obtain ⟨⟨lab, tt⟩, hz⟩ : ∃ e, (ins q)[j]? = some e := ⟨(ins q)[j]'(by have := H3.out.2.2.1; omega), List.getElem?_eq_getElem _⟩
     obtain ⟨a4, hae, f0, f1⟩ := step_at hOi.has hz
     have hlb := H1.out.2.2.2.2.2.1 q _ (List.mem_of_getElem? hz)
     simp only at f0 f1 hlb
     obtain ⟨lb, rfl⟩ : ∃ lb : Nat, lab = lb := ⟨lab.toNat, by omega⟩
     have HB : Hid _ := And.intro hA (And.intro hOs (And.intro hKp (And.intro hOi (And.intro hz hae))))
     obtain ⟨p4, p5⟩ := hlb
     clear hA hOs hKp hOi hz
     subst hae
     obtain ⟨ls, hls⟩ : ∃ ls, ls = Sg.ends (Sg.inAll ins (ms.take i) ++ (ins q).take j) (lb : Int) := ⟨_, rfl⟩
     obtain ⟨uu, hu, hOu⟩ := HB.out.2.1.row lb (by omega)
     obtain ⟨au, cu, rfl⟩ := row_shape hOu
     (try simp only at hu hOu)
     rw [<- hls] at hu hOu
     obtain ⟨N, hN⟩ : ∃ N, N = ls.length := ⟨_, rfl⟩
     have hNl : N <= 20000000 := by
      have h1 := Sg.ends_len (Sg.inAll ins (ms.take i) ++ (ins q).take j) (lb : Int)
      have h2 := Sg.inAll_len H1.out.2.2.2.2.1 (ms.take i)
      have h3 := H1.out.2.2.2.2.1 q
      rw [<- hls, <- hN, List.length_append, List.length_take] at h1
      rw [List.length_take] at h2
      omega
     rw [<- hN] at hu
     have hOu' : wr.ownsRow w2.heap.size 3 1 (.slice au N cu) N (iC ls) := by have h1 := hOu; unfold OwnI at h1; rw [<- hN] at h1; exact h1
     obtain ⟨w5, hw5⟩ : ∃ w5, w5 = wr.alloc (.cells #[.int .i64 lb, .int .i64 tt] 111) := ⟨_, rfl⟩
     have hb5 : Below wr.heap.size wr w5 := by rw [hw5]; exact (Below.refl _ _).alloc (Nat.le_refl _) _
     have hx5 : w5.heap[wr.heap.size]? = some (.cells #[.int .i64 lb, .int .i64 tt] 111 (0, 0)) := by rw [hw5]; exact heap_alloc_new wr _
     have s0 : w5.cell? ⟨wr.heap.size, 0, none⟩ = some (.int .i64 lb) := cell0_of hx5 rfl
     have s1 : w5.cell? ⟨wr.heap.size, 1, none⟩ = some (.int .i64 tt) := cell0_of hx5 rfl
     have cu0 := (HB.out.1.below hb5).cell hu
     have hb6 : Below w5.heap.size w5 (w5.alloc (.cells #[.int .i64 tt] 3)) := (Below.refl _ _).alloc (Nat.le_refl _) _
     have cu1 := sg_cell cu0 hb6
     obtain ⟨W6, hW6⟩ : ∃ W6, W6 = (w5.alloc (.cells #[.int .i64 tt] 3)).drew := ⟨_, rfl⟩
     have hb56 : Below w5.heap.size w5 W6 := by rw [hW6]; exact hb6.drew
     have hs6 : W6.heap.size = w5.heap.size + 1 := by rw [hW6]; simp
     have hn6 : W6.heap[w5.heap.size]? = some (.cells #[.int .i64 tt] 3 (0, 0)) := by rw [hW6]; exact heap_alloc_new w5 _
     have hbr6 := sg_bel hb56 hb5
     have hO6 := own_up (F := fun _ => False) hOu' (Kept.of_below hbr6) (fun _ _ h => h)
     have hrows : ∀ b, (Value.slice au N cu).ownBlock = some b -> w2.heap.size <= b /\ b < wr.heap.size := fun b e => hOu'.lt b e
     have hle6 : w2.heap.size <= W6.heap.size := by have := HB.out.2.2.1.size; have := hbr6.size; omega
     have hgw : w.heap.size < wr.heap.size := HB.out.1.lt
     have hml : N + 1 <= maxLen := by unfold maxLen; omega
     have hby : (N + 1) * 8 <= 140737488355328 := by omega
     have HW : Hid _ := And.intro hW6 (And.intro hbr6 (And.intro hs6 (And.intro hn6 (And.intro hO6 (And.intro hrows (And.intro hle6 (And.intro hgw (And.intro (And.intro s0 s1) (And.intro hb56 (And.intro hu (And.intro hN (And.intro hls (And.intro hOu' (And.intro hw5 hb5))))))))))))))
     clear hw5 hb5 hx5 hb6 hb56 hs6 hn6 hbr6 hO6 hrows hle6 hgw hW6 hu hN hls hOu hOu'
     go_upto_region 8 with fail
     rw [<- HW.out.2.2.2.2.2.2.2.2.2.2.2.2.2.2.1]
     refine wp_region_held_drew (S := (fun w' => w'.cell? ⟨wr.heap.size, 0, none⟩ = some (.int .i64 lb) /\ w'.cell? ⟨wr.heap.size, 1, none⟩ = some (.int .i64 tt))) (by kernel_rfl) ?_ (fun hHeld => ?_)
     ·exact ⟨s0, s1⟩
     refine tk8 0 rfl ?_; (try simp only [ty9, Act.put])
     refine tk8 1 rfl ?_; (try simp only [ty9, Act.put])
     refine tk8 2 rfl ?_; (try simp only [ty9, Act.put])
     refine tk8 3 rfl ?_; (try simp only [ty9, Act.put])
     refine tk8 4 rfl ?_; (try simp only [ty9, Act.put])
     refine tk8 5 rfl ?_; (try simp only [ty9, Act.put])
     refine tk8 6 rfl ?_; (try simp only [ty9, Act.put])
     refine tk8 8 rfl ?_; (try simp only [ty9, Act.put])
     refine tk8 9 rfl ?_; (try simp only [ty9, Act.put])
     refine wpAnyH_ready (rs := [7, 10]) (by kernel_rfl) (by simp) ?_
     refine AllReadyH.cons (o := _) rfl (fun K hK => ?_) ?_
     ·(go_simp)
      (try go_wp2_with fail)
      refine hK.out _ _ ?_ (fun hHeld => ?_)
      ·exact hHeld
      clear hK K
      (try simp only [ty9, Act.put])
      refine wpAnyH_ready (rs := [10]) (by kernel_rfl) (by simp) ?_
      refine AllReadyH.cons (o := _) rfl (fun K hK => ?_) ?_
      ·(go_simp)
       (try go_wp2_with fail)
       refine hK.out _ _ ?_ (fun hHeld => ?_)
       ·(have h9 := And.intro (sg_cell HW.out.2.2.2.2.2.2.2.2.1.1 HW.out.2.2.2.2.2.2.2.2.2.1) (sg_cell HW.out.2.2.2.2.2.2.2.2.1.2 HW.out.2.2.2.2.2.2.2.2.2.1); rw [HW.out.1] at h9; exact h9)
       clear hK K
       (try simp only [ty9, Act.put])
       refine wpAnyH_ready (rs := [11]) (by kernel_rfl) (by simp) ?_
       refine AllReadyH.cons (o := _) rfl (fun K hK => ?_) ?_
       ·(rw [<- HW.out.1]; refine step_append_lies _ (by rfl) _ _ _ (by rfl) w2.heap.size 3 i0 _ 1 8 Tryz.underlying39 hi0 hz0 hz1 hz2 rfl (by decide) (.slice au N cu) N (iC ls) (by rfl) HW.out.2.2.2.2.1 ⟨w5.heap.size, 0, none⟩ 1 1 [.int .i64 tt] (by rfl) (by rfl) (World.news_of_block HW.out.2.2.2.1) (by simp [Value.oneCell']) Nat.one_pos hml hby HW.out.2.2.2.2.2.2.1 (w5.heap.size + 1) HW.out.2.2.1 ?_; intro g4 k4 w4 hown4 hgrow4 hat4 hlt4; have hk4 := Kept.of_grown hgrow4; have hk5 : Kept (fun b => (Value.slice au N cu).ownBlock = some b) wr w4 := (Kept.of_below HW.out.2.1).trans hk4; have hA4 := HB.out.1.kept hk5 (fun b e => by have h9 := (HW.out.2.2.2.2.2.1 b e).1; have := H2.out.2.2.2.2; exact ⟨by omega, by omega⟩); have cu2 := hA4.cell HW.out.2.2.2.2.2.2.2.2.2.2.1; have cuf2 := hA4.free lb; have H4 : Hid _ := And.intro hown4 (And.intro hk5 (And.intro hat4 (And.intro hA4 hk4))); clear hown4 hgrow4 hat4 hlt4 hk4 hk5 hA4)
        (try go_wp2_with fail)
        refine hK.out _ _ ?_ (fun hHeld => ?_)
        ·exact src_kp H4.out.2.2.2.2 (fun e => by have h9 := (HW.out.2.2.2.2.2.1 _ e).2; omega) (And.intro (sg_cell HW.out.2.2.2.2.2.2.2.2.1.1 HW.out.2.2.2.2.2.2.2.2.2.1) (sg_cell HW.out.2.2.2.2.2.2.2.2.1.2 HW.out.2.2.2.2.2.2.2.2.2.1))
        clear hK K
        (try simp only [ty9, Act.put])
        refine tk8 12 rfl ?_; (try simp only [ty9, Act.put])
        refine wpAnyH_ready (rs := [13]) (by kernel_rfl) (by simp) ?_
        refine AllReadyH.cons (o := _) rfl (fun K hK => ?_) ?_
        ·(go_simp)
         (try go_wp2_with fail)
         refine hK.out _ _ ?_ (fun hHeld => ?_)
         ·exact src_st (by have := HW.out.2.2.2.2.2.2.2.1; omega) hHeld
         clear hK K
         (try simp only [ty9, Act.put])
         refine wpAnyH_done (by kernel_rfl) ?_ _
         (try go_simp)
         have hG := src_grow (w := w) (f := fun l => Sg.ends (Sg.inAll ins (ms.take i) ++ (ins q).take j) (l : Int)) tt HB.out.2.1 (by omega) HW.out.2.2.2.2.2.2.2.2.2.2.1 (by rw [HW.out.2.2.2.2.2.2.2.2.2.2.2.1, HW.out.2.2.2.2.2.2.2.2.2.2.2.2.1]) (by rw [<- HW.out.2.2.2.2.2.2.2.2.2.2.2.2.1]; exact H4.out.1) H4.out.2.1 H4.out.2.2.1 (by have := HW.out.2.2.2.2.2.2.2.2.2.2.2.2.2.2.2.size; omega) H4.out.2.2.2.1 H2.out.2.2.2.2 HB.out.2.2.1
         have hOi2 := own_up HB.out.2.2.2.1 hG.2.2.2 (fun b hb e => by
          rcases e with e | e
          ·have h9 := (HB.out.2.2.2.1.lt b hb).1; have := HA.out.1.lt; omega
          ·exact rows_apart HW.out.2.2.2.2.2.2.2.2.2.2.2.2.2.1 HB.out.2.2.2.1 (by decide) b hb e)
         have HG : Hid _ := And.intro hG hOi2
         clear hG hOi2 cu2 cuf2 hHeld
         go_wp2_with fail
         go_roundg (M - (j + 1))
         case measure => omega
         case rel => exact ⟨j + 1, _, rfl, by omega, by go_num, HG.out.1.1, HG.out.1.2.1.congr fun l _ => src_row HB.out.2.2.2.2.1 l, HG.out.1.2.2.1, HG.out.2⟩
        exact AllReadyH.nil
       exact AllReadyH.nil
      exact AllReadyH.nil
     refine AllReadyH.cons (o := _) rfl (fun K hK => ?_) ?_
     ·(go_simp)
      (try go_wp2_with fail)
      refine hK.out _ _ ?_ (fun hHeld => ?_)
      ·(have h9 := And.intro (sg_cell HW.out.2.2.2.2.2.2.2.2.1.1 HW.out.2.2.2.2.2.2.2.2.2.1) (sg_cell HW.out.2.2.2.2.2.2.2.2.1.2 HW.out.2.2.2.2.2.2.2.2.2.1); rw [HW.out.1] at h9; exact h9)
      clear hK K
      (try simp only [ty9, Act.put])
      refine wpAnyH_ready (rs := [7]) (by kernel_rfl) (by simp) ?_
      refine AllReadyH.cons (o := _) rfl (fun K hK => ?_) ?_
      ·(go_simp)
       (try go_wp2_with fail)
       refine hK.out _ _ ?_ (fun hHeld => ?_)
       ·exact hHeld
       clear hK K
       (try simp only [ty9, Act.put])
       refine wpAnyH_ready (rs := [11]) (by kernel_rfl) (by simp) ?_
       refine AllReadyH.cons (o := _) rfl (fun K hK => ?_) ?_
       ·(rw [<- HW.out.1]; refine step_append_lies _ (by rfl) _ _ _ (by rfl) w2.heap.size 3 i0 _ 1 8 Tryz.underlying39 hi0 hz0 hz1 hz2 rfl (by decide) (.slice au N cu) N (iC ls) (by rfl) HW.out.2.2.2.2.1 ⟨w5.heap.size, 0, none⟩ 1 1 [.int .i64 tt] (by rfl) (by rfl) (World.news_of_block HW.out.2.2.2.1) (by simp [Value.oneCell']) Nat.one_pos hml hby HW.out.2.2.2.2.2.2.1 (w5.heap.size + 1) HW.out.2.2.1 ?_; intro g4 k4 w4 hown4 hgrow4 hat4 hlt4; have hk4 := Kept.of_grown hgrow4; have hk5 : Kept (fun b => (Value.slice au N cu).ownBlock = some b) wr w4 := (Kept.of_below HW.out.2.1).trans hk4; have hA4 := HB.out.1.kept hk5 (fun b e => by have h9 := (HW.out.2.2.2.2.2.1 b e).1; have := H2.out.2.2.2.2; exact ⟨by omega, by omega⟩); have cu2 := hA4.cell HW.out.2.2.2.2.2.2.2.2.2.2.1; have cuf2 := hA4.free lb; have H4 : Hid _ := And.intro hown4 (And.intro hk5 (And.intro hat4 (And.intro hA4 hk4))); clear hown4 hgrow4 hat4 hlt4 hk4 hk5 hA4)
        (try go_wp2_with fail)
        refine hK.out _ _ ?_ (fun hHeld => ?_)
        ·exact src_kp H4.out.2.2.2.2 (fun e => by have h9 := (HW.out.2.2.2.2.2.1 _ e).2; omega) (And.intro (sg_cell HW.out.2.2.2.2.2.2.2.2.1.1 HW.out.2.2.2.2.2.2.2.2.2.1) (sg_cell HW.out.2.2.2.2.2.2.2.2.1.2 HW.out.2.2.2.2.2.2.2.2.2.1))
        clear hK K
        (try simp only [ty9, Act.put])
        refine tk8 12 rfl ?_; (try simp only [ty9, Act.put])
        refine wpAnyH_ready (rs := [13]) (by kernel_rfl) (by simp) ?_
        refine AllReadyH.cons (o := _) rfl (fun K hK => ?_) ?_
        ·(go_simp)
         (try go_wp2_with fail)
         refine hK.out _ _ ?_ (fun hHeld => ?_)
         ·exact src_st (by have := HW.out.2.2.2.2.2.2.2.1; omega) hHeld
         clear hK K
         (try simp only [ty9, Act.put])
         refine wpAnyH_done (by kernel_rfl) ?_ _
         (try go_simp)
         have hG := src_grow (w := w) (f := fun l => Sg.ends (Sg.inAll ins (ms.take i) ++ (ins q).take j) (l : Int)) tt HB.out.2.1 (by omega) HW.out.2.2.2.2.2.2.2.2.2.2.1 (by rw [HW.out.2.2.2.2.2.2.2.2.2.2.2.1, HW.out.2.2.2.2.2.2.2.2.2.2.2.2.1]) (by rw [<- HW.out.2.2.2.2.2.2.2.2.2.2.2.2.1]; exact H4.out.1) H4.out.2.1 H4.out.2.2.1 (by have := HW.out.2.2.2.2.2.2.2.2.2.2.2.2.2.2.2.size; omega) H4.out.2.2.2.1 H2.out.2.2.2.2 HB.out.2.2.1
         have hOi2 := own_up HB.out.2.2.2.1 hG.2.2.2 (fun b hb e => by
          rcases e with e | e
          ·have h9 := (HB.out.2.2.2.1.lt b hb).1; have := HA.out.1.lt; omega
          ·exact rows_apart HW.out.2.2.2.2.2.2.2.2.2.2.2.2.2.1 HB.out.2.2.2.1 (by decide) b hb e)
         have HG : Hid _ := And.intro hG hOi2
         clear hG hOi2 cu2 cuf2 hHeld
         go_wp2_with fail
         go_roundg (M - (j + 1))
         case measure => omega
         case rel => exact ⟨j + 1, _, rfl, by omega, by go_num, HG.out.1.1, HG.out.1.2.1.congr fun l _ => src_row HB.out.2.2.2.2.1 l, HG.out.1.2.2.1, HG.out.2⟩
        exact AllReadyH.nil
       exact AllReadyH.nil
      exact AllReadyH.nil
     exact AllReadyH.nil
    ·obtain rfl : j = M := by omega
     have p2 : ¬ (j : Int) < (j : Int) := by omega
     have HB : Hid _ := And.intro hA (And.intro hOs hKp)
     clear hA hOs hKp hOi
     go_wp2_with fail
     go_roundg (L - (i + 1))
     case measure => omega
     case rel => exact ⟨i + 1, us, rfl, by omega, by go_num, HB.out.1, HB.out.2.1.congr fun l _ => by rw [Sg.inAll_next ins ms HA.out.2.2.2.1, H3.out.2.2.1, List.take_length], HB.out.2.2⟩
  ·obtain rfl : i = L := by omega
   have p1 : ¬ (i : Int) < (i : Int) := by omega
   have HA : Hid _ := And.intro hA hOs
   clear hA hOs hKp
   go_wp2_with fail
   go_ret
   refine ⟨_, rfl, us, HA.out.1, ?_⟩
   exact (HA.out.2.congr fun l _ => by rw [H2.out.2.2.1, List.take_length]).base (Nat.le_of_lt H2.out.2.2.2.2)
end
section
theorem Sy.Str.nodup {l : List Sy.Ed} (h : Sy.Str l) : l.Nodup := by
 induction l with
 | nil => exact List.nodup_nil
 | cons a r ih =>
   refine List.nodup_cons.2 ⟨fun hm => ?_, ih h.tail⟩
   have h1 := h.head a hm
   rw [Sy.lt_iff] at h1
   omega
namespace Sg
def cn (T : List Sy.Ed) (X : Int -> Bool) (p b : Int) : Nat := T.countP fun e => X e.1 && (e.2.1 == b && e.2.2 == p)
theorem cn_congr {T : List Sy.Ed} {X Y : Int -> Bool} (h : ∀ e ∈ T, X e.1 = Y e.1) (p b : Int) : cn T X p b = cn T Y p b := by
 unfold cn
 exact List.countP_congr fun e he => by rw [h e he]
theorem cn_add {T : List Sy.Ed} {X Y Z : Int -> Bool} (h : ∀ e ∈ T, X e.1 = (Y e.1 || Z e.1) /\ (Y e.1 && Z e.1) = false) (p b : Int) : cn T X p b = cn T Y p b + cn T Z p b := by
 unfold cn
 induction T with
 | nil => rfl
 | cons e r ih =>
   obtain ⟨h1, h3⟩ := h e List.mem_cons_self
   have h2 := ih fun e he => h e (List.mem_cons_of_mem _ he)
   simp only [List.countP_cons]
   rw [h2, h1]
   cases hy : Y e.1 <;> cases hz : Z e.1 <;> cases hw : (e.2.1 == b && e.2.2 == p) <;> simp_all <;> omega
theorem cn_zero {T : List Sy.Ed} {X : Int -> Bool} (h : ∀ e ∈ T, X e.1 = false) (p b : Int) : cn T X p b = 0 := by
 unfold cn
 rw [List.countP_eq_zero]
 intro e he
 simp [h e he]
theorem cn_pos {T : List Sy.Ed} {X : Int -> Bool} {p b : Int} : 0 < cn T X p b ↔ ∃ e ∈ T, X e.1 = true /\ e.2.1 = b /\ e.2.2 = p := by
 unfold cn
 rw [List.countP_pos_iff]
 simp only [Bool.and_eq_true, beq_iff_eq]
theorem cn_le (T : List Sy.Ed) (X : Int -> Bool) (p b : Int) : cn T X p b <= T.length := List.countP_le_length
theorem ends_append (l m : List (Int × Int)) (b : Int) : ends (l ++ m) b = ends l b ++ ends m b := by simp [ends]
theorem count_steps (T : List Sy.Ed) (n : Nat) {q : Int} (hq : 0 <= q /\ q < (n : Int)) (p b : Int) : (ends (Sy.rowOf n T q) b).count p = cn T (fun t => t == q) p b := by
 unfold Sy.rowOf
 rw [if_pos hq]
 unfold Sy.steps ends cn
 induction T with
 | nil => rfl
 | cons e r ih =>
   rw [List.countP_cons, <- ih, List.filter_cons]
   cases h1 : (e.1 == q) with
   | false => simp [h1]
   | true =>
     simp only [if_true, List.map_cons, List.filter_cons]
     cases h2 : (e.2.1 == b) with
     | false => simp
     | true =>
       simp only [if_true, List.map_cons, List.count_cons]
       cases h3 : (e.2.2 == p) <;> simp [h1]
theorem count_ends {T : List Sy.Ed} {n : Nat} {ms : List Int} (hn : ∀ q ∈ ms, 0 <= q /\ q < (n : Int)) (hd : ms.Nodup) (p b : Int) : (ends (inAll (Sy.rowOf n T) ms) b).count p = cn T (fun t => decide (t ∈ ms)) p b := by
 induction ms with
 | nil => rw [cn_zero (fun e _ => by simp)]; rfl
 | cons q r ih =>
   obtain ⟨h1, h2⟩ := List.nodup_cons.1 hd
   have h3 : inAll (Sy.rowOf n T) (q :: r) = Sy.rowOf n T q ++ inAll (Sy.rowOf n T) r := by unfold inAll; rw [List.flatMap_cons]
   rw [h3, ends_append, List.count_append, count_steps T n (hn q List.mem_cons_self), ih (fun q hq => hn q (List.mem_cons_of_mem _ hq)) h2]
   refine (cn_add (fun e _ => ⟨?_, ?_⟩) p b).symm
   ·by_cases e1 : e.1 = q <;> simp [e1]
   ·by_cases e1 : e.1 = q
    ·simp [e1, h1]
    ·simp [e1]
theorem steps_len (T : List Sy.Ed) (n : Nat) (q : Int) : (Sy.rowOf n T q).length <= T.countP (fun e => e.1 == q) := by
 unfold Sy.rowOf
 split
 ·unfold Sy.steps
  rw [List.length_map, List.countP_eq_length_filter]
  exact Nat.le_refl _
 ·exact Nat.zero_le _
theorem inAll_le {T : List Sy.Ed} {n : Nat} {ms : List Int} (hd : ms.Nodup) : (inAll (Sy.rowOf n T) ms).length <= T.length := by
 refine Nat.le_trans (?_ : _ <= T.countP (fun e => decide (e.1 ∈ ms))) List.countP_le_length
 induction ms with
 | nil => exact Nat.zero_le _
 | cons q r ih =>
   obtain ⟨h1, h2⟩ := List.nodup_cons.1 hd
   have h3 : inAll (Sy.rowOf n T) (q :: r) = Sy.rowOf n T q ++ inAll (Sy.rowOf n T) r := by unfold inAll; rw [List.flatMap_cons]
   rw [h3, List.length_append]
   have h4 := steps_len T n q
   have h5 := ih h2
   have h6 : T.countP (fun e => decide (e.1 ∈ q :: r)) = T.countP (fun e => e.1 == q) + T.countP (fun e => decide (e.1 ∈ r)) := by
    clear h3 h4 h5 ih
    induction T with
    | nil => rfl
    | cons e t ih =>
      simp only [List.countP_cons]
      rw [ih]
      by_cases e1 : e.1 = q
      ·simp [e1, h1]; omega
      ·by_cases e2 : e.1 ∈ r <;> simp [e1, e2] <;> omega
   omega
def tn (es : List Sy.Ed) : List Sy.Ed := Sy.nf ((Sy.nf es).map Sy.turn)
theorem tn_mem {es : List Sy.Ed} {e : Sy.Ed} : e ∈ tn es ↔ Sy.turn e ∈ Sy.nf es := by
 unfold tn
 rw [Sy.nf_mem, List.mem_map]
 constructor
 ·rintro ⟨a, ha, rfl⟩; rw [turn_turn]; exact ha
 ·intro h; exact ⟨_, h, turn_turn e⟩
theorem tn_perm (es : List Sy.Ed) : (tn es).Perm ((Sy.nf es).map Sy.turn) := by
 refine (List.perm_ext_iff_of_nodup (Sy.nf_str _).nodup ?_).2 fun a => ?_
 ·refine List.pairwise_map.2 ((Sy.nf_str es).nodup.imp fun {a b} hne h => hne ?_)
  rw [<- turn_turn a, h, turn_turn]
 ·exact Sy.nf_mem _ _
theorem cn_all (es : List Sy.Ed) (p b : Int) : cn (tn es) (fun _ => true) p b = (Sy.nf es).countP fun e => e.2.1 == b && e.1 == p := by
 unfold cn
 rw [(tn_perm es).countP_eq, List.countP_map]
 rfl
def cf (T : List Sy.Ed) (H : Nat -> Int) (p b h : Int) : Int := (cn T (fun t => H t.toNat == h) p b : Int)
def withC (f : Int -> Int -> Int -> Int) (rest own : Int) (G : Int -> List Int) : Int -> Int -> Int -> Int := fun p b h => if h = rest then f p b h - (G b).count p else if h = own then f p b h + (G b).count p else f p b h
def gAt (E : Nat -> List Int) (j i : Nat) (b : Int) : List Int := if 0 <= b /\ b < (j : Int) then E b.toNat else if b = (j : Int) then (E j).take i else []
theorem gAt_next (E : Nat -> List Int) (j i : Nat) (hi : i = (E j).length) : gAt E j i = gAt E (j + 1) 0 := by
 funext b
 unfold gAt
 by_cases h1 : 0 <= b /\ b < (j : Int)
 ·rw [if_pos h1, if_pos ⟨h1.1, by omega⟩]
 ·rw [if_neg h1]
  by_cases h2 : b = (j : Int)
  ·rw [if_pos h2, if_pos ⟨by omega, by omega⟩, hi, List.take_length, h2]
   rfl
  ·rw [if_neg h2, if_neg (by omega), List.take_zero, ite_self]
theorem gAt_none (E : Nat -> List Int) (b : Int) : gAt E 0 0 b = [] := by
 unfold gAt
 rw [if_neg (by omega)]
 split <;> simp
theorem gAt_step (E : Nat -> List Int) (j i : Nat) {z : Int} (h : (E j)[i]? = some z) : gAt E j (i + 1) (j : Int) = gAt E j i (j : Int) ++ [z] := by
 unfold gAt
 rw [if_neg (by omega), if_pos rfl, if_neg (by omega), if_pos rfl, List.take_add_one, h]
 rfl
theorem gAt_other (E : Nat -> List Int) (j i : Nat) {b : Int} (h : b ≠ (j : Int)) : gAt E j (i + 1) b = gAt E j i b := by
 unfold gAt
 rw [if_neg h, if_neg h]
theorem withC_none (f : Int -> Int -> Int -> Int) (rest own : Int) (E : Nat -> List Int) (p b h : Int) : withC f rest own (gAt E 0 0) p b h = f p b h := by
 unfold withC
 rw [gAt_none]
 simp
theorem cf_take {T : List Sy.Ed} {H H' : Nat -> Int} {X : Nat -> Bool} {rest own : Int} (hne : rest ≠ own) (hX : ∀ e ∈ T, X e.1.toNat = true -> H e.1.toNat = rest) (hH' : ∀ e ∈ T, H' e.1.toNat = if X e.1.toNat = true then own else H e.1.toNat) (hnew : ∀ e ∈ T, H e.1.toNat ≠ own) {G : Int -> List Int} {p b : Int} (hG : (G b).count p = cn T (fun t => X t.toNat) p b) (h : Int) : cf T H' p b h = withC (cf T H) rest own G p b h := by
 unfold withC cf
 rw [hG]
 by_cases h1 : h = rest
 ·rw [if_pos h1, h1]
  have h2 : cn T (fun t => H t.toNat == rest) p b = cn T (fun t => H' t.toNat == rest) p b + cn T (fun t => X t.toNat) p b := cn_add (fun e he => by
   have a1 := hX e he
   have a2 := hH' e he
   cases hx : X e.1.toNat with
   | false =>
     rw [hx] at a2
     simp only [Bool.false_eq_true, if_false] at a2
     simp [a2]
   | true =>
     rw [hx] at a2
     simp only [if_true] at a2
     rw [a1 hx, a2]
     simp
     exact fun e => hne e.symm) p b
  omega
 ·rw [if_neg h1]
  by_cases h2 : h = own
  ·rw [if_pos h2, h2]
   have h3 : cn T (fun t => H' t.toNat == own) p b = cn T (fun t => H t.toNat == own) p b + cn T (fun t => X t.toNat) p b := cn_add (fun e he => by
    have a2 := hH' e he
    have a3 := hnew e he
    cases hx : X e.1.toNat with
    | false =>
      rw [hx] at a2
      simp only [Bool.false_eq_true, if_false] at a2
      simp [a2]
    | true =>
      rw [hx] at a2
      simp only [if_true] at a2
      simp [a2, a3]) p b
   omega
  ·rw [if_neg h2]
   congr 1
   refine cn_congr (fun e he => ?_) p b
   have a1 := hX e he
   have a2 := hH' e he
   cases hx : X e.1.toNat with
   | false =>
     rw [hx] at a2
     simp only [Bool.false_eq_true, if_false] at a2
     rw [a2]
   | true =>
     rw [hx] at a2
     simp only [if_true] at a2
     rw [a1 hx, a2]
     have b1 : (own == h) = false := by simp; exact fun e => h2 e.symm
     have b2 : (rest == h) = false := by simp; exact fun e => h1 e.symm
     rw [b1, b2]
theorem into_cn {n : Nat} {es : List Sy.Ed} {X : Nat -> Bool} {p : Nat} (hp : p < n) (b : Int) : into (fun i => Sy.rowOf n (Sy.nf es) (i : Int)) (fun t => X t = true) b p ↔ 0 < cn (tn es) (fun t => X t.toNat) (p : Int) b := by
 rw [cn_pos]
 unfold into
 constructor
 ·rintro ⟨z, hz, rfl, hx⟩
  simp only at hz
  unfold Sy.rowOf at hz
  rw [if_pos ⟨by omega, by omega⟩] at hz
  exact ⟨(z.2, z.1, (p : Int)), tn_mem.2 (Sy.steps_mem.1 hz), hx, rfl, rfl⟩
 ·rintro ⟨e, he, hx, rfl, he2⟩
  have h1 := tn_mem.1 he
  refine ⟨(e.2.1, e.1), ?_, rfl, hx⟩
  simp only
  unfold Sy.rowOf
  rw [if_pos ⟨by omega, by omega⟩]
  refine Sy.steps_mem.2 ?_
  rw [<- he2]
  exact h1
end Sg
end
section
open Go.RowKit Go.Maps
open Go.ChangeMaps (setBlock heap_setBlock_same heap_setBlock_other)
theorem Tryz.laidOutIn : laidOutB Tryz.prog = true := by kernel_rfl
theorem Tryz.rowIn : (200 : TypeId) < Tryz.prog.types.size := of_decide_eq_true (by kernel_rfl)
theorem Tryz.wideIn : (match Tryz.prog.underlying 200 with | some (.array _ _) | some (.struct _) => true | _ => false) = true := by kernel_rfl
set_option maxRecDepth 100000 in
theorem Tryz.lawIn : WideMaps.KeyLaw Tryz.prog 200 := deep_law_laid Tryz.laidOutIn (m := 3) (by omega) Tryz.rowIn (by kernel_rfl) Tryz.wideIn
theorem Tryz.lawInK : Keyed Tryz.prog 200 := Keyed.of_law Tryz.lawIn
def inV (p b h : Int) : Value := .agg #[.int .i64 p, .int .i64 b, .int .i64 h]
def inK (p b h : Int) : Lit := .string (keyBytes [.int .i64 p, .int .i64 b, .int .i64 h])
def Sml (z : Int) : Prop := -1000000000 <= z /\ z <= 1000000000
theorem Sml.wf {z : Int} (h : Sml z) : (Lit.int .i64 z).wf = true := WalkArith.wf_i64 (by unfold Sml at h; omega)
theorem sml_nat {n : Nat} (h : n <= 1000000000) : Sml (n : Int) := by unfold Sml; omega
theorem Tryz.cellsIn : Tryz.prog.cellsOf 200 = 3 := by kernel_rfl
theorem Tryz.cellsIntIn : Tryz.prog.cellsOf 3 = 1 := by kernel_rfl
theorem Tryz.keyTypeIn : Tryz.prog.keyType 200 = true := by kernel_rfl
theorem Tryz.sizeTIn : ∃ m, Tryz.prog.types.size = m + 1 := ⟨_, (by kernel_rfl : Tryz.prog.types.size = 301)⟩
set_option maxRecDepth 100000 in
theorem keyOf_in {p b h : Int} (hp : Sml p) (hb : Sml b) (hh : Sml h) : keyOf Tryz.prog 200 (inV p b h) = some (inK p b h) := by
 obtain ⟨m, hm⟩ := Tryz.sizeTIn
 have hform : (inV p b h).formed Tryz.prog 200 = true := by simp [inV, Value.formed, Tryz.underlying200, Tryz.cellsIn]
 unfold keyOf
 rw [Tryz.underlying200]
 simp only [Tryz.keyTypeIn, hform, Bool.and_self, if_true]
 rw [hm]
 simp [Program.keyLits, Tryz.underlying200, Tryz.underlying3, Tryz.cellsIn, Tryz.cellsIntIn, inV, Value.cells, hp.wf, hb.wf, hh.wf, inK]
theorem inK_inj {p b h p' b' h' : Int} (hp : Sml p) (hb : Sml b) (hh : Sml h) (hp' : Sml p') (hb' : Sml b') (hh' : Sml h') (e : inK p b h = inK p' b' h') : p = p' /\ b = b' /\ h = h' := by
 have h1 := keyOf_in hp hb hh
 have h2 := keyOf_in hp' hb' hh'
 rw [<- e] at h2
 have h3 := Tryz.lawIn.inj h1 h2
 unfold inV at h3
 simp only [Value.agg.injEq, Array.mk.injEq, List.cons.injEq, Value.int.injEq, true_and, and_true] at h3
 exact h3
theorem inK_key (p b h : Int) : WideAt.IsKeyLit (inK p b h) := by unfold inK; exact trivial
def Cnt (w : World) (mb n : Nat) (f : Int -> Int -> Int -> Int) : Prop := ∃ D, w.ownsMap (H := Unit) Tryz.prog 200 (plainElem Tryz.prog 3) mb n D /\ ∀ p b h, Sml p -> Sml b -> Sml h -> D.atKey (inK p b h) (.lit (.int .i64 0)) = .lit (.int .i64 (f p b h))
theorem cnt_map {w w' : World} {k : TypeId} {R : Value -> Option (DataW Unit × List MemPlace)} {b n : Nat} {D : DataW Unit} (h : w.ownsMap Tryz.prog k R b n D) (hb : w'.heap[b]? = w.heap[b]?) : w'.ownsMap Tryz.prog k R b n D := by
 obtain ⟨es, clock, h1, h2⟩ := h
 exact ⟨es, clock, hb.trans h1, h2⟩
theorem Cnt.at {w w' : World} {mb n : Nat} {f : Int -> Int -> Int -> Int} (h : Cnt w mb n f) (hb : w'.heap[mb]? = w.heap[mb]?) : Cnt w' mb n f := by
 obtain ⟨D, h1, h2⟩ := h
 exact ⟨D, cnt_map h1 hb, h2⟩
theorem Cnt.lt {w : World} {mb n : Nat} {f : Int -> Int -> Int -> Int} (h : Cnt w mb n f) : mb < w.heap.size := by
 obtain ⟨D, h1, h2⟩ := h
 exact h1.lt
theorem Cnt.block {w : World} {mb n : Nat} {f : Int -> Int -> Int -> Int} (h : Cnt w mb n f) : ∃ es clock, w.heap[mb]? = some (.map es clock) := by
 obtain ⟨D, ⟨es, clock, h1, _⟩, h2⟩ := h
 exact ⟨es, clock, h1⟩
theorem Cnt.kept {w w' : World} {mb n : Nat} {f : Int -> Int -> Int -> Int} {F : Nat -> Prop} (h : Cnt w mb n f) (hk : Kept F w w') (hF : ¬ F mb) : Cnt w' mb n f := h.at (hk.block mb h.lt hF)
theorem Cnt.below {w w' : World} {mb n : Nat} {f : Int -> Int -> Int -> Int} (h : Cnt w mb n f) (hb : Below w.heap.size w w') : Cnt w' mb n f := h.at (hb.block mb h.lt)
theorem Cnt.congr {w : World} {mb n : Nat} {f f' : Int -> Int -> Int -> Int} (h : Cnt w mb n f) (hf : ∀ p b q, f p b q = f' p b q) : Cnt w mb n f' := by
 obtain ⟨D, h1, h2⟩ := h
 exact ⟨D, h1, fun p b q hp hb hq => by rw [h2 p b q hp hb hq, hf]⟩
theorem Cnt.made (w : World) : Cnt (w.alloc (.map #[] 0)) w.heap.size 0 (fun _ _ _ => 0) := ⟨_, World.ownsMap_made w _ _ _, fun _ _ _ _ _ _ => rfl⟩
theorem Cnt.ne {w : World} {mb n i : Nat} {f : Int -> Int -> Int -> Int} {c : Array Value} {s : TypeId} {x : Nat × Nat} (h : Cnt w mb n f) (hi : w.heap[i]? = some (.cells c s x)) : mb ≠ i := by
 rintro rfl
 obtain ⟨es, clock, h1⟩ := h.block
 rw [hi] at h1
 cases h1
theorem Tryz.zeroInt (u : World) : (zeroValue 3).run Tryz.prog u = .ok (.int .i64 0) u := by kernel_rfl
theorem Cnt.look {w : World} {mb n : Nat} {f : Int -> Int -> Int -> Int} (h : Cnt w mb n f) {p b q : Int} (hp : Sml p) (hb : Sml b) (hq : Sml q) : (Instr.lookup 162 (.map (some mb)) (inV p b q) false).run Tryz.prog w = .ok (.int .i64 (f p b q)) w /\ (Lit.int .i64 (f p b q)).wf = true := by
 obtain ⟨D, h1, h2⟩ := h
 obtain ⟨c, e1, e2, e3⟩ := h1.lookup_int Tryz.lawInK Tryz.underlying162 Tryz.underlying3 (Tryz.zeroInt w) (keyOf_in hp hb hq)
 rw [h2 p b q hp hb hq] at e2
 injection e2 with e2
 injection e2 with _ e2
 rw [e2]
 exact ⟨e1, e3⟩
def updC (f : Int -> Int -> Int -> Int) (p b q z : Int) : Int -> Int -> Int -> Int := fun p' b' q' => if p' = p /\ b' = b /\ q' = q then z else f p' b' q'
set_option maxRecDepth 100000 in
theorem Cnt.entry {w : World} {mb n : Nat} {f : Int -> Int -> Int -> Int} (h : Cnt w mb n f) (hn : n < maxLen) {p b q : Int} (hp : Sml p) (hb : Sml b) (hq : Sml q) :
 ∃ (v0 sv : Value) (w1 : World), (Instr.mapEntry 162 (.map (some mb)) (inV p b q)).run Tryz.prog w = .ok (.tuple #[v0, sv]) w1 /\ Cnt w1 mb (n + 1) f /\ Kept (fun i => i = mb) w w1 /\
  ∀ z : Int, (Lit.int .i64 z).wf = true -> ∃ w2, (Instr.entryStore 162 (.map (some mb)) sv (.int .i64 z)).run Tryz.prog w1 = .ok () w2 /\ Cnt w2 mb (n + 1) (updC f p b q z) /\ Kept (fun i => i = mb) w w2 := by
 have hkey := keyOf_in hp hb hq
 obtain ⟨D, hD, hf⟩ := h
 obtain ⟨es, clock, hbk, F, hs, hDe⟩ := hD
 obtain ⟨v0, st, es1, clock1, hE, hcase, hS⟩ := WideElems.entry_then_store Tryz.lawIn Tryz.underlying162 (Tryz.zeroInt) hbk F hkey
 have hO : w.ownsMap (H := Unit) Tryz.prog 200 (plainElem Tryz.prog 3) mb n D := ⟨es, clock, hbk, F, hs, hDe⟩
 have hsb : ∀ (u : World) (es0 es' : Array MapEntry) (c0 c' : Nat), u.heap[mb]? = some (.map es0 c0) -> Kept (fun i => i = mb) u (setBlock u mb (.map es' c')) := fun u es0 es' c0 c' hu => ⟨rfl, rfl, rfl, by simp [setBlock], fun i _ hi => heap_setBlock_other hu _ hi⟩
 have hput : ∀ (z : Int) (w' : World), w'.ownsMap (H := Unit) Tryz.prog 200 (plainElem Tryz.prog 3) mb (n + 1) (D.put (inK p b q) (.lit (.int .i64 z))) -> Cnt w' mb (n + 1) (updC f p b q z) := fun z w' hw' => by
  refine ⟨_, hw', fun p' b' q' hp' hb' hq' => ?_⟩
  unfold updC
  by_cases e : p' = p /\ b' = b /\ q' = q
  ·rw [if_pos e, e.1, e.2.1, e.2.2]
   exact atKey_put_same hO.isMap (inK_key _ _ _) _ _
  ·rw [if_neg e, atKey_put_other (fun e2 => e (inK_inj hp' hb' hq' hp hb hq e2)) _ _]
   exact hf p' b' q' hp' hb' hq'
 refine ⟨v0, goInt st, _, hE, ?_, hsb w es _ clock _ hbk, fun z hz => ?_⟩
 ·rcases Tryz.lawIn.find w hkey es.toList F.keys with ⟨h1, h2⟩ | ⟨j, e0, h1, h2, h3⟩
  ·have hlook := hO.lookup_int Tryz.lawInK Tryz.underlying162 Tryz.underlying3 (Tryz.zeroInt w) hkey
   obtain ⟨c, e1, e2, e3⟩ := hlook
   have e4 : (Instr.lookup 162 (.map (some mb)) (inV p b q) false).run Tryz.prog w = .ok (.int .i64 0) w := by simp [Instr.lookup, run_underlying Tryz.underlying162, MapKept.run_getObj_map hbk, Tryz.lawIn.check w _ hkey, h1, Result.andThen]
   rw [e4] at e1
   injection e1 with e1
   injection e1 with _ e1
   obtain ⟨w', hrun, hown, _⟩ := hO.update Tryz.lawInK Tryz.underlying162 hn (val := .int .i64 0) hkey (plainElem_int Tryz.underlying3 (by decide))
   have e5 : (Instr.mapUpdate 162 (.map (some mb)) (inV p b q) (.int .i64 0)).run Tryz.prog w = .ok () (setBlock w mb (.map (es.push ⟨inV p b q, .int .i64 0, clock⟩) (clock + 1))) := by simp [Instr.mapUpdate, run_underlying Tryz.underlying162, MapKept.run_getObj_map hbk, Tryz.lawIn.check w _ hkey, h1, MapKept.run_setObj_map _ hbk, Result.andThen, setBlock]
   have e6 : (Instr.mapEntry 162 (.map (some mb)) (inV p b q)).run Tryz.prog w = .ok (.tuple #[.int .i64 0, goInt clock]) (setBlock w mb (.map (es.push ⟨inV p b q, .int .i64 0, clock⟩) (clock + 1))) := by simp [Instr.mapEntry, run_underlying Tryz.underlying162, MapKept.run_getObj_map hbk, Tryz.lawIn.check w _ hkey, h1, MapKept.run_setObj_map _ hbk, Result.andThen, setBlock]
   rw [hE] at e6
   injection e6 with _ e7
   rw [hrun] at e5
   injection e5 with _ e8
   have h9 := hput 0 w' hown
   rw [e8, <- e7] at h9
   refine h9.congr fun p' b' q' => ?_
   unfold updC
   by_cases e : p' = p /\ b' = b /\ q' = q
   ·rw [if_pos e, e.1, e.2.1, e.2.2]
    have h10 := e2.symm.trans (hf p b q hp hb hq)
    injection h10 with h10
    injection h10 with _ h10
    exact e1.trans h10
   ·rw [if_neg e]
  ·have e6 : (Instr.mapEntry 162 (.map (some mb)) (inV p b q)).run Tryz.prog w = .ok (.tuple #[e0.val, goInt e0.born]) (setBlock w mb (.map es clock)) := by
    have hj : es[j]? = some e0 := by simpa using h2
    have hsame : es.modify j (fun e => { e with key := inV p b q }) = es := by
     apply Array.ext'
     rw [Array.toList_modify, ChangeMaps.modify_eq_set _ _ _ _ h2]
     have : ({ e0 with key := inV p b q } : MapEntry) = e0 := by rw [<- h3]
     rw [this]
     exact WideElems.set_self _ _ _ h2
    simp [Instr.mapEntry, run_underlying Tryz.underlying162, MapKept.run_getObj_map hbk, Tryz.lawIn.check w _ hkey, h1, hj, h3, Tryz.lawIn.stays w hkey, hsame, MapKept.run_setObj_map _ hbk, Result.andThen, setBlock]
   rw [hE] at e6
   injection e6 with _ e7
   rw [e7]
   exact ⟨D, (cnt_map hO (by rw [heap_setBlock_same hbk, hbk])).mono (Nat.le_succ n), hf⟩
 ·have hw1 : (setBlock w mb (.map es1 clock1)).heap[mb]? = some (.map es1 clock1) := heap_setBlock_same hbk _
  obtain ⟨es', clock', hr1, hr2⟩ := hS (setBlock w mb (.map es1 clock1)) (.int .i64 z) hw1
  obtain ⟨w', hrun, hown, _⟩ := hO.update Tryz.lawInK Tryz.underlying162 hn (val := .int .i64 z) hkey (plainElem_int Tryz.underlying3 hz)
  rw [hr2] at hrun
  injection hrun with _ e8
  refine ⟨_, hr1, hput z _ (cnt_map hown ?_), (hsb w es _ clock _ hbk).trans (hsb _ es1 _ clock1 _ hw1)⟩
  rw [<- e8, heap_setBlock_same hw1, heap_setBlock_same hbk]
end
end Go.Proofs.YtgehimdkdeldaabGreatDoor
