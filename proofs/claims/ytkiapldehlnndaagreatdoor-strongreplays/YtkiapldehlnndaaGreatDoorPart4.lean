/- Texts of this claim, joined: SgLift0, SgLift, SyOutI, SyTab0, SySort, SySorted, ErCode, ErTold. -/
import Derived.Test.YtkiapldehlnndaaGreatDoorPart3
import Derived.Deep.AppendLies
import Derived.Test.YtkiapldehlnndaaGreatDoorPart0
import Derived.BigRegion
import Derived.BigQuiet
import Derived.Deep.QuietTactic
import Derived.Test.YtkiapldehlnndaaGreatDoorPart2
import Derived.Deep.DeepCutAuto
import Derived.Deep.RegionHeld3
import Derived.Deep.RegionLaw
import Derived.Test.YtkiapldehlnndaaGreatDoorPart1
import Derived.ProofKit
/- strong: what a run in memory is behind one more heap; the functions that lift and take hand to slices.DeleteFunc. -/
namespace Go.Proofs.YtkiapldehlnndaaGreatDoor
open Go.RowKit Go.Maps
attribute [local go_sem ↓] Go.wp_at_zero Go.wp_at_succ
theorem RnM.snocHeap {w w1 w2 : World} {B r g p mb k : Nat} {x : Rv} {vb vh' : Value} {zs : List Int} (h : RnM w B r g p mb x) (hb : Below w.heap.size w w1) (hq : Que w1 B vb zs) (hf : ∀ b, vb.ownBlock = some b → w.heap.size ≤ b) (hk : Kept (fun b => x.vh.ownBlock = some b) w1 w2) (hrow : w2.ownsRow B 149 2 vh' (x.ks.length + 1) (hpC x.H x.ks ++ [vb, .int .i64 (k : Int)])) (hat : vh'.ownBlock = x.vh.ownBlock ∨ ∀ b, vh'.ownBlock = some b → w1.heap.size ≤ b) (ha : At0 vb) :
 RnM (w2.setCell ⟨r, 2, none⟩ vh') B r g p mb { x with vh := vh', H := x.H ++ [(vb, zs)], ks := x.ks ++ [k] } := by
 have h1 := h.below hb
 have hq1 := h.q.snoc hb hq hf
 have hvbf : ∀ b, Foot (x.L ++ [(vb, zs)]) b → b ≠ r ∧ x.vh.ownBlock ≠ some b := fun b hb2 => by
  rcases foot_snoc hb2 with h2 | h2
  ·exact ⟨fun e => h.r_foot (.inr (by rw [← e]; exact h2)), fun e => h.heap_list e h2⟩
  ·have h3 := hf b h2
   exact ⟨fun e => by have := t_lt h.box; omega, fun e => by have := (h.hp.lt b e).2; omega⟩
 have hnr : ∀ b, vh'.ownBlock = some b → b ≠ r := fun b hb2 e => by
  rcases hat with h2 | h2
  ·exact h.r_foot (.inl (by rw [← h2, ← e]; exact hb2))
  ·have := h2 b hb2; have := t_lt h1.box; omega
 have hbx : w2.heap[r]? = w1.heap[r]? := hk.block r (t_lt h1.box) fun e => h.r_foot (.inl e)
 refine ⟨box_put (hbx.trans h1.box) vh', ?_, by rw [List.length_append, List.length_append, h.len]; rfl, ?_, h.up, fun z hz => (List.mem_append.1 hz).elim (h.fl z) fun e => by rw [List.mem_singleton.1 e]; exact ha⟩
 ·have h2 : World.ownsRow w2 B 149 2 vh' (x.ks ++ [k]).length (hpC (x.H ++ [(vb, zs)]) (x.ks ++ [k])) := by
   rw [List.length_append, hpC_snoc x.H x.ks (vb, zs) k h.len]
   exact hrow
  exact own_up h2 (Kept.setCell w2 r 2 vh') fun b hb2 e => hnr b hb2 e
 ·have h2 := (hq1.kept hk fun b hb2 => (hvbf b hb2).2).setBox (r := r) (k := 2) (fun b hb2 => (hvbf b hb2).1) vh'
  exact h2
theorem RnM.setOw {w : World} {B r g p mb gz oz n cap : Nat} {x : Rv} (h : RnM w B r g p mb x) (hv : x.vo = .slice (some ⟨gz, oz, none⟩) n cap) {i : Nat} (hi : i < x.ow.length) (z : Int) : RnM (w.setCell ⟨gz, oz + i, none⟩ (.int .i64 z)) B r g p mb { x with ow := x.ow.set i z } := by
 have hf : Foot x.L gz := ⟨(x.vo, x.ow), by simp [Rv.L], by rw [hv]; rfl⟩
 have hr : r ≠ gz := fun e => h.r_foot (.inr (by rw [e]; exact hf))
 have hk := Kept.setCell w gz (oz + i) (.int .i64 z)
 refine ⟨(hk.block r (t_lt h.box) hr).trans h.box, own_up h.hp hk fun b hb e => h.heap_list hb (by rw [e]; exact hf), h.len, ?_, h.up, h.fl⟩
 have h1 := h.q.setAt (k := 0) (zs := x.ow) (by rw [← hv]; rfl) hi z
 rw [← hv] at h1
 exact h1
theorem Que.one {w : World} {B b : Nat} {z : Int} (hB : B ≤ b) (h : w.heap[b]? = some (.cells #[.int .i64 z] 3 (0, 0))) : Que w B (.slice (some ⟨b, 0, none⟩) 1 1) [z] := .inr ⟨b, 0, 1, _, rfl, hB, h, Nat.le_refl _, by decide, .inl rfl, rfl⟩
theorem grew_snoc {w w1 w2 : World} {r : Nat} {x : Rv} {vb vh' : Value} {zs : List Int} {ks : List Nat} (hb : Below w.heap.size w w1) (hf : ∀ b, vb.ownBlock = some b → w.heap.size ≤ b) (hk : Kept (fun b => x.vh.ownBlock = some b) w1 w2) (hat : vh'.ownBlock = x.vh.ownBlock ∨ ∀ b, vh'.ownBlock = some b → w1.heap.size ≤ b) :
 Grew w (w2.setCell ⟨r, 2, none⟩ vh') r x { x with vh := vh', H := x.H ++ [(vb, zs)], ks := ks } := by
 refine ⟨((Kept.of_below hb).trans (hk.mono fun b _ e => .inr (.inl e))).trans ((Kept.setCell w2 r 2 vh').mono fun b _ e => .inl e), fun b h => ?_⟩
 rcases h with h | h
 ·rcases hat with h2 | h2
  ·exact .inl (.inl (by rw [← h2]; exact h))
  ·exact .inr (Nat.le_trans hb.size (h2 b h))
 ·rcases foot_snoc (L := x.L) (z := (vb, zs)) h with h2 | h2
  ·exact .inl (.inr h2)
  ·exact .inr (hf b h2)
theorem lift_kp {w w' : World} {a b c gh n k : Nat} {ca cb cc : Nat} {x y z : Value} (hk : Kept (fun i => (Value.slice (some ⟨gh, 0, none⟩) n k).ownBlock = some i) w w') (h1 : a ≠ gh) (h2 : b ≠ gh) (h3 : c ≠ gh) (h : w.cell? ⟨a, ca, none⟩ = some x ∧ w.cell? ⟨b, cb, none⟩ = some y ∧ w.cell? ⟨c, cc, none⟩ = some z) : w'.cell? ⟨a, ca, none⟩ = some x ∧ w'.cell? ⟨b, cb, none⟩ = some y ∧ w'.cell? ⟨c, cc, none⟩ = some z := by
 have hc : ∀ (i o : Nat) (v : Value), i ≠ gh → w.cell? ⟨i, o, none⟩ = some v → w'.cell? ⟨i, o, none⟩ = some v := fun i o v hi hv => (World.cell?_of_block (a := ⟨i, o, none⟩) (hk.block i (World.block_lt_of_cell? w _ hv) (fun e => hi (by cases e; rfl)))).trans hv
 exact ⟨hc _ _ _ h1 h.1, hc _ _ _ h2 h.2.1, hc _ _ _ h3 h.2.2⟩
theorem lift_st {w : World} {r b c cb cc : Nat} {x y z u : Value} (h2 : r ≠ b) (h3 : c ≠ r) (h : w.cell? ⟨r, 4, none⟩ = some x ∧ w.cell? ⟨b, cb, none⟩ = some y ∧ w.cell? ⟨c, cc, none⟩ = some z) : (w.setCell ⟨r, 2, none⟩ u).cell? ⟨r, 4, none⟩ = some x ∧ (w.setCell ⟨r, 2, none⟩ u).cell? ⟨b, cb, none⟩ = some y ∧ (w.setCell ⟨r, 2, none⟩ u).cell? ⟨c, cc, none⟩ = some z := by
 refine ⟨?_, (World.cell?_of_block (a := ⟨b, cb, none⟩) (set_other _ _ _ _ _ (fun e => h2 e.symm))).trans h.2.1, (World.cell?_of_block (a := ⟨c, cc, none⟩) (set_other _ _ _ _ _ h3)).trans h.2.2⟩
 exact (World.cell?_setCell_other w ⟨r, 2, none⟩ ⟨r, 4, none⟩ u (fun e => by injection e with _ e; cases e)).trans h.1
theorem Que.cellAt {w : World} {B g off n cap : Nat} {zs : List Int} (h : Que w B (.slice (some ⟨g, off, none⟩) n cap) zs) {i : Nat} {z : Int} (hi : zs[i]? = some z) : w.cell? ⟨g, off + i, none⟩ = some (.int .i64 z) ∧ w.frozen? ⟨g, off + i, none⟩ = false := by
 obtain ⟨g', off', cap', e, _, h1, h2⟩ := h.cell hi
 cases e
 exact ⟨h1, h2⟩
theorem kcell2 {w w' : World} {b o : Nat} {u v : Value} (hk : Kept (fun b => u.ownBlock = some b) w w') (hne : u.ownBlock ≠ some b) (c : w.cell? ⟨b, o, none⟩ = some v) : w'.cell? ⟨b, o, none⟩ = some v := (World.cell?_of_block (a := ⟨b, o, none⟩) (hk.block b (World.block_lt_of_cell? w _ c) hne)).trans c
set_option maxHeartbeats 1000000 in
theorem lift1_asks (bb bl : Nat) (zs : List Int) (v : Value) (w : World) (hc : w.cell? ⟨bb, 0, none⟩ = some (.int .i64 bl)) (hne : v.ownBlock ≠ some bb) : Asks 160 #[.pointer (some ⟨bb, 0, none⟩)] (fun z => z == (bl : Int)) zs fun W => Kept (fun b => v.ownBlock = some b) w W := fun z W _ hk => by
 have c0 := kcell2 hk hne hc
 clear hc hne hk
 show Calls Tryz.prog 160 #[.int .i64 z, .pointer (some ⟨bb, 0, none⟩)] W _
 go_enter Tryz.func160, Tryz.ntmps160
 go_wp2
 go_ret
 exact ⟨rfl, Below.refl _ _⟩
end Go.Proofs.YtkiapldehlnndaaGreatDoor
/- strong: contract of a run's lift: a block is a heap of its own. -/
namespace Go.Proofs.YtkiapldehlnndaaGreatDoor
open Go.RowKit Go.Maps
attribute [local go_sem ↓] Go.wp_at_zero Go.wp_at_succ
theorem Tryz.infoHp : (Tryz.prog.info? 149).map (fun i => (i.zero, i.size, i.bytes)) = some (some (.agg #[.slice none 0 0, .int .i64 0]), 2, 32) := by kernel_rfl
structure LiftAt (w w' : World) (B r g p mb : Nat) (x x' : Rv) (bl o k z : Nat) (bs : List Int) : Prop where
 m : RnM w' B r g p mb x'
 ow : x'.ow = x.ow.set bl (x.ks.length : Int)
 sz : x'.sz = x.sz
 wt : x'.wt = x.wt
 ks : x'.ks = x.ks.set o (k - z) ++ [z]
 hs : x'.H.map (·.2) = (x.H.map (·.2)).set o (bs.filter fun b => !(b == (bl : Int))) ++ [[(bl : Int)]]
 gw : Grew w w' r x x'
set_option linter.unusedSimpArgs false in
set_option maxRecDepth 100000 in
set_option maxHeartbeats 8000000 in
theorem lift_any (B r g p mb : Nat) (x : Rv) (bl o k z : Nat) (v : Value) (bs : List Int) (w : World) (hM : RnM w B r g p mb x) (how : x.ow[bl]? = some (o : Int)) (hsz : x.sz[bl]? = some (z : Int)) (hH : x.H[o]? = some (v, bs)) (hks : x.ks[o]? = some k) (hkl : x.ks.length ≤ 100000) (hbl : bs.length ≤ 100000) (hb0 : 0 < bs.length) (hzk : z ≤ k) (hk : k ≤ 1000) :
 Calls Tryz.prog 114 #[.pointer (some ⟨r, 0, none⟩), .int .i64 bl] w fun e w' => e = .returned (.tuple #[.int .i64 o, .int .i64 (x.ks.length : Int)]) ∧ ∃ x', LiftAt w w' B r g p mb x x' bl o k z bs := by
 have hvO : OwnI w B v bs := (hM.q.q (o + 3) (v, bs) (by show x.H[o]? = _; exact hH)).own (hM.fl _ (List.mem_of_getElem? hH)) hb0
 obtain ⟨w1, hw1⟩ : ∃ w1, w1 = w.alloc (.cells #[.int .i64 bl] 3) := ⟨_, rfl⟩
 have hb1 : Below w.heap.size w w1 := by rw [hw1]; exact (Below.refl _ _).alloc (Nat.le_refl _) _
 have cb : w1.cell? ⟨w.heap.size, 0, none⟩ = some (.int .i64 bl) := by rw [hw1]; exact cell0_of (heap_alloc_new w _) rfl
 have hM1 := hM.below hb1
 obtain ⟨c0, c1, c2, c3, c4, c5, c6⟩ := seven_cells hM1.box
 have hol := (List.getElem?_eq_some_iff.1 how).1
 have hkk := (List.getElem?_eq_some_iff.1 hks).1
 obtain ⟨go, oo, co, hvo, hoc, cow, fow⟩ := (hM1.q.q 0 (x.vo, x.ow) rfl).cell how
 obtain ⟨gz, oz, cz, hvz, hzc, csz, fsz⟩ := (hM1.q.q 1 (x.vz, x.sz) rfl).cell hsz
 have hzl := (List.getElem?_eq_some_iff.1 hsz).1
 simp only at hvo hvz
 obtain ⟨gh, ch, hvh⟩ := hM1.hform (by omega)
 obtain ⟨nz, hnz⟩ : ∃ nz, nz = x.sz.length := ⟨_, rfl⟩
 obtain ⟨no, hno⟩ : ∃ no, no = x.ow.length := ⟨_, rfl⟩
 obtain ⟨nk, hnk⟩ : ∃ nk, nk = x.ks.length := ⟨_, rfl⟩
 obtain ⟨d0, d1, df⟩ := hM1.hcell hvh hH hks
 rw [hvo, ← hno] at c3
 rw [hvz, ← hnz] at c4
 rw [hvh, ← hnk] at c2
 rw [← hno] at hol
 rw [← hnz] at hzl
 rw [← hnk] at hkk hkl ⊢
 have p0 : (0 : Int) ≤ (bl : Int) := by omega
 have p1 : (bl : Int) < (no : Int) := by omega
 have p2 : (bl : Int) < (nz : Int) := by omega
 have p3 : (0 : Int) ≤ (o : Int) := by omega
 have p4 : (o : Int) < (nk : Int) := by omega
 have hvO1 : OwnI w1 B v bs := trow_at hvO fun b e => hb1.block b (hvO.lt b e).2
 have hvn : ∀ b, v.ownBlock = some b → w.heap.size ≠ b := fun b e e2 => by have := (hvO.lt b e).2; omega
 have H : Hid _ := And.intro hM1 (And.intro hb1 (And.intro hvo (And.intro hvz (And.intro hvh (And.intro hnz (And.intro hno (And.intro hnk (And.intro hH (And.intro hks (And.intro hvO1 (And.intro hvn (And.intro hw1 (And.intro hkl hbl)))))))))))))
 have H0 : Hid _ := And.intro how (And.intro hsz hM)
 have hd0 := d0
 obtain ⟨av, cv, hve⟩ := row_shape hvO1
 have HV : Hid _ := hve
 rw [hve] at d0
 obtain ⟨nb, hnb⟩ : ∃ nb, nb = bs.length := ⟨_, rfl⟩
 rw [← hnb] at d0
 have HNB : Hid _ := And.intro hnb (And.intro hd0 (And.intro d1 df))
 clear hM hM1 hvo hvz hvh hnz hno hnk hH hks hvO hvO1 hvn how hsz hoc hzc hb1 hve hd0 hnb d1 df hbl hb0 hw1
 go_enter Tryz.func114, Tryz.ntmps114
 go_upto_region 1 with fail
 rw [← H.out.2.2.2.2.2.2.2.2.2.2.2.2.1]
 refine wp_region_held_drew (S := (fun w' => (w'.cell? ⟨r, 2, none⟩ = some (.slice (some ⟨gh, 0, none⟩) nk ch) ∧ w'.cell? ⟨r, 3, none⟩ = some (.slice (some ⟨go, oo, none⟩) no co)) ∧ w'.cell? ⟨w.heap.size, 0, none⟩ = some (.int .i64 bl) ∧ w'.cell? ⟨go, oo + bl, none⟩ = some (.int .i64 o))) (by kernel_rfl) ?_ (fun hHeld => ?_)
 ·exact ⟨⟨c2, c3⟩, cb, cow⟩
 refine tk9 0 ?_ rfl (by kernel_rfl) (fun _ _ _ h => h) ⟨by rfl, ?_⟩ (by assumption) ?_; rotate_left; (focus (intro w hSw; (try dsimp only at hSw); go_simp; (try with_reducible rfl))); (try simp only [ty9, Act.put])
 refine tk9 1 ?_ rfl (by kernel_rfl) (fun _ _ _ h => h) ⟨by rfl, ?_⟩ (by assumption) ?_; rotate_left; (focus (intro w hSw; (try dsimp only at hSw); go_simp; (try with_reducible rfl))); (try simp only [ty9, Act.put])
 refine tk9 2 ?_ rfl (by kernel_rfl) (fun _ _ _ h => h) ⟨by rfl, ?_⟩ (by assumption) ?_; rotate_left; (focus (intro w hSw; (try dsimp only at hSw); go_simp; (try with_reducible rfl))); (try simp only [ty9, Act.put])
 refine tk9 3 ?_ rfl (by kernel_rfl) (fun _ _ _ h => h) ⟨by rfl, ?_⟩ (by assumption) ?_; rotate_left; (focus (intro w hSw; (try dsimp only at hSw); go_simp; (try with_reducible rfl))); (try simp only [ty9, Act.put])
 refine tk9 4 ?_ rfl (by kernel_rfl) (fun _ _ _ h => h) ⟨by rfl, ?_⟩ (by assumption) ?_; rotate_left; (focus (intro w hSw; (try dsimp only at hSw); go_simp; (try with_reducible rfl))); (try simp only [ty9, Act.put])
 refine tk9 5 ?_ rfl (by kernel_rfl) (fun _ _ _ h => h) ⟨by rfl, ?_⟩ (by assumption) ?_; rotate_left; (focus (intro w hSw; (try dsimp only at hSw); go_simp; (try with_reducible rfl))); (try simp only [ty9, Act.put])
 refine tk9 6 ?_ rfl (by kernel_rfl) (fun _ _ _ h => h) ⟨by rfl, ?_⟩ (by assumption) ?_; rotate_left; (focus (intro w hSw; (try dsimp only at hSw); go_simp; (try with_reducible rfl))); (try simp only [ty9, Act.put])
 refine tk9 7 ?_ rfl (by kernel_rfl) (fun _ _ _ h => h) ⟨by rfl, ?_⟩ (by assumption) ?_; rotate_left; (focus (intro w hSw; (try dsimp only at hSw); go_simp; (try with_reducible rfl))); (try simp only [ty9, Act.put])
 refine tk9 8 ?_ rfl (by kernel_rfl) (fun _ _ _ h => h) ⟨by rfl, ?_⟩ (by assumption) ?_; rotate_left; (focus (intro w hSw; (try dsimp only at hSw); go_simp; (try with_reducible rfl))); (try simp only [ty9, Act.put])
 refine tk9 9 ?_ rfl (by kernel_rfl) (fun _ _ _ h => h) ⟨by rfl, ?_⟩ (by assumption) ?_; rotate_left; (focus (intro w hSw; (try dsimp only at hSw); go_simp; (try with_reducible rfl))); (try simp only [ty9, Act.put])
 refine tk9 10 ?_ rfl (by kernel_rfl) (fun _ _ _ h => h) ⟨by rfl, ?_⟩ (by assumption) ?_; rotate_left; (focus (intro w hSw; (try dsimp only at hSw); go_simp; (try with_reducible rfl))); (try simp only [ty9, Act.put])
 refine tk9 11 ?_ rfl (by kernel_rfl) (fun _ _ _ h => h) ⟨by rfl, ?_⟩ (by assumption) ?_; rotate_left; (focus (intro w hSw; (try dsimp only at hSw); go_simp; (try with_reducible rfl))); (try simp only [ty9, Act.put])
 refine tk9 12 ?_ rfl (by kernel_rfl) (fun _ _ _ h => h) ⟨by rfl, ?_⟩ (by assumption) ?_; rotate_left; (focus (intro w hSw; (try dsimp only at hSw); go_simp; (try with_reducible rfl))); (try simp only [ty9, Act.put])
 refine tk9 13 ?_ rfl (by kernel_rfl) (fun _ _ _ h => h) ⟨by rfl, ?_⟩ (by assumption) ?_; rotate_left; (focus (intro w hSw; (try dsimp only at hSw); go_simp; (try with_reducible rfl))); (try simp only [ty9, Act.put])
 refine wpAnyH_done (by kernel_rfl) ?_ _
 (try go_simp)
 clear hHeld
 have hbd : Below w1.heap.size w1 w1.drew := (Below.refl _ _).drew
 obtain ⟨wA, hwA⟩ : ∃ wA, wA = w1.drew := ⟨_, rfl⟩
 rw [← hwA] at hbd ⊢
 clear hwA
 have hve := HV.out
 rw [← HNB.out.1] at hve
 subst hve
 have hMA := H.out.1.below hbd
 have e2 := sg_cell c2 hbd
 have ebb := sg_cell cb hbd
 have ed0 := sg_cell d0 hbd
 have hOA : OwnI wA B (.slice av nb cv) bs := trow_at H.out.2.2.2.2.2.2.2.2.2.2.1 fun b e => hbd.block b (H.out.2.2.2.2.2.2.2.2.2.2.1.lt b e).2
 have hDel := deleteFunc1 160 B (.pointer (some ⟨w.heap.size, 0, none⟩)) (fun z => z == (bl : Int)) (.slice av nb cv) bs wA hOA (by have := H.out.2.2.2.2.2.2.2.2.2.2.2.2.2.2; omega) (enters_of Tryz.func160 (by kernel_rfl) rfl) (lift1_asks w.heap.size bl _ _ wA ebb fun e => H.out.2.2.2.2.2.2.2.2.2.2.2.1 _ e rfl)
 have hgn : (Value.slice av nb cv).ownBlock ≠ some gh := fun e => hMA.heap_list (b := gh) (by rw [H.out.2.2.2.2.1]; rfl) ⟨_, List.mem_of_getElem? (show x.L[o + 3]? = some _ from H.out.2.2.2.2.2.2.2.2.1), e⟩
 have hgf : wA.frozen? ⟨gh, o * 2, none⟩ = false := (hMA.hcell H.out.2.2.2.2.1 H.out.2.2.2.2.2.2.2.2.1 H.out.2.2.2.2.2.2.2.2.2.1).2.2 _
 have HD : Hid _ := And.intro hDel (And.intro hgn (And.intro hgf (And.intro hMA (And.intro hbd (And.intro ebb trivial)))))
 clear hDel hgn hgf hMA hbd c0 c1 c2 c3 c4 c5 c6 cb cow fow csz fsz d0 hOA ebb HV
 go_upto_region 4 with (go_at_call 116; refine Calls.mono HD.out.1 ?_; rintro r1 w2 ⟨v', rfl, hO2, hob, hkp⟩; obtain ⟨a2, m2, hv2⟩ := row_shape hO2; obtain ⟨n2, hn2⟩ : ∃ n2, n2 = (bs.filter fun b => !(b == (bl : Int))).length := ⟨_, rfl⟩; rw [← hn2] at hv2; subst hv2; have q0 := kcell2 hkp HD.out.2.1 ed0; have qf : w2.frozen? ⟨gh, o * 2, none⟩ = false := (World.frozen?_of_block (hkp.block gh (World.block_lt_of_cell? wA _ ed0) HD.out.2.1)).trans HD.out.2.2.1; have H2 : Hid _ := And.intro hO2 (And.intro hob (And.intro hkp hn2)); clear hO2 hob hkp hn2)
 obtain ⟨xB, hxB⟩ : ∃ xB : Rv, xB = { x with H := x.H.set o (.slice a2 n2 m2, bs.filter fun b => !(b == (bl : Int))) } := ⟨_, rfl⟩
 obtain ⟨wB, hwB⟩ : ∃ wB, wB = w2.setCell ⟨gh, o * 2, none⟩ (.slice a2 n2 m2) := ⟨_, rfl⟩
 rw [← hwB]
 have hMB : RnM wB B r g p mb xB := by rw [hwB, hxB]; exact HD.out.2.2.2.1.putHeap H.out.2.2.2.2.1 H.out.2.2.2.2.2.2.2.2.1 H2.out.2.2.1 (Que.of_own H2.out.1) (.inl H2.out.2.1) H2.out.1.at0
 have hkB : Kept (fun b => (Value.slice av nb cv).ownBlock = some b ∨ b = gh) wA wB := by rw [hwB]; exact (H2.out.2.2.1.mono fun _ _ e => .inl e).trans ((Kept.setCell w2 gh _ _).mono fun _ _ e => .inr e)
 have hbA : Below w.heap.size w wA := sg_bel HD.out.2.2.2.2.1 H.out.2.1
 have hghf : x.foot gh := .inl (by rw [H.out.2.2.2.2.1]; rfl)
 have hvf : ∀ b, (Value.slice av nb cv).ownBlock = some b → x.foot b := fun b e => .inr ⟨_, List.mem_of_getElem? (show x.L[o + 3]? = some _ from H.out.2.2.2.2.2.2.2.2.1), e⟩
 have hGB : Grew w wB r x xB := ⟨(Kept.of_below hbA).trans (hkB.mono fun b _ e => .inr (e.elim (hvf b) fun e => by rw [e]; exact hghf)), fun b hb => by rw [hxB] at hb; exact foot_app (x := x) (k := o + 3) (v' := .slice a2 n2 m2) (zs' := bs.filter fun b => !(b == (bl : Int))) H.out.2.2.2.2.2.2.2.2.1 (.inl H2.out.2.1) hb⟩
 have hbbf : ¬ ((Value.slice av nb cv).ownBlock = some w.heap.size ∨ w.heap.size = gh) := fun e => by
  rcases e with e | e
  ·have := (H0.out.2.2.foot_lt (hvf _ e)).2; omega
  ·have := (H0.out.2.2.foot_lt hghf).2; omega
 have f0 : wB.cell? ⟨w.heap.size, 0, none⟩ = some (.int .i64 bl) := (World.cell?_of_block (a := ⟨w.heap.size, 0, none⟩) (hkB.block w.heap.size (World.block_lt_of_cell? wA _ HD.out.2.2.2.2.2.1) hbbf)).trans HD.out.2.2.2.2.2.1
 have hvhB : xB.vh = .slice (some ⟨gh, 0, none⟩) xB.ks.length ch := by rw [hxB]; exact H.out.2.2.2.2.1
 obtain ⟨_, f1, f2⟩ := hMB.hcell (o := o) (k := k) hvhB (by rw [hxB]; exact List.getElem?_set_self (List.getElem?_eq_some_iff.1 H.out.2.2.2.2.2.2.2.2.1).1) (by rw [hxB]; exact H.out.2.2.2.2.2.2.2.2.2.1)
 have f3 := (seven_cells hMB.box).2.2.2.2.1
 rw [show xB.vz = .slice (some ⟨gz, oz, none⟩) nz cz by rw [hxB, H.out.2.2.2.2.2.1]; exact H.out.2.2.2.1] at f3
 have f4 := (Que.cellAt (w := wB) (B := B) (g := gz) (off := oz) (n := nz) (cap := cz) (by have h9 := hMB.q.q 1 (xB.vz, xB.sz) rfl; rw [show xB.vz = .slice (some ⟨gz, oz, none⟩) nz cz by rw [hxB, H.out.2.2.2.2.2.1]; exact H.out.2.2.2.1] at h9; exact h9) (show xB.sz[bl]? = some (z : Int) by rw [hxB]; exact H0.out.2.1)).1
 have f5 := f2 (o * 2 + 1)
 have p5 : IntKind.i64.wrap ((k : Int) - (z : Int)) = (k : Int) - (z : Int) := by rw [IntKind.wrap_i64]; omega
 have HB : Hid _ := And.intro hMB (And.intro hGB (And.intro hxB (And.intro hvhB (And.intro hbbf hghf))))
 clear hMB hGB hxB hvhB hbbf hghf hvf hbA hkB hwB f2 q0 qf ed0 e2
 go_region
 have hpc : (k : Int) - (z : Int) = ((k - z : Nat) : Int) := by omega
 rw [hpc]
 obtain ⟨wC, hwC⟩ : ∃ wC, wC = (wB.setCell ⟨gh, o * 2 + 1, none⟩ (.int .i64 ((k - z : Nat) : Int))).drew := ⟨_, rfl⟩
 rw [← hwC]
 obtain ⟨xC, hxC⟩ : ∃ xC : Rv, xC = { xB with ks := xB.ks.set o (k - z) } := ⟨_, rfl⟩
 have hMC : RnM wC B r g p mb xC := by rw [hwC, hxC]; exact (HB.out.1.putStates HB.out.2.2.2.1 (o := o) (k - z)).below ((Below.refl _ _).drew)
 have hkC : Kept (fun b => b = gh) wB wC := by rw [hwC]; exact (Kept.setCell wB gh _ _).trans (Kept.of_below ((Below.refl _ _).drew))
 have hfC : xB.foot = xC.foot := by rw [hxC]; rfl
 have hGC : Grew w wC r x xC := HB.out.2.1.trans ⟨hkC.mono fun b _ e => .inr (.inl (by rw [HB.out.2.2.2.1, e]; rfl)), fun b hb => .inl (by rw [hfC]; exact hb)⟩
 have g0 : wC.cell? ⟨w.heap.size, 0, none⟩ = some (.int .i64 bl) := (World.cell?_of_block (a := ⟨w.heap.size, 0, none⟩) (hkC.block w.heap.size (World.block_lt_of_cell? wB _ f0) fun e => HB.out.2.2.2.2.1 (.inr e))).trans f0
 have hlC : xC.ks.length = nk := by rw [hxC, HB.out.2.2.1, H.out.2.2.2.2.2.2.2.1]; exact List.length_set
 have hvhC : xC.vh = .slice (some ⟨gh, 0, none⟩) nk ch := by rw [hxC]; show xB.vh = _; rw [HB.out.2.2.1, H.out.2.2.2.2.2.2.2.1]; exact H.out.2.2.2.2.1
 have hvzC : xC.vz = .slice (some ⟨gz, oz, none⟩) nz cz := by rw [hxC, HB.out.2.2.1, H.out.2.2.2.2.2.1]; exact H.out.2.2.2.1
 have hvoC : xC.vo = .slice (some ⟨go, oo, none⟩) no co := by rw [hxC, HB.out.2.2.1, H.out.2.2.2.2.2.2.1]; exact H.out.2.2.1
 have hszC : xC.sz = x.sz := by rw [hxC, HB.out.2.2.1]
 have howC : xC.ow = x.ow := by rw [hxC, HB.out.2.2.1]
 have g1 := (seven_cells hMC.box).2.2.2.2.1
 rw [hvzC] at g1
 have g2 := (seven_cells hMC.box).2.2.1
 rw [hvhC] at g2
 have g3 := (Que.cellAt (w := wC) (B := B) (g := gz) (off := oz) (n := nz) (cap := cz) (by have h9 := hMC.q.q 1 (xC.vz, xC.sz) rfl; rw [hvzC] at h9; exact h9) (show xC.sz[bl]? = some (z : Int) by rw [hszC]; exact H0.out.2.1)).1
 have hwn : World.ownsRow wC B 149 2 (.slice (some ⟨gh, 0, none⟩) nk ch) nk (hpC xC.H xC.ks) := by have h9 := hMC.hp; rw [hvhC, hlC] at h9; exact h9
 obtain ⟨i0, hi0, hz0, hz1, hz2⟩ := info_parts Tryz.infoHp
 have HC : Hid _ := And.intro hMC (And.intro hGC (And.intro hxC (And.intro hlC (And.intro hvhC (And.intro hvoC (And.intro howC (And.intro hwn (And.intro hszC hvzC))))))))
 clear hMC hGC hxC hlC hvzC hvhC hvoC howC hwn hszC hkC hfC hwC hpc f0 f1 f3 f4 f5 p5
 have hba : Below wC.heap.size wC (wC.alloc (.cells #[.int .i64 bl] 3)) := (Below.refl _ _).alloc (Nat.le_refl _) _
 have k0 := sg_cell g0 hba
 have k1 := sg_cell g1 hba
 have k2 := sg_cell g2 hba
 have k3 := sg_cell g3 hba
 obtain ⟨W3, hW3⟩ : ∃ W3, W3 = ((wC.alloc (.cells #[.int .i64 bl] 3)).alloc (.cells #[.slice (some ⟨wC.heap.size, 0, none⟩) 1 1, .int .i64 z] 149)).drew := ⟨_, rfl⟩
 have hb3 : Below wC.heap.size wC W3 := by rw [hW3]; exact (((Below.refl _ _).alloc (Nat.le_refl _) _).alloc (by rw [World.size_alloc]; omega) _).drew
 have hs3 : W3.heap.size = wC.heap.size + 2 := by rw [hW3]; simp
 have hn3 : W3.heap[wC.heap.size + 1]? = some (.cells #[.slice (some ⟨wC.heap.size, 0, none⟩) 1 1, .int .i64 z] 149 (0, 0)) := by rw [hW3]; have h9 := heap_alloc_new (wC.alloc (.cells #[.int .i64 bl] 3)) (.cells #[.slice (some ⟨wC.heap.size, 0, none⟩) 1 1, .int .i64 z] 149); rw [World.size_alloc] at h9; exact h9
 have hm3 : W3.heap[wC.heap.size]? = some (.cells #[.int .i64 bl] 3 (0, 0)) := by rw [hW3]; exact (heap_alloc_old (wC.alloc (.cells #[.int .i64 bl] 3)) _ (by rw [World.size_alloc]; omega)).trans (heap_alloc_new wC _)
 have hO3 := own_up (F := fun _ => False) HC.out.2.2.2.2.2.2.2.1 (Kept.of_below hb3) (fun _ _ h => h)
 have hB3 : B ≤ wC.heap.size := by have := t_lt HC.out.1.box; have := HC.out.1.up; omega
 have hx3 : W3.heap[r]? = wC.heap[r]? := hb3.block r (t_lt HC.out.1.box)
 have hml : nk + 1 ≤ maxLen := by unfold maxLen; have := H.out.2.2.2.2.2.2.2.2.2.2.2.2.2.1; omega
 have hby : (nk + 1) * 32 ≤ 140737488355328 := by have := H.out.2.2.2.2.2.2.2.2.2.2.2.2.2.1; omega
 have HW : Hid _ := And.intro hb3 (And.intro hs3 (And.intro hn3 (And.intro hm3 (And.intro hO3 (And.intro hB3 (And.intro hx3 hW3))))))
 clear hb3 hs3 hn3 hm3 hO3 hB3 hx3 hW3
 have hrw : r ≠ w.heap.size := by have := t_lt H0.out.2.2.box; omega
 have hbg : w.heap.size ≠ gh := fun e => HB.out.2.2.2.2.1 (.inr e)
 have hrg : r ≠ gh := fun e => HC.out.1.r_foot (.inl (by rw [HC.out.2.2.2.2.1, e]; rfl))
 have hzf : Foot xC.L gz := ⟨(xC.vz, xC.sz), by simp [Rv.L], by rw [HC.out.2.2.2.2.2.2.2.2.2]; rfl⟩
 have hzg : gz ≠ gh := fun e => HC.out.1.heap_list (b := gh) (by rw [HC.out.2.2.2.2.1]; rfl) (by rw [← e]; exact hzf)
 have hzr : gz ≠ r := fun e => HC.out.1.r_foot (.inr (by rw [← e]; exact hzf))
 have l0 := sg_cell g0 HW.out.1
 have l1 := sg_cell g1 HW.out.1
 have l2 := sg_cell g2 HW.out.1
 have l3 := sg_cell g3 HW.out.1
 have HG : Hid _ := And.intro (And.intro l1 (And.intro l0 l3)) (And.intro hrw (And.intro hbg (And.intro hrg (And.intro hzg hzr))))
 rw [HW.out.2.2.2.2.2.2.2] at l2
 clear l0 l1 l3 hrw hbg hrg hzf hzg hzr
 have HK : Hid _ := And.intro k1 (And.intro k0 k3)
 clear k0 k1 k3
 go_upto_region 5 with fail
 refine wp_region_held_drew (S := (fun w' => w'.cell? ⟨r, 4, none⟩ = some (.slice (some ⟨gz, oz, none⟩) nz cz) ∧ w'.cell? ⟨w.heap.size, 0, none⟩ = some (.int .i64 bl) ∧ w'.cell? ⟨gz, oz + bl, none⟩ = some (.int .i64 z))) (by kernel_rfl) ?_ (fun hHeld => ?_)
 ·exact ⟨g1, g0, g3⟩
 refine tk9 0 ?_ rfl (by kernel_rfl) (fun _ _ _ h => h) ⟨by rfl, ?_⟩ (by assumption) ?_; rotate_left; (focus (intro w hSw; (try dsimp only at hSw); go_simp; (try with_reducible rfl))); (try simp only [ty9, Act.put])
 refine tk9 1 ?_ rfl (by kernel_rfl) (fun _ _ _ h => h) ⟨by rfl, ?_⟩ (by assumption) ?_; rotate_left; (focus (intro w hSw; (try dsimp only at hSw); go_simp; (try with_reducible rfl))); (try simp only [ty9, Act.put])
 refine tk9 2 ?_ rfl (by kernel_rfl) (fun _ _ _ h => h) ⟨by rfl, ?_⟩ (by assumption) ?_; rotate_left; (focus (intro w hSw; (try dsimp only at hSw); go_simp; (try with_reducible rfl))); (try simp only [ty9, Act.put])
 refine tk9 3 ?_ rfl (by kernel_rfl) (fun _ _ _ h => h) ⟨by rfl, ?_⟩ (by assumption) ?_; rotate_left; (focus (intro w hSw; (try dsimp only at hSw); go_simp; (try with_reducible rfl))); (try simp only [ty9, Act.put])
 refine tk9 5 ?_ rfl (by kernel_rfl) (fun _ _ _ h => h) ⟨by rfl, ?_⟩ (by assumption) ?_; rotate_left; (focus (intro w hSw; (try dsimp only at hSw); go_simp; (try with_reducible rfl))); (try simp only [ty9, Act.put])
 refine tk9 7 ?_ rfl (by kernel_rfl) (fun _ _ _ h => h) ⟨by rfl, ?_⟩ (by assumption) ?_; rotate_left; (focus (intro w hSw; (try dsimp only at hSw); go_simp; (try with_reducible rfl))); (try simp only [ty9, Act.put])
 refine tk9 8 ?_ rfl (by kernel_rfl) (fun _ _ _ h => h) ⟨by rfl, ?_⟩ (by assumption) ?_; rotate_left; (focus (intro w hSw; (try dsimp only at hSw); go_simp; (try with_reducible rfl))); (try simp only [ty9, Act.put])
 refine tk9 9 ?_ rfl (by kernel_rfl) (fun _ _ _ h => h) ⟨by rfl, ?_⟩ (by assumption) ?_; rotate_left; (focus (intro w hSw; (try dsimp only at hSw); go_simp; (try with_reducible rfl))); (try simp only [ty9, Act.put])
 refine tk9 10 ?_ rfl (by kernel_rfl) (fun _ _ _ h => h) ⟨by rfl, ?_⟩ (by assumption) ?_; rotate_left; (focus (intro w hSw; (try dsimp only at hSw); go_simp; (try with_reducible rfl))); (try simp only [ty9, Act.put])
 refine tk9 11 ?_ rfl (by kernel_rfl) (fun _ _ _ h => h) ⟨by rfl, ?_⟩ (by assumption) ?_; rotate_left; (focus (intro w hSw; (try dsimp only at hSw); go_simp; (try with_reducible rfl))); (try simp only [ty9, Act.put])
 refine tk9 12 ?_ rfl (by kernel_rfl) (fun _ _ _ h => h) ⟨by rfl, ?_⟩ (by assumption) ?_; rotate_left; (focus (intro w hSw; (try dsimp only at hSw); go_simp; (try with_reducible rfl))); (try simp only [ty9, Act.put])
 refine tk9 13 ?_ rfl (by kernel_rfl) (fun _ _ _ h => h) ⟨by rfl, ?_⟩ (by assumption) ?_; rotate_left; (focus (intro w hSw; (try dsimp only at hSw); go_simp; (try with_reducible rfl))); (try simp only [ty9, Act.put])
 refine wpAnyH_ready (rs := [4, 6]) (by kernel_rfl) (by simp) ?_
 refine AllReadyH.cons (o := _) rfl (fun K hK => ?_) ?_
 ·(go_simp)
  (try go_wp2_with fail)
  refine hK.out _ _ ?_ (fun hHeld => ?_)
  ·exact hHeld
  clear hK K
  (try simp only [ty9, Act.put])
  refine wpAnyH_ready (rs := [6]) (by kernel_rfl) (by simp) ?_
  refine AllReadyH.cons (o := _) rfl (fun K hK => ?_) ?_
  ·(go_simp)
   (try go_wp2_with fail)
   refine hK.out _ _ ?_ (fun hHeld => ?_)
   ·exact HK.out
   clear hK K
   (try simp only [ty9, Act.put])
   refine tk9 14 ?_ rfl (by kernel_rfl) (fun _ _ _ h => h) ⟨by rfl, ?_⟩ (by assumption) ?_; rotate_left; (focus (intro w hSw; (try dsimp only at hSw); go_simp; (try with_reducible rfl))); (try simp only [ty9, Act.put])
   refine wpAnyH_ready (rs := [15]) (by kernel_rfl) (by simp) ?_
   refine AllReadyH.cons (o := _) rfl (fun K hK => ?_) ?_
   ·(go_simp)
    (try go_wp2_with fail)
    refine hK.out _ _ ?_ (fun hHeld => ?_)
    ·(have h9 := HG.out.1; rw [HW.out.2.2.2.2.2.2.2] at h9; exact h9)
    clear hK K
    (try simp only [ty9, Act.put])
    refine wpAnyH_ready (rs := [16]) (by kernel_rfl) (by simp) ?_
    refine AllReadyH.cons (o := _) rfl (fun K hK => ?_) ?_
    ·(rw [← HW.out.2.2.2.2.2.2.2]; refine step_append_lies _ (by rfl) _ _ _ (by rfl) B 149 i0 _ 2 32 Tryz.underlying91 hi0 hz0 hz1 hz2 rfl (Nat.succ_pos 1) (.slice (some ⟨gh, 0, none⟩) nk ch) nk (hpC xC.H xC.ks) (by rfl) HW.out.2.2.2.2.1 ⟨wC.heap.size + 1, 0, none⟩ 1 1 [.slice (some ⟨wC.heap.size, 0, none⟩) 1 1, .int .i64 z] (by rfl) (by rfl) (World.news_of_block HW.out.2.2.1) (by simp [Value.oneCell']) Nat.one_pos hml hby (by have := HW.out.2.1; have := HW.out.2.2.2.2.2.1; omega) (wC.heap.size + 2) HW.out.2.1 ?_; intro gg cap2 w3 hown3 hgrow hat hlt; have hk3 := Kept.of_grown hgrow; have hr3 : w3.heap[r]? = wC.heap[r]? := (hk3.block r (by have := t_lt HC.out.1.box; have := HW.out.2.1; omega) (fun e => HC.out.1.r_foot (.inl (by rw [HC.out.2.2.2.2.1]; exact e)))).trans HW.out.2.2.2.2.2.2.1; have hbx := hr3.trans HC.out.1.box; have bc := (seven_cells hbx).2.2.1; rw [HC.out.2.2.2.2.1] at bc; have bf := blk_free hbx 2; have HN : Hid _ := And.intro hown3 (And.intro hk3 (And.intro hat hlt)); clear hown3 hk3 hat hlt hbx hr3 hgrow)
     (try go_wp2_with fail)
     refine hK.out _ _ ?_ (fun hHeld => ?_)
     ·exact lift_kp HN.out.2.1 HG.out.2.2.2.1 HG.out.2.2.1 HG.out.2.2.2.2.1 HG.out.1
     clear hK K
     (try simp only [ty9, Act.put])
     refine tk9 17 ?_ rfl (by kernel_rfl) (fun _ _ _ h => h) ⟨by rfl, ?_⟩ (by assumption) ?_; rotate_left; (focus (intro w hSw; (try dsimp only at hSw); go_simp; (try with_reducible rfl))); (try simp only [ty9, Act.put])
     refine tk9 18 ?_ rfl (by kernel_rfl) (fun _ _ _ h => h) ⟨by rfl, ?_⟩ (by assumption) ?_; rotate_left; (focus (intro w hSw; (try dsimp only at hSw); go_simp; (try with_reducible rfl))); (try simp only [ty9, Act.put])
     refine wpAnyH_ready (rs := [19]) (by kernel_rfl) (by simp) ?_
     refine AllReadyH.cons (o := _) rfl (fun K hK => ?_) ?_
     ·(go_simp)
      (try go_wp2_with fail)
      refine hK.out _ _ ?_ (fun hHeld => ?_)
      ·exact lift_st HG.out.2.1 HG.out.2.2.2.2.2 hHeld
      clear hK K
      (try simp only [ty9, Act.put])
      refine wpAnyH_done (by kernel_rfl) ?_ _
      (try go_simp)
      obtain ⟨xD, hxD⟩ : ∃ xD : Rv, xD = { xC with vh := .slice (some ⟨gg, 0, none⟩) (nk + 1) cap2, H := xC.H ++ [(.slice (some ⟨wC.heap.size, 0, none⟩) 1 1, [(bl : Int)])], ks := xC.ks ++ [z] } := ⟨_, rfl⟩
      obtain ⟨wD, hwD⟩ : ∃ wD, wD = w3.setCell ⟨r, 2, none⟩ (.slice (some ⟨gg, 0, none⟩) (nk + 1) cap2) := ⟨_, rfl⟩
      rw [← hwD] at hHeld ⊢
      have hk3 : Kept (fun b => xC.vh.ownBlock = some b) W3 w3 := by rw [HC.out.2.2.2.2.1]; exact HN.out.2.1
      have hat3 : (Value.slice (some ⟨gg, 0, none⟩) (nk + 1) cap2).ownBlock = xC.vh.ownBlock ∨ ∀ b, (Value.slice (some ⟨gg, 0, none⟩) (nk + 1) cap2).ownBlock = some b → W3.heap.size ≤ b := by
       rw [HC.out.2.2.2.2.1]
       rcases HN.out.2.2.1 with e | e
       ·exact .inl e.symm
       ·exact .inr fun b e2 => by have e3 : gg = b := Option.some.inj e2; have := HW.out.2.1; omega
      have hf3 : ∀ b, (Value.slice (some ⟨wC.heap.size, 0, none⟩) 1 1).ownBlock = some b → wC.heap.size ≤ b := fun b e => by cases e; exact Nat.le_refl _
      have hMD : RnM wD B r g p mb xD := by rw [hwD, hxD]; exact HC.out.1.snocHeap HW.out.1 (Que.one HW.out.2.2.2.2.2.1 HW.out.2.2.2.1) hf3 hk3 (by rw [HC.out.2.2.2.1]; exact HN.out.1) hat3 (at0_of _ _ _)
      have hGD : Grew w wD r x xD := HC.out.2.1.trans (by rw [hwD, hxD]; exact grew_snoc HW.out.1 hf3 hk3 hat3)
      have hvoD : xD.vo = .slice (some ⟨go, oo, none⟩) no co := by rw [hxD]; exact HC.out.2.2.2.2.2.1
      have howD : xD.ow = x.ow := by rw [hxD]; exact HC.out.2.2.2.2.2.2.1
      have j0 := hHeld.2.1
      have j1 := (seven_cells hMD.box).2.2.2.1
      rw [hvoD] at j1
      obtain ⟨j2, j3⟩ := Que.cellAt (w := wD) (B := B) (g := go) (off := oo) (n := no) (cap := co) (by have h9 := hMD.q.q 0 (xD.vo, xD.ow) rfl; rw [hvoD] at h9; exact h9) (show xD.ow[bl]? = some (o : Int) by rw [howD]; exact H0.out.1)
      have HE : Hid _ := And.intro hMD (And.intro hGD (And.intro hvoD (And.intro howD hxD)))
      clear hHeld hMD hGD hvoD howD hxD hk3 hat3 hf3 hwD bc bf
      go_upto_region 6 with fail
      go_region
      go_wp2_with fail
      go_ret2
      have hg9 := And.intro HC.out.2.2.1 HB.out.2.2.1
      refine ⟨rfl, { xD with ow := xD.ow.set bl (nk : Int) }, (HE.out.1.setOw HE.out.2.2.1 (by rw [HE.out.2.2.2.1, ← H.out.2.2.2.2.2.2.1]; exact hol) _).below ((Below.refl _ _).drew), ?_, ?_, ?_, ?_, ?_, HE.out.2.1.trans ⟨((Kept.setCell wD go _ _).mono fun b _ e => .inr (.inr ⟨(xD.vo, xD.ow), by simp [Rv.L], by simp only; rw [HE.out.2.2.1, e]; rfl⟩)).trans (Kept.of_below ((Below.refl _ _).drew)), fun b hb => foot_app (x := xD) (k := 0) (v' := xD.vo) (zs' := xD.ow.set bl (nk : Int)) rfl (.inl rfl) hb⟩⟩
      ·show xD.ow.set bl (nk : Int) = _; rw [HE.out.2.2.2.1, H.out.2.2.2.2.2.2.2.1]
      ·show xD.sz = _; rw [HE.out.2.2.2.2]; exact HC.out.2.2.2.2.2.2.2.2.1
      ·show xD.wt = _; rw [HE.out.2.2.2.2]; show xC.wt = _; rw [hg9.1, hg9.2]
      ·show xD.ks = _; rw [HE.out.2.2.2.2]; show xC.ks ++ [z] = _; rw [hg9.1, hg9.2]
      ·show xD.H.map (·.2) = _; rw [HE.out.2.2.2.2]; show (xC.H ++ _).map (·.2) = _; rw [hg9.1, hg9.2, List.map_append, List.map_set]; rfl
     exact AllReadyH.nil
    exact AllReadyH.nil
   exact AllReadyH.nil
  exact AllReadyH.nil
 refine AllReadyH.cons (o := _) rfl (fun K hK => ?_) ?_
 ·(go_simp)
  (try go_wp2_with fail)
  refine hK.out _ _ ?_ (fun hHeld => ?_)
  ·exact HK.out
  clear hK K
  (try simp only [ty9, Act.put])
  refine tk9 14 ?_ rfl (by kernel_rfl) (fun _ _ _ h => h) ⟨by rfl, ?_⟩ (by assumption) ?_; rotate_left; (focus (intro w hSw; (try dsimp only at hSw); go_simp; (try with_reducible rfl))); (try simp only [ty9, Act.put])
  refine wpAnyH_ready (rs := [4, 15]) (by kernel_rfl) (by simp) ?_
  refine AllReadyH.cons (o := _) rfl (fun K hK => ?_) ?_
  ·(go_simp)
   (try go_wp2_with fail)
   refine hK.out _ _ ?_ (fun hHeld => ?_)
   ·exact hHeld
   clear hK K
   (try simp only [ty9, Act.put])
   refine wpAnyH_ready (rs := [15]) (by kernel_rfl) (by simp) ?_
   refine AllReadyH.cons (o := _) rfl (fun K hK => ?_) ?_
   ·(go_simp)
    (try go_wp2_with fail)
    refine hK.out _ _ ?_ (fun hHeld => ?_)
    ·(have h9 := HG.out.1; rw [HW.out.2.2.2.2.2.2.2] at h9; exact h9)
    clear hK K
    (try simp only [ty9, Act.put])
    refine wpAnyH_ready (rs := [16]) (by kernel_rfl) (by simp) ?_
    refine AllReadyH.cons (o := _) rfl (fun K hK => ?_) ?_
    ·(rw [← HW.out.2.2.2.2.2.2.2]; refine step_append_lies _ (by rfl) _ _ _ (by rfl) B 149 i0 _ 2 32 Tryz.underlying91 hi0 hz0 hz1 hz2 rfl (Nat.succ_pos 1) (.slice (some ⟨gh, 0, none⟩) nk ch) nk (hpC xC.H xC.ks) (by rfl) HW.out.2.2.2.2.1 ⟨wC.heap.size + 1, 0, none⟩ 1 1 [.slice (some ⟨wC.heap.size, 0, none⟩) 1 1, .int .i64 z] (by rfl) (by rfl) (World.news_of_block HW.out.2.2.1) (by simp [Value.oneCell']) Nat.one_pos hml hby (by have := HW.out.2.1; have := HW.out.2.2.2.2.2.1; omega) (wC.heap.size + 2) HW.out.2.1 ?_; intro gg cap2 w3 hown3 hgrow hat hlt; have hk3 := Kept.of_grown hgrow; have hr3 : w3.heap[r]? = wC.heap[r]? := (hk3.block r (by have := t_lt HC.out.1.box; have := HW.out.2.1; omega) (fun e => HC.out.1.r_foot (.inl (by rw [HC.out.2.2.2.2.1]; exact e)))).trans HW.out.2.2.2.2.2.2.1; have hbx := hr3.trans HC.out.1.box; have bc := (seven_cells hbx).2.2.1; rw [HC.out.2.2.2.2.1] at bc; have bf := blk_free hbx 2; have HN : Hid _ := And.intro hown3 (And.intro hk3 (And.intro hat hlt)); clear hown3 hk3 hat hlt hbx hr3 hgrow)
     (try go_wp2_with fail)
     refine hK.out _ _ ?_ (fun hHeld => ?_)
     ·exact lift_kp HN.out.2.1 HG.out.2.2.2.1 HG.out.2.2.1 HG.out.2.2.2.2.1 HG.out.1
     clear hK K
     (try simp only [ty9, Act.put])
     refine tk9 17 ?_ rfl (by kernel_rfl) (fun _ _ _ h => h) ⟨by rfl, ?_⟩ (by assumption) ?_; rotate_left; (focus (intro w hSw; (try dsimp only at hSw); go_simp; (try with_reducible rfl))); (try simp only [ty9, Act.put])
     refine tk9 18 ?_ rfl (by kernel_rfl) (fun _ _ _ h => h) ⟨by rfl, ?_⟩ (by assumption) ?_; rotate_left; (focus (intro w hSw; (try dsimp only at hSw); go_simp; (try with_reducible rfl))); (try simp only [ty9, Act.put])
     refine wpAnyH_ready (rs := [19]) (by kernel_rfl) (by simp) ?_
     refine AllReadyH.cons (o := _) rfl (fun K hK => ?_) ?_
     ·(go_simp)
      (try go_wp2_with fail)
      refine hK.out _ _ ?_ (fun hHeld => ?_)
      ·exact lift_st HG.out.2.1 HG.out.2.2.2.2.2 hHeld
      clear hK K
      (try simp only [ty9, Act.put])
      refine wpAnyH_done (by kernel_rfl) ?_ _
      (try go_simp)
      obtain ⟨xD, hxD⟩ : ∃ xD : Rv, xD = { xC with vh := .slice (some ⟨gg, 0, none⟩) (nk + 1) cap2, H := xC.H ++ [(.slice (some ⟨wC.heap.size, 0, none⟩) 1 1, [(bl : Int)])], ks := xC.ks ++ [z] } := ⟨_, rfl⟩
      obtain ⟨wD, hwD⟩ : ∃ wD, wD = w3.setCell ⟨r, 2, none⟩ (.slice (some ⟨gg, 0, none⟩) (nk + 1) cap2) := ⟨_, rfl⟩
      rw [← hwD] at hHeld ⊢
      have hk3 : Kept (fun b => xC.vh.ownBlock = some b) W3 w3 := by rw [HC.out.2.2.2.2.1]; exact HN.out.2.1
      have hat3 : (Value.slice (some ⟨gg, 0, none⟩) (nk + 1) cap2).ownBlock = xC.vh.ownBlock ∨ ∀ b, (Value.slice (some ⟨gg, 0, none⟩) (nk + 1) cap2).ownBlock = some b → W3.heap.size ≤ b := by
       rw [HC.out.2.2.2.2.1]
       rcases HN.out.2.2.1 with e | e
       ·exact .inl e.symm
       ·exact .inr fun b e2 => by have e3 : gg = b := Option.some.inj e2; have := HW.out.2.1; omega
      have hf3 : ∀ b, (Value.slice (some ⟨wC.heap.size, 0, none⟩) 1 1).ownBlock = some b → wC.heap.size ≤ b := fun b e => by cases e; exact Nat.le_refl _
      have hMD : RnM wD B r g p mb xD := by rw [hwD, hxD]; exact HC.out.1.snocHeap HW.out.1 (Que.one HW.out.2.2.2.2.2.1 HW.out.2.2.2.1) hf3 hk3 (by rw [HC.out.2.2.2.1]; exact HN.out.1) hat3 (at0_of _ _ _)
      have hGD : Grew w wD r x xD := HC.out.2.1.trans (by rw [hwD, hxD]; exact grew_snoc HW.out.1 hf3 hk3 hat3)
      have hvoD : xD.vo = .slice (some ⟨go, oo, none⟩) no co := by rw [hxD]; exact HC.out.2.2.2.2.2.1
      have howD : xD.ow = x.ow := by rw [hxD]; exact HC.out.2.2.2.2.2.2.1
      have j0 := hHeld.2.1
      have j1 := (seven_cells hMD.box).2.2.2.1
      rw [hvoD] at j1
      obtain ⟨j2, j3⟩ := Que.cellAt (w := wD) (B := B) (g := go) (off := oo) (n := no) (cap := co) (by have h9 := hMD.q.q 0 (xD.vo, xD.ow) rfl; rw [hvoD] at h9; exact h9) (show xD.ow[bl]? = some (o : Int) by rw [howD]; exact H0.out.1)
      have HE : Hid _ := And.intro hMD (And.intro hGD (And.intro hvoD (And.intro howD hxD)))
      clear hHeld hMD hGD hvoD howD hxD hk3 hat3 hf3 hwD bc bf
      go_upto_region 6 with fail
      go_region
      go_wp2_with fail
      go_ret2
      have hg9 := And.intro HC.out.2.2.1 HB.out.2.2.1
      refine ⟨rfl, { xD with ow := xD.ow.set bl (nk : Int) }, (HE.out.1.setOw HE.out.2.2.1 (by rw [HE.out.2.2.2.1, ← H.out.2.2.2.2.2.2.1]; exact hol) _).below ((Below.refl _ _).drew), ?_, ?_, ?_, ?_, ?_, HE.out.2.1.trans ⟨((Kept.setCell wD go _ _).mono fun b _ e => .inr (.inr ⟨(xD.vo, xD.ow), by simp [Rv.L], by simp only; rw [HE.out.2.2.1, e]; rfl⟩)).trans (Kept.of_below ((Below.refl _ _).drew)), fun b hb => foot_app (x := xD) (k := 0) (v' := xD.vo) (zs' := xD.ow.set bl (nk : Int)) rfl (.inl rfl) hb⟩⟩
      ·show xD.ow.set bl (nk : Int) = _; rw [HE.out.2.2.2.1, H.out.2.2.2.2.2.2.2.1]
      ·show xD.sz = _; rw [HE.out.2.2.2.2]; exact HC.out.2.2.2.2.2.2.2.2.1
      ·show xD.wt = _; rw [HE.out.2.2.2.2]; show xC.wt = _; rw [hg9.1, hg9.2]
      ·show xD.ks = _; rw [HE.out.2.2.2.2]; show xC.ks ++ [z] = _; rw [hg9.1, hg9.2]
      ·show xD.H.map (·.2) = _; rw [HE.out.2.2.2.2]; show (xC.H ++ _).map (·.2) = _; rw [hg9.1, hg9.2, List.map_append, List.map_set]; rfl
     exact AllReadyH.nil
    exact AllReadyH.nil
   exact AllReadyH.nil
  refine AllReadyH.cons (o := _) rfl (fun K hK => ?_) ?_
  ·(go_simp)
   (try go_wp2_with fail)
   refine hK.out _ _ ?_ (fun hHeld => ?_)
   ·(have h9 := HG.out.1; rw [HW.out.2.2.2.2.2.2.2] at h9; exact h9)
   clear hK K
   (try simp only [ty9, Act.put])
   refine wpAnyH_ready (rs := [4]) (by kernel_rfl) (by simp) ?_
   refine AllReadyH.cons (o := _) rfl (fun K hK => ?_) ?_
   ·(go_simp)
    (try go_wp2_with fail)
    refine hK.out _ _ ?_ (fun hHeld => ?_)
    ·exact hHeld
    clear hK K
    (try simp only [ty9, Act.put])
    refine wpAnyH_ready (rs := [16]) (by kernel_rfl) (by simp) ?_
    refine AllReadyH.cons (o := _) rfl (fun K hK => ?_) ?_
    ·(rw [← HW.out.2.2.2.2.2.2.2]; refine step_append_lies _ (by rfl) _ _ _ (by rfl) B 149 i0 _ 2 32 Tryz.underlying91 hi0 hz0 hz1 hz2 rfl (Nat.succ_pos 1) (.slice (some ⟨gh, 0, none⟩) nk ch) nk (hpC xC.H xC.ks) (by rfl) HW.out.2.2.2.2.1 ⟨wC.heap.size + 1, 0, none⟩ 1 1 [.slice (some ⟨wC.heap.size, 0, none⟩) 1 1, .int .i64 z] (by rfl) (by rfl) (World.news_of_block HW.out.2.2.1) (by simp [Value.oneCell']) Nat.one_pos hml hby (by have := HW.out.2.1; have := HW.out.2.2.2.2.2.1; omega) (wC.heap.size + 2) HW.out.2.1 ?_; intro gg cap2 w3 hown3 hgrow hat hlt; have hk3 := Kept.of_grown hgrow; have hr3 : w3.heap[r]? = wC.heap[r]? := (hk3.block r (by have := t_lt HC.out.1.box; have := HW.out.2.1; omega) (fun e => HC.out.1.r_foot (.inl (by rw [HC.out.2.2.2.2.1]; exact e)))).trans HW.out.2.2.2.2.2.2.1; have hbx := hr3.trans HC.out.1.box; have bc := (seven_cells hbx).2.2.1; rw [HC.out.2.2.2.2.1] at bc; have bf := blk_free hbx 2; have HN : Hid _ := And.intro hown3 (And.intro hk3 (And.intro hat hlt)); clear hown3 hk3 hat hlt hbx hr3 hgrow)
     (try go_wp2_with fail)
     refine hK.out _ _ ?_ (fun hHeld => ?_)
     ·exact lift_kp HN.out.2.1 HG.out.2.2.2.1 HG.out.2.2.1 HG.out.2.2.2.2.1 HG.out.1
     clear hK K
     (try simp only [ty9, Act.put])
     refine tk9 17 ?_ rfl (by kernel_rfl) (fun _ _ _ h => h) ⟨by rfl, ?_⟩ (by assumption) ?_; rotate_left; (focus (intro w hSw; (try dsimp only at hSw); go_simp; (try with_reducible rfl))); (try simp only [ty9, Act.put])
     refine tk9 18 ?_ rfl (by kernel_rfl) (fun _ _ _ h => h) ⟨by rfl, ?_⟩ (by assumption) ?_; rotate_left; (focus (intro w hSw; (try dsimp only at hSw); go_simp; (try with_reducible rfl))); (try simp only [ty9, Act.put])
     refine wpAnyH_ready (rs := [19]) (by kernel_rfl) (by simp) ?_
     refine AllReadyH.cons (o := _) rfl (fun K hK => ?_) ?_
     ·(go_simp)
      (try go_wp2_with fail)
      refine hK.out _ _ ?_ (fun hHeld => ?_)
      ·exact lift_st HG.out.2.1 HG.out.2.2.2.2.2 hHeld
      clear hK K
      (try simp only [ty9, Act.put])
      refine wpAnyH_done (by kernel_rfl) ?_ _
      (try go_simp)
      obtain ⟨xD, hxD⟩ : ∃ xD : Rv, xD = { xC with vh := .slice (some ⟨gg, 0, none⟩) (nk + 1) cap2, H := xC.H ++ [(.slice (some ⟨wC.heap.size, 0, none⟩) 1 1, [(bl : Int)])], ks := xC.ks ++ [z] } := ⟨_, rfl⟩
      obtain ⟨wD, hwD⟩ : ∃ wD, wD = w3.setCell ⟨r, 2, none⟩ (.slice (some ⟨gg, 0, none⟩) (nk + 1) cap2) := ⟨_, rfl⟩
      rw [← hwD] at hHeld ⊢
      have hk3 : Kept (fun b => xC.vh.ownBlock = some b) W3 w3 := by rw [HC.out.2.2.2.2.1]; exact HN.out.2.1
      have hat3 : (Value.slice (some ⟨gg, 0, none⟩) (nk + 1) cap2).ownBlock = xC.vh.ownBlock ∨ ∀ b, (Value.slice (some ⟨gg, 0, none⟩) (nk + 1) cap2).ownBlock = some b → W3.heap.size ≤ b := by
       rw [HC.out.2.2.2.2.1]
       rcases HN.out.2.2.1 with e | e
       ·exact .inl e.symm
       ·exact .inr fun b e2 => by have e3 : gg = b := Option.some.inj e2; have := HW.out.2.1; omega
      have hf3 : ∀ b, (Value.slice (some ⟨wC.heap.size, 0, none⟩) 1 1).ownBlock = some b → wC.heap.size ≤ b := fun b e => by cases e; exact Nat.le_refl _
      have hMD : RnM wD B r g p mb xD := by rw [hwD, hxD]; exact HC.out.1.snocHeap HW.out.1 (Que.one HW.out.2.2.2.2.2.1 HW.out.2.2.2.1) hf3 hk3 (by rw [HC.out.2.2.2.1]; exact HN.out.1) hat3 (at0_of _ _ _)
      have hGD : Grew w wD r x xD := HC.out.2.1.trans (by rw [hwD, hxD]; exact grew_snoc HW.out.1 hf3 hk3 hat3)
      have hvoD : xD.vo = .slice (some ⟨go, oo, none⟩) no co := by rw [hxD]; exact HC.out.2.2.2.2.2.1
      have howD : xD.ow = x.ow := by rw [hxD]; exact HC.out.2.2.2.2.2.2.1
      have j0 := hHeld.2.1
      have j1 := (seven_cells hMD.box).2.2.2.1
      rw [hvoD] at j1
      obtain ⟨j2, j3⟩ := Que.cellAt (w := wD) (B := B) (g := go) (off := oo) (n := no) (cap := co) (by have h9 := hMD.q.q 0 (xD.vo, xD.ow) rfl; rw [hvoD] at h9; exact h9) (show xD.ow[bl]? = some (o : Int) by rw [howD]; exact H0.out.1)
      have HE : Hid _ := And.intro hMD (And.intro hGD (And.intro hvoD (And.intro howD hxD)))
      clear hHeld hMD hGD hvoD howD hxD hk3 hat3 hf3 hwD bc bf
      go_upto_region 6 with fail
      go_region
      go_wp2_with fail
      go_ret2
      have hg9 := And.intro HC.out.2.2.1 HB.out.2.2.1
      refine ⟨rfl, { xD with ow := xD.ow.set bl (nk : Int) }, (HE.out.1.setOw HE.out.2.2.1 (by rw [HE.out.2.2.2.1, ← H.out.2.2.2.2.2.2.1]; exact hol) _).below ((Below.refl _ _).drew), ?_, ?_, ?_, ?_, ?_, HE.out.2.1.trans ⟨((Kept.setCell wD go _ _).mono fun b _ e => .inr (.inr ⟨(xD.vo, xD.ow), by simp [Rv.L], by simp only; rw [HE.out.2.2.1, e]; rfl⟩)).trans (Kept.of_below ((Below.refl _ _).drew)), fun b hb => foot_app (x := xD) (k := 0) (v' := xD.vo) (zs' := xD.ow.set bl (nk : Int)) rfl (.inl rfl) hb⟩⟩
      ·show xD.ow.set bl (nk : Int) = _; rw [HE.out.2.2.2.1, H.out.2.2.2.2.2.2.2.1]
      ·show xD.sz = _; rw [HE.out.2.2.2.2]; exact HC.out.2.2.2.2.2.2.2.2.1
      ·show xD.wt = _; rw [HE.out.2.2.2.2]; show xC.wt = _; rw [hg9.1, hg9.2]
      ·show xD.ks = _; rw [HE.out.2.2.2.2]; show xC.ks ++ [z] = _; rw [hg9.1, hg9.2]
      ·show xD.H.map (·.2) = _; rw [HE.out.2.2.2.2]; show (xC.H ++ _).map (·.2) = _; rw [hg9.1, hg9.2, List.map_append, List.map_set]; rfl
     exact AllReadyH.nil
    exact AllReadyH.nil
   exact AllReadyH.nil
  exact AllReadyH.nil
 exact AllReadyH.nil
end Go.Proofs.YtkiapldehlnndaaGreatDoor
/- Rows of numbers, one for each of so many, that grow one by one. -/
namespace Go.Proofs.YtkiapldehlnndaaGreatDoor
open Go.RowKit Go.Maps
structure OutsI (w : World) (B : Nat) (us : List Value) (n : Nat) (f : Nat → List Int) : Prop where
 len : us.length = n
 row : ∀ i, i < n → ∃ u, us[i]? = some u ∧ OwnI w B u (f i)
 ap : ∀ (i j : Nat) (u x : Value) (b : Nat), us[i]? = some u → us[j]? = some x → i ≠ j → u.ownBlock = some b → x.ownBlock ≠ some b
theorem OutsI.below {w w' : World} {B : Nat} {us : List Value} {n : Nat} {f : Nat → List Int} (h : OutsI w B us n f) (hb : Below w.heap.size w w') : OutsI w' B us n f :=
 ⟨h.len, fun i hi => by obtain ⟨u, h1, h2⟩ := h.row i hi; exact ⟨u, h1, trow_at h2 fun b hb' => hb.block b (h2.lt b hb').2⟩, h.ap⟩
theorem outsI_new (w : World) (B n : Nat) : OutsI w B (List.replicate n (.slice none 0 0)) n fun _ => [] :=
 ⟨by simp, fun i hi => ⟨.slice none 0 0, by rw [List.getElem?_replicate, if_pos hi], World.ownsRow_nil _ _ _ _⟩, fun i j u x b h1 _ _ h3 => by
  rw [List.getElem?_replicate] at h1
  split at h1
  ·cases h1; cases h3
  ·cases h1⟩
theorem OutsI.set {w w' : World} {B : Nat} {us : List Value} {n : Nat} {f : Nat → List Int} (h : OutsI w B us n f) {i : Nat} {u u' : Value} {F : Nat → Prop} (hi : i < n) (hu : us[i]? = some u) (hk : Kept F w w') (hF : ∀ b, F b → u.ownBlock = some b ∨ ∀ (j : Nat) (x : Value), us[j]? = some x → x.ownBlock ≠ some b) {zs : List Int} (hO : OwnI w' B u' zs) (hat : u'.ownBlock = u.ownBlock ∨ ∀ b, u'.ownBlock = some b → w.heap.size ≤ b) :
 OutsI w' B (us.set i u') n (fun j => if j = i then zs else f j) := by
 refine ⟨by rw [List.length_set]; exact h.len, fun j hj => ?_, fun a c x y b hx hy hac hb => ?_⟩
 ·by_cases e : j = i
  ·subst e
   exact ⟨u', List.getElem?_set_self (by rw [h.len]; exact hj), by rw [if_pos rfl]; exact hO⟩
  ·obtain ⟨x, h1, h2⟩ := h.row j hj
   refine ⟨x, by rw [List.getElem?_set_ne (fun e' => e e'.symm)]; exact h1, ?_⟩
   rw [if_neg e]
   refine own_up h2 hk fun b hb hf => ?_
   rcases hF b hf with hf | hf
   ·exact h.ap j i x u b h1 hu e hb hf
   ·exact hf j x h1 hb
 ·have hold : ∀ (j : Nat) (z : Value), us[j]? = some z → j ≠ i → ∀ b, z.ownBlock = some b → u'.ownBlock ≠ some b := fun j z hz hj b hzb e => by
   rcases hat with h1 | h1
   ·rw [h1] at e; exact h.ap j i z u b hz hu hj hzb e
   ·have h2 := h1 b e
    obtain ⟨z', h3, h4⟩ := h.row j (by have := (List.getElem?_eq_some_iff.1 hz).1; rw [h.len] at this; exact this)
    rw [hz] at h3; cases h3
    have := (h4.lt b hzb).2
    omega
  by_cases ea : a = i
  ·subst ea
   rw [List.getElem?_set_self (by rw [h.len]; exact hi)] at hx
   cases hx
   rw [List.getElem?_set_ne hac] at hy
   exact fun e => hold c y hy (fun e' => hac e'.symm) b e hb
  ·rw [List.getElem?_set_ne (fun e' => ea e'.symm)] at hx
   by_cases ec : c = i
   ·subst ec
    rw [List.getElem?_set_self (by rw [h.len]; exact hi)] at hy
    cases hy
    exact hold a x hx ea b hb
   ·rw [List.getElem?_set_ne (fun e' => ec e'.symm)] at hy
    exact h.ap a c x y b hx hy hac hb
theorem OutsI.congr {w : World} {B : Nat} {us : List Value} {n : Nat} {f g : Nat → List Int} (h : OutsI w B us n f) (hfg : ∀ i, i < n → f i = g i) : OutsI w B us n g :=
 ⟨h.len, fun i hi => by rw [← hfg i hi]; exact h.row i hi, h.ap⟩
theorem OutsI.kept {w w' : World} {B : Nat} {us : List Value} {n : Nat} {f : Nat → List Int} {F : Nat → Prop} (h : OutsI w B us n f) (hk : Kept F w w') (hF : ∀ (j : Nat) (x : Value), us[j]? = some x → ∀ b, x.ownBlock = some b → ¬ F b) : OutsI w' B us n f :=
 ⟨h.len, fun i hi => by obtain ⟨u, h1, h2⟩ := h.row i hi; exact ⟨u, h1, own_up h2 hk fun b hb => hF i u h1 b hb⟩, h.ap⟩
theorem OutsI.base {w : World} {B B' : Nat} {us : List Value} {n : Nat} {f : Nat → List Int} (h : OutsI w B us n f) (hb : B' ≤ B) : OutsI w B' us n f :=
 ⟨h.len, fun i hi => by obtain ⟨u, h1, h2⟩ := h.row i hi; exact ⟨u, h1, row_base h2 hb⟩, h.ap⟩
end Go.Proofs.YtkiapldehlnndaaGreatDoor
/- Plain facts on rows of edges in order: how many come ahead of a row, and where a row stands. -/
namespace Go.Proofs.YtkiapldehlnndaaGreatDoor.Sy
def cnt (l : List Ed) (r : Int) : Nat := (l.filter fun e => decide (e.1 < r)).length
def Rows (l : List Ed) : Prop := l.Pairwise fun a b => a.1 ≤ b.1
theorem cnt_le (l : List Ed) (r : Int) : cnt l r ≤ l.length := List.length_filter_le _ _
theorem cnt_all {l : List Ed} {r : Int} (h : ∀ e ∈ l, e.1 < r) : cnt l r = l.length := by
 unfold cnt
 rw [List.filter_eq_self.2 fun e he => by simpa using h e he]
theorem cnt_none {l : List Ed} {r : Int} (h : ∀ e ∈ l, ¬ e.1 < r) : cnt l r = 0 := by
 unfold cnt
 rw [List.filter_eq_nil_iff.2 fun e he => by simpa using h e he]
 rfl
theorem cnt_cons (e : Ed) (l : List Ed) (r : Int) : cnt (e :: l) r = (if e.1 < r then 1 else 0) + cnt l r := by
 unfold cnt
 rw [List.filter_cons]
 by_cases h : e.1 < r
 ·simp [h]; omega
 ·simp [h]
theorem cnt_snoc (l : List Ed) (e : Ed) (r : Int) : cnt (l ++ [e]) r = cnt l r + if e.1 < r then 1 else 0 := by
 unfold cnt
 rw [List.filter_append, List.length_append]
 by_cases h : e.1 < r <;> simp [h]
theorem cnt_mono (l : List Ed) (r : Int) : cnt l r ≤ cnt l (r + 1) := by
 induction l with
 | nil => simp [cnt]
 | cons e t ih =>
   rw [cnt_cons, cnt_cons]
   by_cases h : e.1 < r
   ·have h2 : e.1 < r + 1 := by omega
    simp [h, h2]; exact ih
   ·by_cases h2 : e.1 < r + 1 <;> simp [h, h2] <;> omega
theorem row_piece {l : List Ed} (h : Rows l) (i : Int) : l.filter (fun e => e.1 == i) = (l.drop (cnt l i)).take (cnt l (i + 1) - cnt l i) := by
 induction l with
 | nil => simp
 | cons e r ih =>
   obtain ⟨h1, h2⟩ := List.pairwise_cons.1 h
   have ih := ih h2
   rw [cnt_cons, cnt_cons]
   by_cases c1 : e.1 < i
   ·have c2 : e.1 < i + 1 := by omega
    have c3 : (e.1 == i) = false := by simp; omega
    rw [List.filter_cons, c3, if_pos c1, if_pos c2, Nat.add_comm 1 (cnt r i), List.drop_succ_cons]
    have e1 : 1 + cnt r (i + 1) - (cnt r i + 1) = cnt r (i + 1) - cnt r i := by omega
    rw [e1]
    simpa using ih
   ·have hz : cnt r i = 0 := cnt_none fun x hx => by have := h1 x hx; omega
    by_cases c2 : e.1 = i
    ·have c3 : (e.1 == i) = true := by simp [c2]
     have c4 : e.1 < i + 1 := by omega
     rw [List.filter_cons, c3, if_neg c1, if_pos c4, hz]
     rw [hz] at ih
     simp only [List.drop_zero, Nat.sub_zero, if_true] at ih ⊢
     rw [ih, Nat.add_comm 1]
     simp
    ·have c3 : (e.1 == i) = false := by simpa using c2
     have c4 : ¬ e.1 < i + 1 := by omega
     have hz2 : cnt r (i + 1) = 0 := cnt_none fun x hx => by have := h1 x hx; omega
     rw [List.filter_cons, c3, if_neg c1, if_neg c4, hz, hz2]
     rw [hz, hz2] at ih
     simpa using ih
def lastOf (l : List Ed) (r : Int) : Nat := (l.foldl (fun (p : Nat × Nat) e => (p.1 + 1, if e.1 = r then p.1 + 1 else p.2)) (0, 0)).2
theorem last_fst (r : Int) (l : List Ed) : ∀ p : Nat × Nat, (l.foldl (fun (p : Nat × Nat) (e : Ed) => (p.1 + 1, if e.1 = r then p.1 + 1 else p.2)) p).1 = p.1 + l.length := by
 induction l with
 | nil => intro p; rfl
 | cons e t ih => intro p; rw [List.foldl_cons, ih]; simp; omega
theorem last_snoc (l : List Ed) (e : Ed) (r : Int) : lastOf (l ++ [e]) r = if e.1 = r then l.length + 1 else lastOf l r := by
 unfold lastOf
 rw [List.foldl_append]
 simp only [List.foldl_cons, List.foldl_nil, last_fst, Nat.zero_add]
theorem last_none {l : List Ed} {r : Int} (h : ∀ e ∈ l, e.1 ≠ r) : ∀ i, i ≤ l.length → lastOf (l.take i) r = 0 := by
 intro i
 induction i with
 | zero => intro _; rfl
 | succ i ih =>
   intro hi
   obtain ⟨x, hx⟩ : ∃ x, l[i]? = some x := ⟨l[i], List.getElem?_eq_getElem _⟩
   rw [take_succ_of hx, last_snoc, if_neg (h x (List.mem_of_getElem? hx))]
   exact ih (by omega)
theorem rows_take {l : List Ed} (h : Rows l) {i : Nat} {x : Ed} (hx : l[i]? = some x) : ∀ e ∈ l.take i, e.1 ≤ x.1 := fun e he => by
 obtain ⟨j, hj, rfl⟩ := List.mem_take_iff_getElem.1 he
 obtain ⟨hi, rfl⟩ := List.getElem?_eq_some_iff.1 hx
 exact List.pairwise_iff_getElem.1 h j i (by omega) hi (by omega)
theorem cnt_last {l : List Ed} (h : Rows l) (r : Int) : ∀ i, i ≤ l.length → cnt (l.take i) (r + 1) = max (lastOf (l.take i) r) (cnt (l.take i) r) := by
 intro i
 induction i with
 | zero => intro _; simp [cnt, lastOf]
 | succ i ih =>
   intro hi
   obtain ⟨x, hx⟩ : ∃ x, l[i]? = some x := ⟨l[i], List.getElem?_eq_getElem _⟩
   have hle := rows_take h hx
   have hlen : (l.take i).length = i := by rw [List.length_take]; omega
   rw [take_succ_of hx, cnt_snoc, cnt_snoc, last_snoc, hlen]
   by_cases c1 : x.1 = r
   ·have e1 : cnt (l.take i) (r + 1) = i := by rw [cnt_all fun e he => by have := hle e he; omega]; exact hlen
    have e2 := cnt_le (l.take i) r
    rw [hlen] at e2
    rw [e1, if_pos (by omega), if_pos c1, if_neg (by omega)]
    omega
   ·by_cases c2 : x.1 < r
    ·have e1 : cnt (l.take i) (r + 1) = i := by rw [cnt_all fun e he => by have := hle e he; omega]; exact hlen
     have e2 : cnt (l.take i) r = i := by rw [cnt_all fun e he => by have := hle e he; omega]; exact hlen
     have e3 := last_none (l := l.take i) (r := r) (fun e he => by have := hle e he; omega) i (by rw [hlen]; exact Nat.le_refl _)
     rw [List.take_take, Nat.min_self] at e3
     rw [e1, e2, e3, if_pos (by omega), if_neg c1, if_pos c2]
     omega
    ·rw [if_neg (by omega), if_neg c1, if_neg c2]
     exact ih (by omega)
def mixL (n : Nat) (l : List Ed) (st : Nat) : List Int := (List.range (n + 1)).map fun (r : Nat) => if r ≤ st then ((cnt l (r : Int) : Nat) : Int) else ((lastOf l ((r : Int) - 1) : Nat) : Int)
def bndL (n : Nat) (l : List Ed) : List Int := (List.range (n + 1)).map fun (r : Nat) => if r = 0 then 0 else ((lastOf l ((r : Int) - 1) : Nat) : Int)
def bounds (n : Nat) (l : List Ed) : List Int := (List.range (n + 1)).map fun (r : Nat) => ((cnt l (r : Int) : Nat) : Int)
theorem bnd_zero (n : Nat) : bndL n [] = List.replicate (n + 1) 0 := by
 unfold bndL
 rw [List.eq_replicate_iff]
 refine ⟨by simp, fun b hb => ?_⟩
 obtain ⟨r, _, rfl⟩ := List.mem_map.1 hb
 split <;> simp [lastOf]
theorem bnd_step {l : List Ed} {n i : Nat} {x : Ed} (hx : l[i]? = some x) {q : Nat} (hq : x.1 = (q : Int)) : (bndL n (l.take i)).set (q + 1) ((i : Int) + 1) = bndL n (l.take (i + 1)) := by
 have hlen : (l.take i).length = i := by rw [List.length_take]; have := (List.getElem?_eq_some_iff.1 hx).1; omega
 apply List.ext_getElem?
 intro r
 rw [List.getElem?_set]
 unfold bndL
 simp only [List.length_map, List.length_range, List.getElem?_map]
 by_cases hr : r < n + 1
 ·rw [List.getElem?_range hr, take_succ_of hx]
  simp only [Option.map_some, last_snoc, hlen, hq]
  by_cases e : q + 1 = r
  ·subst e
   rw [if_pos rfl, if_pos hr, if_neg (by omega), if_pos (by omega)]
   rfl
  ·rw [if_neg e]
   by_cases e0 : r = 0
   ·rw [if_pos e0, if_pos e0]
   ·rw [if_neg e0, if_neg e0, if_neg (by omega)]
 ·rw [List.getElem?_eq_none (by simp; omega)]
  by_cases e : q + 1 = r
  ·rw [if_pos e, if_neg (by omega)]; rfl
  ·rw [if_neg e]; rfl
theorem mix_zero {n : Nat} {l : List Ed} (h : ∀ e ∈ l, 0 ≤ e.1) : mixL n l 0 = bndL n l := by
 unfold mixL bndL
 apply List.map_congr_left
 intro r _
 by_cases e : r = 0
 ·subst e
  simp only [Nat.le_refl, if_true]
  rw [cnt_none fun x hx => by have := h x hx; omega]
  rfl
 ·rw [if_neg (by omega), if_neg e]
theorem mix_full (n : Nat) (l : List Ed) : mixL n l n = bounds n l := by
 unfold mixL bounds
 apply List.map_congr_left
 intro r hr
 have := List.mem_range.1 hr
 rw [if_pos (by omega)]
theorem mix_at {n st r : Nat} {l : List Ed} (hr : r ≤ n) : (mixL n l st)[r]? = some (if r ≤ st then ((cnt l (r : Int) : Nat) : Int) else ((lastOf l ((r : Int) - 1) : Nat) : Int)) := by
 unfold mixL
 rw [List.getElem?_map, List.getElem?_range (by omega)]
 rfl
theorem bounds_at {n r : Nat} {l : List Ed} (hr : r ≤ n) : (bounds n l)[r]? = some ((cnt l (r : Int) : Nat) : Int) := by
 unfold bounds
 rw [List.getElem?_map, List.getElem?_range (by omega)]
 rfl
theorem mix_step {n st : Nat} {l : List Ed} (h : Rows l) : (mixL n l st).set (st + 1) (((max (lastOf l (st : Int)) (cnt l (st : Int)) : Nat)) : Int) = mixL n l (st + 1) := by
 have hc := cnt_last h (st : Int) l.length (Nat.le_refl _)
 rw [List.take_length] at hc
 apply List.ext_getElem?
 intro r
 rw [List.getElem?_set]
 unfold mixL
 simp only [List.length_map, List.length_range, List.getElem?_map]
 by_cases hr : r < n + 1
 ·rw [List.getElem?_range hr]
  simp only [Option.map_some]
  by_cases e : st + 1 = r
  ·subst e
   rw [if_pos rfl, if_pos hr, if_pos (Nat.le_refl _), ← hc]
   rfl
  ·rw [if_neg e]
   by_cases e2 : r ≤ st
   ·rw [if_pos e2, if_pos (by omega)]
   ·rw [if_neg e2, if_neg (by omega)]
 ·rw [List.getElem?_eq_none (by simp; omega)]
  by_cases e : st + 1 = r
  ·rw [if_pos e, if_neg (by omega)]; rfl
  ·rw [if_neg e]; rfl
end Go.Proofs.YtkiapldehlnndaaGreatDoor.Sy
/- Contracts of the document's less and Sorted of edges. -/
namespace Go.Proofs.YtkiapldehlnndaaGreatDoor
open Go.RowKit Go.Maps
attribute [local go_sem ↓] Go.wp_at_zero Go.wp_at_succ
def edV (a : Sy.Ed) : Value := .agg #[.int .i64 a.1, .int .i64 a.2.1, .int .i64 a.2.2]
def HasE (w : World) (v : Value) (es : List Sy.Ed) : Prop := ∃ ao cap, v = .slice ao es.length cap ∧ es.length ≤ cap ∧ BEdges.Has w v es
theorem HasE.below {w w' : World} {v : Value} {es : List Sy.Ed} (h : HasE w v es) (hb : Below w.heap.size w w') : HasE w' v es := by
 obtain ⟨ao, cap, h1, h2, h3⟩ := h
 exact ⟨ao, cap, h1, h2, h3.below hb⟩
end Go.Proofs.YtkiapldehlnndaaGreatDoor
/- Contract of the document's Sorted of edges. -/
namespace Go.Proofs.YtkiapldehlnndaaGreatDoor
open Go.RowKit Go.Maps
attribute [local go_sem ↓] Go.wp_at_zero Go.wp_at_succ
def SortedAt (w : World) (v : Value) (es : List Sy.Ed) : Prop := Calls Tryz.prog 151 #[v] w fun e w' => ∃ u, e = .returned u ∧ BEdges.Own w' w.heap.size u (Sy.nf es) ∧ Below w.heap.size w w'
end Go.Proofs.YtkiapldehlnndaaGreatDoor
/- Api's errors in memory, by their codes; api.Code at a chain of faults. (Written by mker.py.) -/
namespace Go.Proofs.YtkiapldehlnndaaGreatDoor
open Go.RowKit
structure Er (m : Nat) (w : World) (e : Nat → Addr) : Prop where
 s1 : 1 ≤ m → Sent w 2 (e 1)
 s2 : 2 ≤ m → Sent w 3 (e 2)
 s3 : 3 ≤ m → Sent w 4 (e 3)
 s4 : 4 ≤ m → Sent w 5 (e 4)
 s5 : 5 ≤ m → Sent w 6 (e 5)
 s6 : 6 ≤ m → Sent w 7 (e 6)
 s7 : 7 ≤ m → Sent w 8 (e 7)
 s8 : 8 ≤ m → Sent w 9 (e 8)
 s9 : 9 ≤ m → Sent w 10 (e 9)
 s10 : 10 ≤ m → Sent w 11 (e 10)
 s11 : 11 ≤ m → Sent w 12 (e 11)
 s12 : 12 ≤ m → Sent w 13 (e 12)
 s13 : 13 ≤ m → Sent w 14 (e 13)
 s14 : 14 ≤ m → Sent w 0 (e 14)
 s15 : 15 ≤ m → Sent w 1 (e 15)
 s16 : 16 ≤ m → Sent w 15 (e 16)
 s17 : 17 ≤ m → Sent w 16 (e 17)
 s18 : 18 ≤ m → Sent w 17 (e 18)
 s19 : 19 ≤ m → Sent w 18 (e 19)
 ne : ∀ i j, 1 ≤ i → i < j → j ≤ m → e j ≠ e i
theorem Er.below {m : Nat} {w w' : World} {e : Nat → Addr} (h : Er m w e) (hb : Below w.heap.size w w') : Er m w' e :=
 ⟨fun hm => (h.s1 hm).below hb, fun hm => (h.s2 hm).below hb, fun hm => (h.s3 hm).below hb, fun hm => (h.s4 hm).below hb, fun hm => (h.s5 hm).below hb, fun hm => (h.s6 hm).below hb, fun hm => (h.s7 hm).below hb, fun hm => (h.s8 hm).below hb, fun hm => (h.s9 hm).below hb, fun hm => (h.s10 hm).below hb, fun hm => (h.s11 hm).below hb, fun hm => (h.s12 hm).below hb, fun hm => (h.s13 hm).below hb, fun hm => (h.s14 hm).below hb, fun hm => (h.s15 hm).below hb, fun hm => (h.s16 hm).below hb, fun hm => (h.s17 hm).below hb, fun hm => (h.s18 hm).below hb, fun hm => (h.s19 hm).below hb, h.ne⟩
set_option maxHeartbeats 1000000 in
theorem rest_14 {m : Nat} (hm : 14 ≤ m) (v : Value) (ls : List ByteArray) (l c : Int) (e : Nat → Addr) (w : World) (hE : Er m w e) (hC : Chain w l c (e 14) ls v) :
 Calls Tryz.prog 107 #[v] w fun r w' => r = .returned (.int .i64 14) ∧ w' = w := by
 obtain ⟨g14, c14, t14, b14⟩ := hE.s14 (by omega)
 obtain ⟨g11, c11, t11, b11⟩ := hE.s11 (by omega)
 obtain ⟨g12, c12, t12, b12⟩ := hE.s12 (by omega)
 obtain ⟨g13, c13, t13, b13⟩ := hE.s13 (by omega)
 have I11 : Hid _ := is_chain v ls l c (e 14) (e 11) c14 c11 t14 t11 w hC b14 b11
 have d11 : decide (e 14 = e 11) = false := by simpa using hE.ne 11 14 (by decide) (by decide) (by omega)
 have I12 : Hid _ := is_chain v ls l c (e 14) (e 12) c14 c12 t14 t12 w hC b14 b12
 have d12 : decide (e 14 = e 12) = false := by simpa using hE.ne 12 14 (by decide) (by decide) (by omega)
 have I13 : Hid _ := is_chain v ls l c (e 14) (e 13) c14 c13 t14 t13 w hC b14 b13
 have d13 : decide (e 14 = e 13) = false := by simpa using hE.ne 13 14 (by decide) (by decide) (by omega)
 have I14 : Hid _ := is_chain v ls l c (e 14) (e 14) c14 c14 t14 t14 w hC b14 b14
 have d14 : decide (e 14 = e 14) = true := by simp
 obtain ⟨T, x, rfl⟩ := hC.iface
 clear hE hC b11 b12 b13 b14
 go_enter Tryz.func107, Tryz.ntmps107
 go_wp2_with fail
 refine Calls.mono I11.out ?_
 rintro r w' ⟨rfl, hw⟩; obtain rfl := hw.symm; clear hw
 rw [d11]
 go_wp2_with fail
 refine Calls.mono I12.out ?_
 rintro r w' ⟨rfl, hw⟩; obtain rfl := hw.symm; clear hw
 rw [d12]
 go_wp2_with fail
 refine Calls.mono I13.out ?_
 rintro r w' ⟨rfl, hw⟩; obtain rfl := hw.symm; clear hw
 rw [d13]
 go_wp2_with fail
 refine Calls.mono I14.out ?_
 rintro r w' ⟨rfl, hw⟩; obtain rfl := hw.symm; clear hw
 rw [d14]
 go_wp2_with fail
 go_ret
 exact ⟨rfl, rfl⟩
set_option maxHeartbeats 1000000 in
theorem rest_15 {m : Nat} (hm : 15 ≤ m) (v : Value) (ls : List ByteArray) (l c : Int) (e : Nat → Addr) (w : World) (hE : Er m w e) (hC : Chain w l c (e 15) ls v) :
 Calls Tryz.prog 107 #[v] w fun r w' => r = .returned (.int .i64 15) ∧ w' = w := by
 obtain ⟨g15, c15, t15, b15⟩ := hE.s15 (by omega)
 obtain ⟨g11, c11, t11, b11⟩ := hE.s11 (by omega)
 obtain ⟨g12, c12, t12, b12⟩ := hE.s12 (by omega)
 obtain ⟨g13, c13, t13, b13⟩ := hE.s13 (by omega)
 obtain ⟨g14, c14, t14, b14⟩ := hE.s14 (by omega)
 have I11 : Hid _ := is_chain v ls l c (e 15) (e 11) c15 c11 t15 t11 w hC b15 b11
 have d11 : decide (e 15 = e 11) = false := by simpa using hE.ne 11 15 (by decide) (by decide) (by omega)
 have I12 : Hid _ := is_chain v ls l c (e 15) (e 12) c15 c12 t15 t12 w hC b15 b12
 have d12 : decide (e 15 = e 12) = false := by simpa using hE.ne 12 15 (by decide) (by decide) (by omega)
 have I13 : Hid _ := is_chain v ls l c (e 15) (e 13) c15 c13 t15 t13 w hC b15 b13
 have d13 : decide (e 15 = e 13) = false := by simpa using hE.ne 13 15 (by decide) (by decide) (by omega)
 have I14 : Hid _ := is_chain v ls l c (e 15) (e 14) c15 c14 t15 t14 w hC b15 b14
 have d14 : decide (e 15 = e 14) = false := by simpa using hE.ne 14 15 (by decide) (by decide) (by omega)
 have I15 : Hid _ := is_chain v ls l c (e 15) (e 15) c15 c15 t15 t15 w hC b15 b15
 have d15 : decide (e 15 = e 15) = true := by simp
 obtain ⟨T, x, rfl⟩ := hC.iface
 clear hE hC b11 b12 b13 b14 b15
 go_enter Tryz.func107, Tryz.ntmps107
 go_wp2_with fail
 refine Calls.mono I11.out ?_
 rintro r w' ⟨rfl, hw⟩; obtain rfl := hw.symm; clear hw
 rw [d11]
 go_wp2_with fail
 refine Calls.mono I12.out ?_
 rintro r w' ⟨rfl, hw⟩; obtain rfl := hw.symm; clear hw
 rw [d12]
 go_wp2_with fail
 refine Calls.mono I13.out ?_
 rintro r w' ⟨rfl, hw⟩; obtain rfl := hw.symm; clear hw
 rw [d13]
 go_wp2_with fail
 refine Calls.mono I14.out ?_
 rintro r w' ⟨rfl, hw⟩; obtain rfl := hw.symm; clear hw
 rw [d14]
 go_wp2_with fail
 refine Calls.mono I15.out ?_
 rintro r w' ⟨rfl, hw⟩; obtain rfl := hw.symm; clear hw
 rw [d15]
 go_wp2_with fail
 go_ret
 exact ⟨rfl, rfl⟩
set_option maxHeartbeats 1000000 in
theorem code_14 {m : Nat} (hm : 14 ≤ m) (v : Value) (ls : List ByteArray) (l c : Int) (e : Nat → Addr) (w : World) (hE : Er m w e) (hC : Chain w l c (e 14) ls v) :
 Calls Tryz.prog 34 #[v] w fun r w' => r = .returned (.int .i64 14) ∧ w' = w := by
 obtain ⟨g14, c14, t14, b14⟩ := hE.s14 (by omega)
 obtain ⟨g1, c1, t1, b1⟩ := hE.s1 (by omega)
 obtain ⟨g2, c2, t2, b2⟩ := hE.s2 (by omega)
 obtain ⟨g3, c3, t3, b3⟩ := hE.s3 (by omega)
 obtain ⟨g4, c4, t4, b4⟩ := hE.s4 (by omega)
 obtain ⟨g5, c5, t5, b5⟩ := hE.s5 (by omega)
 obtain ⟨g6, c6, t6, b6⟩ := hE.s6 (by omega)
 obtain ⟨g7, c7, t7, b7⟩ := hE.s7 (by omega)
 obtain ⟨g8, c8, t8, b8⟩ := hE.s8 (by omega)
 obtain ⟨g9, c9, t9, b9⟩ := hE.s9 (by omega)
 obtain ⟨g10, c10, t10, b10⟩ := hE.s10 (by omega)
 have I1 : Hid _ := is_chain v ls l c (e 14) (e 1) c14 c1 t14 t1 w hC b14 b1
 have d1 : decide (e 14 = e 1) = false := by simpa using hE.ne 1 14 (by decide) (by decide) (by omega)
 have I2 : Hid _ := is_chain v ls l c (e 14) (e 2) c14 c2 t14 t2 w hC b14 b2
 have d2 : decide (e 14 = e 2) = false := by simpa using hE.ne 2 14 (by decide) (by decide) (by omega)
 have I3 : Hid _ := is_chain v ls l c (e 14) (e 3) c14 c3 t14 t3 w hC b14 b3
 have d3 : decide (e 14 = e 3) = false := by simpa using hE.ne 3 14 (by decide) (by decide) (by omega)
 have I4 : Hid _ := is_chain v ls l c (e 14) (e 4) c14 c4 t14 t4 w hC b14 b4
 have d4 : decide (e 14 = e 4) = false := by simpa using hE.ne 4 14 (by decide) (by decide) (by omega)
 have I5 : Hid _ := is_chain v ls l c (e 14) (e 5) c14 c5 t14 t5 w hC b14 b5
 have d5 : decide (e 14 = e 5) = false := by simpa using hE.ne 5 14 (by decide) (by decide) (by omega)
 have I6 : Hid _ := is_chain v ls l c (e 14) (e 6) c14 c6 t14 t6 w hC b14 b6
 have d6 : decide (e 14 = e 6) = false := by simpa using hE.ne 6 14 (by decide) (by decide) (by omega)
 have I7 : Hid _ := is_chain v ls l c (e 14) (e 7) c14 c7 t14 t7 w hC b14 b7
 have d7 : decide (e 14 = e 7) = false := by simpa using hE.ne 7 14 (by decide) (by decide) (by omega)
 have I8 : Hid _ := is_chain v ls l c (e 14) (e 8) c14 c8 t14 t8 w hC b14 b8
 have d8 : decide (e 14 = e 8) = false := by simpa using hE.ne 8 14 (by decide) (by decide) (by omega)
 have I9 : Hid _ := is_chain v ls l c (e 14) (e 9) c14 c9 t14 t9 w hC b14 b9
 have d9 : decide (e 14 = e 9) = false := by simpa using hE.ne 9 14 (by decide) (by decide) (by omega)
 have I10 : Hid _ := is_chain v ls l c (e 14) (e 10) c14 c10 t14 t10 w hC b14 b10
 have d10 : decide (e 14 = e 10) = false := by simpa using hE.ne 10 14 (by decide) (by decide) (by omega)
 have d14 : decide (e 14 = e 14) = true := by simp
 have IR : Hid _ := rest_14 (m := m) hm v ls l c e w hE hC
 obtain ⟨T, x, rfl⟩ := hC.iface
 clear hE hC b1 b2 b3 b4 b5 b6 b7 b8 b9 b10 b14
 go_enter Tryz.func34, Tryz.ntmps34
 go_wp2_with fail
 refine Calls.mono I1.out ?_
 rintro r w' ⟨rfl, hw⟩; obtain rfl := hw.symm; clear hw
 rw [d1]
 go_wp2_with fail
 refine Calls.mono I2.out ?_
 rintro r w' ⟨rfl, hw⟩; obtain rfl := hw.symm; clear hw
 rw [d2]
 go_wp2_with fail
 refine Calls.mono I3.out ?_
 rintro r w' ⟨rfl, hw⟩; obtain rfl := hw.symm; clear hw
 rw [d3]
 go_wp2_with fail
 refine Calls.mono I4.out ?_
 rintro r w' ⟨rfl, hw⟩; obtain rfl := hw.symm; clear hw
 rw [d4]
 go_wp2_with fail
 refine Calls.mono I5.out ?_
 rintro r w' ⟨rfl, hw⟩; obtain rfl := hw.symm; clear hw
 rw [d5]
 go_wp2_with fail
 refine Calls.mono I6.out ?_
 rintro r w' ⟨rfl, hw⟩; obtain rfl := hw.symm; clear hw
 rw [d6]
 go_wp2_with fail
 refine Calls.mono I7.out ?_
 rintro r w' ⟨rfl, hw⟩; obtain rfl := hw.symm; clear hw
 rw [d7]
 go_wp2_with fail
 refine Calls.mono I8.out ?_
 rintro r w' ⟨rfl, hw⟩; obtain rfl := hw.symm; clear hw
 rw [d8]
 go_wp2_with fail
 refine Calls.mono I9.out ?_
 rintro r w' ⟨rfl, hw⟩; obtain rfl := hw.symm; clear hw
 rw [d9]
 go_wp2_with fail
 refine Calls.mono I10.out ?_
 rintro r w' ⟨rfl, hw⟩; obtain rfl := hw.symm; clear hw
 rw [d10]
 go_wp2_with fail
 refine Calls.mono IR.out ?_
 rintro r w' ⟨rfl, hw⟩; obtain rfl := hw.symm; clear hw
 go_wp2_with fail
 go_ret
 exact ⟨rfl, rfl⟩
set_option maxHeartbeats 1000000 in
theorem code_15 {m : Nat} (hm : 15 ≤ m) (v : Value) (ls : List ByteArray) (l c : Int) (e : Nat → Addr) (w : World) (hE : Er m w e) (hC : Chain w l c (e 15) ls v) :
 Calls Tryz.prog 34 #[v] w fun r w' => r = .returned (.int .i64 15) ∧ w' = w := by
 obtain ⟨g15, c15, t15, b15⟩ := hE.s15 (by omega)
 obtain ⟨g1, c1, t1, b1⟩ := hE.s1 (by omega)
 obtain ⟨g2, c2, t2, b2⟩ := hE.s2 (by omega)
 obtain ⟨g3, c3, t3, b3⟩ := hE.s3 (by omega)
 obtain ⟨g4, c4, t4, b4⟩ := hE.s4 (by omega)
 obtain ⟨g5, c5, t5, b5⟩ := hE.s5 (by omega)
 obtain ⟨g6, c6, t6, b6⟩ := hE.s6 (by omega)
 obtain ⟨g7, c7, t7, b7⟩ := hE.s7 (by omega)
 obtain ⟨g8, c8, t8, b8⟩ := hE.s8 (by omega)
 obtain ⟨g9, c9, t9, b9⟩ := hE.s9 (by omega)
 obtain ⟨g10, c10, t10, b10⟩ := hE.s10 (by omega)
 have I1 : Hid _ := is_chain v ls l c (e 15) (e 1) c15 c1 t15 t1 w hC b15 b1
 have d1 : decide (e 15 = e 1) = false := by simpa using hE.ne 1 15 (by decide) (by decide) (by omega)
 have I2 : Hid _ := is_chain v ls l c (e 15) (e 2) c15 c2 t15 t2 w hC b15 b2
 have d2 : decide (e 15 = e 2) = false := by simpa using hE.ne 2 15 (by decide) (by decide) (by omega)
 have I3 : Hid _ := is_chain v ls l c (e 15) (e 3) c15 c3 t15 t3 w hC b15 b3
 have d3 : decide (e 15 = e 3) = false := by simpa using hE.ne 3 15 (by decide) (by decide) (by omega)
 have I4 : Hid _ := is_chain v ls l c (e 15) (e 4) c15 c4 t15 t4 w hC b15 b4
 have d4 : decide (e 15 = e 4) = false := by simpa using hE.ne 4 15 (by decide) (by decide) (by omega)
 have I5 : Hid _ := is_chain v ls l c (e 15) (e 5) c15 c5 t15 t5 w hC b15 b5
 have d5 : decide (e 15 = e 5) = false := by simpa using hE.ne 5 15 (by decide) (by decide) (by omega)
 have I6 : Hid _ := is_chain v ls l c (e 15) (e 6) c15 c6 t15 t6 w hC b15 b6
 have d6 : decide (e 15 = e 6) = false := by simpa using hE.ne 6 15 (by decide) (by decide) (by omega)
 have I7 : Hid _ := is_chain v ls l c (e 15) (e 7) c15 c7 t15 t7 w hC b15 b7
 have d7 : decide (e 15 = e 7) = false := by simpa using hE.ne 7 15 (by decide) (by decide) (by omega)
 have I8 : Hid _ := is_chain v ls l c (e 15) (e 8) c15 c8 t15 t8 w hC b15 b8
 have d8 : decide (e 15 = e 8) = false := by simpa using hE.ne 8 15 (by decide) (by decide) (by omega)
 have I9 : Hid _ := is_chain v ls l c (e 15) (e 9) c15 c9 t15 t9 w hC b15 b9
 have d9 : decide (e 15 = e 9) = false := by simpa using hE.ne 9 15 (by decide) (by decide) (by omega)
 have I10 : Hid _ := is_chain v ls l c (e 15) (e 10) c15 c10 t15 t10 w hC b15 b10
 have d10 : decide (e 15 = e 10) = false := by simpa using hE.ne 10 15 (by decide) (by decide) (by omega)
 have d15 : decide (e 15 = e 15) = true := by simp
 have IR : Hid _ := rest_15 (m := m) hm v ls l c e w hE hC
 obtain ⟨T, x, rfl⟩ := hC.iface
 clear hE hC b1 b2 b3 b4 b5 b6 b7 b8 b9 b10 b15
 go_enter Tryz.func34, Tryz.ntmps34
 go_wp2_with fail
 refine Calls.mono I1.out ?_
 rintro r w' ⟨rfl, hw⟩; obtain rfl := hw.symm; clear hw
 rw [d1]
 go_wp2_with fail
 refine Calls.mono I2.out ?_
 rintro r w' ⟨rfl, hw⟩; obtain rfl := hw.symm; clear hw
 rw [d2]
 go_wp2_with fail
 refine Calls.mono I3.out ?_
 rintro r w' ⟨rfl, hw⟩; obtain rfl := hw.symm; clear hw
 rw [d3]
 go_wp2_with fail
 refine Calls.mono I4.out ?_
 rintro r w' ⟨rfl, hw⟩; obtain rfl := hw.symm; clear hw
 rw [d4]
 go_wp2_with fail
 refine Calls.mono I5.out ?_
 rintro r w' ⟨rfl, hw⟩; obtain rfl := hw.symm; clear hw
 rw [d5]
 go_wp2_with fail
 refine Calls.mono I6.out ?_
 rintro r w' ⟨rfl, hw⟩; obtain rfl := hw.symm; clear hw
 rw [d6]
 go_wp2_with fail
 refine Calls.mono I7.out ?_
 rintro r w' ⟨rfl, hw⟩; obtain rfl := hw.symm; clear hw
 rw [d7]
 go_wp2_with fail
 refine Calls.mono I8.out ?_
 rintro r w' ⟨rfl, hw⟩; obtain rfl := hw.symm; clear hw
 rw [d8]
 go_wp2_with fail
 refine Calls.mono I9.out ?_
 rintro r w' ⟨rfl, hw⟩; obtain rfl := hw.symm; clear hw
 rw [d9]
 go_wp2_with fail
 refine Calls.mono I10.out ?_
 rintro r w' ⟨rfl, hw⟩; obtain rfl := hw.symm; clear hw
 rw [d10]
 go_wp2_with fail
 refine Calls.mono IR.out ?_
 rintro r w' ⟨rfl, hw⟩; obtain rfl := hw.symm; clear hw
 go_wp2_with fail
 go_ret
 exact ⟨rfl, rfl⟩
end Go.Proofs.YtkiapldehlnndaaGreatDoor
/- The book's Told at a chain of faults, however many layers it has. -/
namespace Go.Proofs.YtkiapldehlnndaaGreatDoor
open Go.RowKit
theorem castY (v : Value) (w : World) : (Instr.typeAssert (.iface 76 v) 30 76 true).run Tryz.prog w = .ok (.tuple #[v, .bool true]) w := by kernel_rfl
theorem castN (v : Value) (w : World) : (Instr.typeAssert (.iface 287 v) 30 76 true).run Tryz.prog w = .ok (.tuple #[.pointer none, .bool false]) w := by kernel_rfl
def joinS (x : ByteArray) : List ByteArray → ByteArray
 | [] => x
 | s :: r => joinS (x ++ s ++ ⟨#[32]⟩) r
theorem joinS_size (ls : List ByteArray) (h : ∀ s ∈ ls, s.size ≤ 100) : ∀ x, (joinS x ls).size ≤ x.size + 101 * ls.length ∧ x.size ≤ (joinS x ls).size := by
 induction ls with
 | nil => intro x; simp [joinS]
 | cons s r ih =>
   intro x
   have h1 := h s List.mem_cons_self
   have h2 := ih (fun y hy => h y (List.mem_cons_of_mem _ hy)) (x ++ s ++ ⟨#[32]⟩)
   have h3 : (x ++ s ++ ⟨#[32]⟩).size = x.size + s.size + 1 := by rw [ByteArray.size_append, ByteArray.size_append]; rfl
   simp only [joinS, List.length_cons]
   omega
theorem Chain.drew {w : World} {l c : Int} {a : Addr} {ls : List ByteArray} {v : Value} (h : Chain w l c a ls v) (n : Nat) : Chain (w.drewN n) l c a ls v := h.below (below_drewN (Below.refl _ _) n)
set_option maxRecDepth 100000 in
set_option maxHeartbeats 8000000 in
theorem told_gen (k : Nat) (h1 : 1 ≤ k) (v : Value) (ls : List ByteArray) (l c : Int) (ae : Addr) (w : World) (hcode : ∀ W (x : Value) (r : List ByteArray), Below w.heap.size w W → Chain W l c ae r x → Calls Tryz.prog 34 #[x] W fun r w' => r = .returned (.int .i64 k) ∧ w' = W) (hC : Chain w l c ae ls v) (hl : ls.length ≤ 19) (hs : ∀ s ∈ ls, s.size ≤ 100) :
 Calls Tryz.prog 14 #[v, .agg #[.int .i64 k, .int .i64 l, .int .i64 c, .string (joinS ⟨#[]⟩ ls)]] w fun r w' => r = .returned (.bool true) ∧ Below w.heap.size w w' := by
 have y := castY
 have n := castN
 have z0 : ((k : Int) == 0) = false := by simp; omega
 have z3 : ((k : Int) != (k : Int)) = false := by simp
 have z4 : ((k : Int) == (k : Int)) = true := by simp
 have z5 : (l != l) = false := by simp
 have z6 : (c != c) = false := by simp
 obtain ⟨J, hJ⟩ : ∃ J, J = joinS ⟨#[]⟩ ls := ⟨_, rfl⟩
 have HE : Hid _ := And.intro hC (And.intro hs (And.intro hJ hl))
 have HC : Hid _ := hcode
 rw [← hJ]
 obtain ⟨T0, x0, rfl⟩ := hC.iface
 clear hC hs hcode hJ h1
 go_enter Tryz.func14, Tryz.ntmps14
 go_wp2_with fail
 obtain ⟨w1, hw1⟩ : ∃ w1, w1 = w.alloc (.cells #[.int .i64 k, .int .i64 l, .int .i64 c, .string J] 34) := ⟨_, rfl⟩
 rw [← hw1]
 have hb1 : Below w.heap.size w w1 := by rw [hw1]; exact (Below.refl _ _).alloc (Nat.le_refl _) _
 have hN : w1.heap[w.heap.size]? = some (.cells #[.int .i64 k, .int .i64 l, .int .i64 c, .string J] 34 (0, 0)) := by rw [hw1]; exact (MapKept.heap_alloc w _).1
 have H1 : Hid _ := And.intro hb1 (And.intro hN (HE.out.1.below hb1))
 clear hb1 hN hw1
 obtain ⟨e0, e1, e2, e3⟩ := fault_cells H1.out.2.1
 go_quiet ((go_at_call 34; exact Calls.quiet_of_same (HC.out _ _ _ (below_drewN H1.out.1 _) (H1.out.2.2.drew _))))
 obtain ⟨w2, hw2⟩ : ∃ w2, w2 = w1.drewN nq := ⟨_, rfl⟩
 rw [← hw2]
 have H2 : Hid _ := And.intro (below_drewN H1.out.1 nq) (And.intro (H1.out.2.2.drew nq) (show (w1.drewN nq).heap[w.heap.size]? = some (.cells #[.int .i64 k, .int .i64 l, .int .i64 c, .string J] 34 (0, 0)) from H1.out.2.1))
 rw [← hw2] at H2
 clear hw2 e0 e1 e2 e3 H1
 go_wp2_with fail
 go_loopg [0, 5, 6] (ls.length + 1) (fun q ev lv nv wr => ∃ (done r : List ByteArray) (x : ByteArray), q = r.length + 1 ∧ ls = done ++ r ∧ nv = .int .i64 done.length ∧ lv = .string x ∧ joinS x r = J ∧ Below w.heap.size w wr ∧ Chain wr l c ae r ev ∧ wr.heap[w.heap.size]? = some (.cells #[.int .i64 k, .int .i64 l, .int .i64 c, .string J] 34 (0, 0)))
 case atStart => exact ⟨[], ls, _, rfl, rfl, rfl, rfl, HE.out.2.2.1.symm, H2.out.1, H2.out.2.1, H2.out.2.2⟩
 case round =>
  obtain ⟨done, r, x, rfl, hls, rfl, rfl, hj, hbr, hCr, hNr⟩ := hrel
  clear H2
  have hlen : done.length + r.length = ls.length := by rw [hls, List.length_append]
  have hdl : (done.length : Int) < 20 := by have := HE.out.2.2.2; omega
  obtain ⟨e0, e1, e2, e3⟩ := fault_cells hNr
  cases r with
  | nil =>
    have ev : u0 = .iface 287 (.pointer (some ae)) := hCr
    subst ev
    have hx : x = J := hj
    subst hx
    have HR : Hid _ := And.intro hCr hbr
    clear hCr hj hls hNr hbr hlen
    go_wp2_with fail
    go_quiet ((go_at_call 34; exact Calls.quiet_of_same (HC.out _ _ [] (below_drewN HR.out.2 _) rfl)))
    go_wp2
    go_ret
    exact ⟨rfl, below_drewN HR.out.2 _⟩
  | cons s r =>
    obtain ⟨pb, u, rfl, hB, hCu⟩ := hCr
    obtain ⟨f0, f1, f2, f3⟩ := fault_cells hB
    have hz := joinS_size r (fun y hy => HE.out.2.1 y (by rw [hls]; exact List.mem_append_right _ (List.mem_cons_of_mem _ hy))) (x ++ s ++ ⟨#[32]⟩)
    have hz0 := joinS_size ls HE.out.2.1 ⟨#[]⟩
    have hz1 : (x ++ s ++ ⟨#[32]⟩).size ≤ 2000 := by
     have h2 : (joinS (x ++ s ++ ⟨#[32]⟩) r).size ≤ 0 + 101 * ls.length := by
      have h3 : joinS (x ++ s ++ ⟨#[32]⟩) r = J := hj
      rw [h3, HE.out.2.2.1]; exact hz0.1
     have := HE.out.2.2.2
     omega
    have hz3 : (x ++ s ++ ⟨#[32]⟩).size = x.size + s.size + 1 := by rw [ByteArray.size_append, ByteArray.size_append]; rfl
    have cat1 := fun W => run_string_add_sum (P := Tryz.prog) (w := W) x s (by omega)
    have cat2 := fun W => run_string_add_sum (P := Tryz.prog) (w := W) (x ++ s) ⟨#[32]⟩ (by rw [ByteArray.size_append]; show x.size + s.size + 1 ≤ _; omega)
    have HR : Hid _ := And.intro hCu (And.intro hls (And.intro hj (And.intro hbr hNr)))
    clear hCu hls hj hB hz hz0 hz1 hz3 hbr hNr hlen
    go_wp2_with fail
    go_quiet (fail)
    obtain ⟨w3, hw3⟩ : ∃ w3, w3 = wr.drewN nq := ⟨_, rfl⟩
    have g0 : w3.cell? ⟨pb, 0, none⟩ = some (.string s) := by rw [hw3]; exact f0
    have g3 : w3.cell? ⟨pb, 3, none⟩ = some u := by rw [hw3]; exact f3
    have H3 : Hid _ := And.intro (HR.out.1.drew nq) (And.intro (below_drewN HR.out.2.2.2.1 nq) (show (wr.drewN nq).heap[w.heap.size]? = some (.cells #[.int .i64 k, .int .i64 l, .int .i64 c, .string J] 34 (0, 0)) from HR.out.2.2.2.2))
    rw [← hw3] at H3 ⊢
    clear hw3 f0 f1 f2 f3 e0 e1 e2 e3
    go_wp2
    go_roundg (r.length + 1)
    case measure => simp
    case rel => exact ⟨done ++ [s], r, _, rfl, by rw [HR.out.2.1, List.append_assoc]; rfl, by rw [List.length_append]; go_num, rfl, HR.out.2.2.1, H3.out.2.1, H3.out.1, H3.out.2.2⟩
theorem told_14 {m : Nat} (hm : 14 ≤ m) (v : Value) (ls : List ByteArray) (l c : Int) (e : Nat → Addr) (w : World) (hE : Er m w e) (hC : Chain w l c (e 14) ls v) (hl : ls.length ≤ 19) (hs : ∀ s ∈ ls, s.size ≤ 100) :
 Calls Tryz.prog 14 #[v, .agg #[.int .i64 14, .int .i64 l, .int .i64 c, .string (joinS ⟨#[]⟩ ls)]] w fun r w' => r = .returned (.bool true) ∧ Below w.heap.size w w' :=
 told_gen 14 (by decide) v ls l c (e 14) w (fun W x r hb h => code_14 hm x r l c e W (hE.below hb) h) hC hl hs
theorem told_15 {m : Nat} (hm : 15 ≤ m) (v : Value) (ls : List ByteArray) (l c : Int) (e : Nat → Addr) (w : World) (hE : Er m w e) (hC : Chain w l c (e 15) ls v) (hl : ls.length ≤ 19) (hs : ∀ s ∈ ls, s.size ≤ 100) :
 Calls Tryz.prog 14 #[v, .agg #[.int .i64 15, .int .i64 l, .int .i64 c, .string (joinS ⟨#[]⟩ ls)]] w fun r w' => r = .returned (.bool true) ∧ Below w.heap.size w w' :=
 told_gen 15 (by decide) v ls l c (e 15) w (fun W x r hb h => code_15 hm x r l c e W (hE.below hb) h) hC hl hs
theorem told_none (l c : Int) (x : ByteArray) (w : World) :
 Calls Tryz.prog 14 #[.nilIface, .agg #[.int .i64 0, .int .i64 l, .int .i64 c, .string x]] w fun e w' => e = .returned (.bool true) ∧ Below w.heap.size w w' := by
 go_enter Tryz.func14, Tryz.ntmps14
 go_wp2
 go_ret
 exact ⟨rfl, (Below.refl _ _).alloc (Nat.le_refl _) _⟩
end Go.Proofs.YtkiapldehlnndaaGreatDoor
