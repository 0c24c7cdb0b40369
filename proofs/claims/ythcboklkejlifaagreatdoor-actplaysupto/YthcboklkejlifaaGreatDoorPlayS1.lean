/- The pair's step: Add. -/
import Derived.Test.YthcboklkejlifaaGreatDoorPart14
namespace Go.Proofs.YthcboklkejlifaaGreatDoor
open Go.RowKit Go.Maps
attribute [local go_sem ↓] Go.wp_at_zero Go.wp_at_succ
def opV (k wz nz : Int) (s : ByteArray) : Value := .agg #[.int .i64 k, .int .i64 wz, .int .i64 nz, .string s]
theorem box4 {w : World} {B : Nat} {x y z u : Value} {t : TypeId} (h : w.heap[B]? = some (.cells #[x, y, z, u] t (0, 0))) : w.cell? ⟨B, 0, none⟩ = some x ∧ w.cell? ⟨B, 1, none⟩ = some y ∧ w.cell? ⟨B, 2, none⟩ = some z ∧ w.cell? ⟨B, 3, none⟩ = some u := ⟨cell0_of h rfl, cell0_of h rfl, cell0_of h rfl, cell0_of h rfl⟩
theorem ErrIs.set {w : World} {e : Nat → Addr} {ev : Value} {c g o : Nat} {cs : Array Value} {x : Value} (h : ErrIs w e ev c) (ha : w.heap[g]? = some (.cells cs 105 (0, 0))) : ErrIs (w.setCell ⟨g, o, none⟩ x) e ev c := by
  rcases h with h | ⟨h1, bf, h2, h3⟩
  · exact .inl h
  · refine .inr ⟨h1, bf, h2, (set_other _ _ _ _ _ fun e => ?_).trans h3⟩
    subst e
    unfold ActFault at h3
    rw [ha] at h3
    injection h3 with e
    injection e with _ e
    exact absurd e (by decide)
/-- Behind the table's Add. -/
structure AS (W wx : World) (e : Nat → Addr) (b : Nat) (vn vm : Value) (ns2 : List ByteArray) (c : Nat) (ev vn2 vm2 : Value) : Prop where
  er : ErrIs wx e ev c
  t : Tab wx b vn2 vm2 ns2
  k : Keeps (Foot b vn vm) W wx
  f : ∀ i, Foot b vn2 vm2 i → Foot b vn vm i ∨ W.heap.size ≤ i
theorem AS.below {W wx w' : World} {e : Nat → Addr} {b : Nat} {vn vm : Value} {ns2 : List ByteArray} {c : Nat} {ev vn2 vm2 : Value} (h : AS W wx e b vn vm ns2 c ev vn2 vm2) (hb : Below wx.heap.size wx w') : AS W w' e b vn vm ns2 c ev vn2 vm2 := ⟨h.er.below hb, h.t.below hb, h.k.trans (Keeps.of_below hb), h.f⟩
theorem PS.far {w0 wr : World} {g bk : Nat} {who : Bool} {b : Nat} {vn vm v : Value} {ns : List ByteArray} {b' : Nat} {vn' vm' v' : Value} {ns' : List ByteArray} {vi vw : Value} {ls ws : List Value} {zss : List (List ByteArray)} (h : PS w0 wr g bk who b vn vm v ns b' vn' vm' v' ns' vi vw ls ws zss) {B : Nat} {cs : Array Value} {t : TypeId} (hB : wr.heap[B]? = some (.cells cs t (0, 0))) (h1 : t ≠ 104) (h2 : t ≠ 9) : ¬ Foot b vn vm B := fun hi => by
  rcases foot_typed h.t hi hB with e | e
  · exact h1 e
  · exact h2 e
/-- Behind the document's Add. -/
structure RS (wc wx : World) (B : Nat) (v : Value) (ns : List ByteArray) (v2 : Value) (ns2 : List ByteArray) : Prop where
  box : wx.heap[B]? = some (.cells #[v2] 99 (0, 0))
  v : (v2 = v ∧ ns2 = ns) ∨ BTexts.Own wx wc.heap.size v2 ns2
  bl : Below wc.heap.size wc wx
theorem slice_of {ar : Option Addr} {n kr : Nat} {ns ns2 : List ByteArray} {v2 : Value} {w : World} {B : Nat} (h : (v2 = .slice ar n kr ∧ ns2 = ns) ∨ BTexts.Own w B v2 ns2) : ∃ a m q, v2 = .slice a m q := by
  rcases h with ⟨rfl, _⟩ | h
  · exact ⟨_, _, _, rfl⟩
  · obtain ⟨a, q, e⟩ := row_shape h
    exact ⟨_, _, _, e⟩
theorem rs_mk {wc w2 : World} {v : Value} {ns : List ByteArray} {v2 : Value} {ns2 : List ByteArray} (hv : (v2 = v ∧ ns2 = ns) ∨ BTexts.Own w2 wc.heap.size v2 ns2) (hb : Below wc.heap.size wc w2) : RS wc (w2.alloc (.cells #[v2] 99)) w2.heap.size v ns v2 ns2 :=
  ⟨(MapKept.heap_alloc w2 _).1, hv.imp_right fun ho => trow_at ho fun i hi => (MapKept.heap_alloc w2 _).2 i (ho.lt i hi).2, hb.alloc hb.size _⟩
theorem rs_mk2 {wc w8 : World} {x : Value} {v : Value} {ns : List ByteArray} {v2 : Value} {ns2 : List ByteArray} (hb : Below (wc.alloc (.cells #[x] 99)).drew.heap.size (wc.alloc (.cells #[x] 99)).drew w8) (hv : (v2 = v ∧ ns2 = ns) ∨ BTexts.Own w8 (wc.alloc (.cells #[x] 99)).drew.heap.size v2 ns2) :
    RS wc (w8.setCell ⟨wc.heap.size, 0, none⟩ v2) wc.heap.size v ns v2 ns2 ∧ Below wc.heap.size wc w8 ∧ w8.heap[wc.heap.size]? = some (.cells #[x] 99 (0, 0)) := by
  have hA : Below wc.heap.size wc (wc.alloc (.cells #[x] 99)).drew := ((Below.refl _ _).alloc (Nat.le_refl _) _).drew
  have h0 : (wc.alloc (.cells #[x] 99)).drew.heap[wc.heap.size]? = some (.cells #[x] 99 (0, 0)) := (MapKept.heap_alloc wc _).1
  have hz := t_lt h0
  have h8 := (hb.block _ hz).trans h0
  have hb2 : Below wc.heap.size wc w8 := hA.trans (hb.mono hA.size)
  refine ⟨⟨?_, ?_, hb2.setCell (by simp) v2⟩, hb2, h8⟩
  · have h9 := heap_setCell_same w8 wc.heap.size 0 _ _ v2 h8
    simpa using h9
  · refine hv.imp_right fun ho => ?_
    have h1 : BTexts.Own w8 wc.heap.size v2 ns2 := row_base ho (by omega)
    exact trow_at h1 fun i hi => set_other _ _ _ _ _ fun e => by have := (ho.lt i hi).1; omega
set_option maxRecDepth 100000 in
set_option maxHeartbeats 8000000 in
theorem step_add (w0 wr : World) (g bk : Nat) (who : Bool) (b : Nat) (vn vm v : Value) (ns : List ByteArray) (b' : Nat) (vn' vm' v' : Value) (ns' : List ByteArray) (wz nz : Int) (s : ByteArray) (e : Nat → Addr) (h : PSE w0 wr g bk who b vn vm v ns b' vn' vm' v' ns') (hE : Nn w0 e) (hs : s.size ≤ maxLen) :
    Calls Tryz.prog 79 #[.pointer (some ⟨g, oW who, none⟩), opV 1 wz nz s] wr fun r w' => r = .returned (.bool true) ∧ ∃ vn2 vm2 v2 ns2, PSE w0 w' g bk who b vn2 vm2 v2 ns2 b' vn' vm' v' ns' := by
  unfold opV
  obtain ⟨vi, vw, ls, ws, zss, h⟩ := h
  obtain ⟨k, c, ns2, hOut⟩ := out_exists ns s
  obtain ⟨ar, kr, rfl⟩ := row_shape h.r
  obtain ⟨W, hW⟩ : ∃ W, W = wr.alloc (.cells #[.int .i64 1, .int .i64 wz, .int .i64 nz, .string s] 107) := ⟨_, rfl⟩
  have hbW : Below wr.heap.size wr W := by rw [hW]; exact (Below.refl _ _).alloc (Nat.le_refl _) _
  have hbx : W.heap[wr.heap.size]? = some (.cells #[.int .i64 1, .int .i64 wz, .int .i64 nz, .string s] 107 (0, 0)) := by rw [hW]; exact (MapKept.heap_alloc wr _).1
  have hPW := h.below hbW
  obtain ⟨c0, c1, _⟩ := cells_this hPW.arr
  obtain ⟨x0, x1, x2, x3⟩ := box4 hbx
  have hlt := t_lt hPW.arr
  obtain ⟨o, ho⟩ : ∃ o, o = oW who := ⟨_, rfl⟩
  rw [← ho] at c0 c1 ⊢
  unfold pB at c0
  have hA := fun W' (hb : Below W.heap.size W W') => add_out b vn vm ns ns2 s k c e W' hOut (hPW.t.below hb) (hE.below (hPW.bl.trans (hb.mono hPW.bl.size))) hs
  have HA : Hid _ := And.intro hA (And.intro hPW (And.intro hbx (And.intro hOut (And.intro ho hE))))
  have HW : Hid _ := hW
  clear hA hPW hbx hOut ho hE hbW hW h
  go_enter Tryz.func79, Tryz.ntmps79
  go_upto_region 3 with fail
  rw [← HW.out]
  go_cut [5, 6] (fun s5 s6 wx => ∃ ev vn2 vm2, s5 = .int .i64 k ∧ s6 = ev ∧ AS W wx e b vn vm ns2 c ev vn2 vm2)
  case first =>
    go_region_held3 (fun w' => w'.cell? ⟨g, o, none⟩ = some (.pointer (some ⟨b, 0, none⟩)) ∧ w'.cell? ⟨wr.heap.size, 3, none⟩ = some (.string s)) (go_keep)
      ((first
        | (go_at_call 108; refine (HA.out.1 _ (by repeat (first | exact Below.refl _ _ | assumption | refine Below.drew ?_ | refine Below.setCell ?_ (by simp) _ | refine Below.alloc ?_ (by simp) _))).mono ?_; rintro r8 w8 ⟨ev, rfl, hEr, vn2, vm2, hT2, hK2', hf2⟩; have hK2 : Keeps (Foot b vn vm) W w8 := (Keeps.of_below ((Below.refl _ W).drew)).trans hK2'; have c0 : w8.cell? ⟨g, o, none⟩ = some (.pointer (some ⟨b, 0, none⟩)) := (World.cell?_of_block (a := ⟨g, o, none⟩) (hK2.block g hlt (HA.out.2.1.far HA.out.2.1.arr (by decide) (by decide)))).trans c0; have x3 : w8.cell? ⟨wr.heap.size, 3, none⟩ = some (.string s) := (World.cell?_of_block (a := ⟨wr.heap.size, 3, none⟩) (hK2.block _ (t_lt HA.out.2.2.1) (HA.out.2.1.far HA.out.2.2.1 (by decide) (by decide)))).trans x3; have H8 : Hid _ := (AS.mk hEr hT2 hK2 hf2 : AS W w8 e b vn vm ns2 c ev vn2 vm2); clear hEr hT2 hK2 hK2' hf2)
        | fail))
    all_goals (refine Met.intro ?_; apply_assumption; refine Met.intro ?_; apply_assumption; (repeat apply Exists.intro); refine ⟨?rel, rfl⟩; case rel => exact ⟨_, _, _, rfl, rfl, by first | exact H8.out | exact H8.out.below (below_drewN (Below.refl _ _) _)⟩)
  case rest =>
    obtain ⟨ev, vn2, vm2, rfl, hs6, hAS⟩ := hcut
    obtain rfl := hs6.symm
    obtain ⟨w1, hw1⟩ : ∃ w1, w1 = wc := ⟨_, rfl⟩
    rw [← hw1] at hAS ⊢
    clear hw1 wc
    have ag := (hAS.k.block g hlt (HA.out.2.1.far HA.out.2.1.arr (by decide) (by decide))).trans HA.out.2.1.arr
    have bx := (hAS.k.block _ (t_lt HA.out.2.2.1) (HA.out.2.1.far HA.out.2.2.1 (by decide) (by decide))).trans HA.out.2.2.1
    clear c0 c1 x0 x1 x2 x3
    obtain ⟨_, c1, _⟩ := cells_this ag
    obtain ⟨x0, x1, x2, x3⟩ := box4 bx
    rw [← HA.out.2.2.2.2.1] at c1
    have hRc : BTexts.Own w1 0 (.slice ar ns.length kr) ns := own_up HA.out.2.1.r (kept_of_keeps hAS.k) fun i hi hF => HA.out.2.1.s i hF (.inr (.inr (.inl hi)))
    have hrA := fun W' (hb : Below w1.heap.size w1 W') => rAdd_out (.slice ar ns.length kr) ns ns2 s k c W' HA.out.2.2.2.1 (trow_at hRc fun i hi => hb.block i (hRc.lt i hi).2) HA.out.2.1.t.len hs
    unfold radd at hrA
    have H4 : Hid _ := And.intro hrA (And.intro hAS (And.intro ag bx))
    have hxlt := t_lt bx
    have hglt := t_lt ag
    have hn1 : ¬ g = w1.heap.size := by omega
    have hn2 : ¬ w1.heap.size = g := by omega
    have hn3 : ¬ wr.heap.size = w1.heap.size := by omega
    have hn4 : ¬ w1.heap.size = wr.heap.size := by omega
    clear hrA hAS ag bx hRc
    go_upto_region 4 with fail
    go_cut [7, 8, 9] (fun s7 s8 s9 wx => ∃ (B : Nat) (a2 : Option Addr) (m2 k2 : Nat), s7 = .pointer (some ⟨B, 0, none⟩) ∧ s8 = .int .i64 k ∧ s9 = .int .i64 c ∧ RS w1 wx B (.slice ar ns.length kr) ns (.slice a2 m2 k2) ns2)
    case first =>
      go_region_held3 (fun w' => w'.cell? ⟨g, o + 1, none⟩ = some (.slice ar ns.length kr) ∧ w'.cell? ⟨wr.heap.size, 3, none⟩ = some (.string s)) (go_keep)
        ((first
          | (go_at_call 113; refine (H4.out.1 _ (by repeat (first | exact Below.refl _ _ | assumption | refine Below.drew ?_ | refine Below.setCell ?_ (by simp) _ | refine Below.alloc ?_ (by simp) _))).mono ?_; rintro r8 w8 ⟨v2, rfl, hv2', hb8'⟩; have hb8 := below_of_drew3 hb8'; have hv2 : (v2 = .slice ar ns.length kr ∧ ns2 = ns) ∨ BTexts.Own w8 w1.heap.size v2 ns2 := hv2'; obtain ⟨a2, m2, k2, rfl⟩ := slice_of hv2; have c1 := cell_up c1 hb8; have x3 := cell_up x3 hb8; have H8 : Hid _ := rs_mk hv2 hb8; have hz8 := hb8.size; clear hv2 hv2' hb8 hb8')
          | (go_at_call 113; refine (H4.out.1 _ (by repeat (first | exact Below.refl _ _ | assumption | refine Below.drew ?_ | refine Below.setCell ?_ (by simp) _ | refine Below.alloc ?_ (by simp) _))).mono ?_; rintro r8 w8 ⟨v2, rfl, hv2, hb8'⟩; obtain ⟨a2, m2, k2, rfl⟩ := slice_of hv2; have hmk := rs_mk2 hb8' hv2; have hb8 := hmk.2.1; have c1 := cell_up c1 hb8; have x3 := cell_up x3 hb8; have cB := cell0_of (k := 0) hmk.2.2 rfl; have fB := blk_free hmk.2.2 0; have H8 : Hid _ := hmk.1; have hz8 := hb8.size; clear hv2 hb8 hb8' hmk)
          | fail))
      all_goals (refine Met.intro ?_; apply_assumption; refine Met.intro ?_; apply_assumption; (repeat apply Exists.intro); refine ⟨?rel, rfl⟩; case rel => exact ⟨_, _, _, _, rfl, rfl, rfl, H8.out⟩)
    case rest =>
      obtain ⟨B, a2, m2, k2, rfl, rfl, rfl, hRS⟩ := hcut
      have ag2 := (hRS.bl.block g (t_lt H4.out.2.2.1)).trans H4.out.2.2.1
      obtain ⟨_, d1, _⟩ := cells_this ag2
      rw [← HA.out.2.2.2.2.1] at d1
      have f1 := blk_free ag2 (o + 1)
      have dB := cell0_of (k := 0) hRS.box rfl
      have hPS := HA.out.2.1.added H4.out.2.1.t H4.out.2.1.k H4.out.2.1.f hRS.bl hRS.v (HA.out.2.2.2.1.named HA.out.2.1.nm)
      have hEr := (H4.out.2.1.er.below hRS.bl).set (o := oW who + 1) (x := .slice a2 m2 k2) ag2
      have hTo := told_is ev c e _ (HA.out.2.2.2.2.2.below hPS.bl) hEr
      rw [← HA.out.2.2.2.2.1] at hPS hTo
      have hevf := hEr.form
      have H5 : Hid _ := And.intro hPS hTo
      clear hPS hTo hEr hRS ag2 H4 c1 x0 x1 x2 x3 hn1 hn2 hn3 hn4 hxlt hglt
      rcases hevf with rfl | ⟨bf, rfl⟩
      all_goals
        (try unfold faultV at H5 ⊢)
        go_wp2_with fail
        refine Calls.mono H5.out.2 ?_
        rintro r w9 ⟨rfl, hb9⟩
        have H9 : Hid _ := H5.out.1.below hb9
        clear hb9
        go_wp2_with fail
        go_ret
        exact ⟨rfl, _, _, _, _, _, _, _, _, _, H9.out⟩
end Go.Proofs.YthcboklkejlifaaGreatDoor
