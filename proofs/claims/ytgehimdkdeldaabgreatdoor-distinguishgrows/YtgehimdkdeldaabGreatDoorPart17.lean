/- Texts of this claim, joined: DiAlive, ErLaid, RoLaid, DiLaid, DiGrow. -/
import Derived.Test.YtgehimdkdeldaabGreatDoorPart16
import Derived.Test.YtgehimdkdeldaabGreatDoorRows
import Derived.Test.YtgehimdkdeldaabGreatDoorPart0
import Derived.ProofKit
import Derived.LaidMore
import Derived.Stop.LaidErr
import Derived.Test.YtgehimdkdeldaabGreatDoorPart1
import Derived.Test.YtgehimdkdeldaabGreatDoorPart4
import Derived.Lib.LaidTab
namespace Go.Proofs.YtgehimdkdeldaabGreatDoor
namespace Di
open Go.RowKit Go.Maps
attribute [local go_sem ↓] Go.wp_at_zero Go.wp_at_succ
def esT : List Sy.Ed := [(0, 1, 1), (1, 1, 2), (3, 1, 2)]
theorem esT_right : Sy.right ((4 : Nat) : Int) ((2 : Nat) : Int) 0 esT = true := by decide
theorem esT_last : Ro.Last 4 (outOf 4 esT) 2 := by
 refine ⟨by decide, fun j hj => ?_⟩
 match j, hj with
 | 0, _ => decide
 | 1, _ => decide
theorem esT_rk01 : rkS 4 esT 2 0 1 = 2 := by decide
theorem esT_rk13 : rkS 4 esT 2 1 3 = -1 := by decide
theorem esT_f01 : (FF (outOf 4 esT) (rkS 4 esT 2) 0 1).size = 3 := by decide
theorem esT_has (w : World) : BEdges.Has (w.alloc (.cells #[.int .i64 0, .int .i64 1, .int .i64 1, .int .i64 1, .int .i64 1, .int .i64 2, .int .i64 3, .int .i64 1, .int .i64 2] 29)) (.slice (some ⟨w.heap.size, 0, none⟩) 3 3) esT := by
 refine ⟨some ⟨w.heap.size, 0, none⟩, 3, rfl, fun j u hj => ⟨_, rfl, ?_⟩⟩
 rw [addz]
 refine cell0_of (heap_alloc_new w _) ?_
 rw [<- Array.getElem?_toList]
 exact hj
structure EnvC (w : World) (a aL aN : Addr) : Prop where
 sys : Sent w 5 a
 env : EnvD w aL
 non : Sent w 1 aN
 ne : aN ≠ aL
 pow : Pow w
theorem EnvC.below {w w' : World} {a aL aN : Addr} (h : EnvC w a aL aN) (hb : Below w.heap.size w w') : EnvC w' a aL aN := ⟨h.sys.below hb, h.env.below hb, h.non.below hb, h.ne, h.pow.below hb⟩
def PAl (w : World) : Prop := ∀ W, Below w.heap.size w W -> Calls Tryz.prog 6 #[] W fun r w' => r = .returned (.bool true) /\ Below W.heap.size W w'
set_option maxRecDepth 100000 in
set_option maxHeartbeats 4000000 in
theorem pAl (hS : SortOk 1000000) (a aL aN : Addr) (w : World) (hE0 : EnvC w a aL aN) : PAl w := fun W hb => by
 have hE := hE0.below hb
 clear hE0 hb
 obtain ⟨w1, hw1⟩ : ∃ w1, w1 = W.alloc (.cells #[.int .i64 0, .int .i64 1, .int .i64 1, .int .i64 1, .int .i64 1, .int .i64 2, .int .i64 3, .int .i64 1, .int .i64 2] 29) := ⟨_, rfl⟩
 have hb1 : Below W.heap.size W w1 := by rw [hw1]; exact (Below.refl _ _).alloc (Nat.le_refl _) _
 have hv := esT_has W
 rw [<- hw1] at hv
 obtain ⟨w2, hw2⟩ : ∃ w2, w2 = w1.alloc (.cells #[.int .i64 4, .int .i64 2, .int .i64 0, .slice (some ⟨W.heap.size, 0, none⟩) 3 3] 27) := ⟨_, rfl⟩
 have hb2 : Below w1.heap.size w1 w2 := by rw [hw2]; exact (Below.refl _ _).alloc (Nat.le_refl _) _
 have hg2 : w2.heap[w1.heap.size]? = some (.cells #[.int .i64 4, .int .i64 2, .int .i64 0, .slice (some ⟨W.heap.size, 0, none⟩) 3 3] 27 (0, 0)) := by rw [hw2]; exact heap_alloc_new w1 _
 have hbW := bel6 hb2 hb1
 have hC := fun (p q : Nat) (hp : p < 4) (hq : q < 4) V (hV : Below w2.heap.size w2 V) => compare_ok hS 4 2 p q 0 (.slice (some ⟨W.heap.size, 0, none⟩) 3 3) esT a aL aN V ((hE.below hbW).below hV).sys ((hE.below hbW).below hV).env ((hE.below hbW).below hV).non hE.ne ((hE.below hbW).below hV).pow ((hv.below hb2).below hV) (by decide) esT_right (by decide) hp hq
 unfold sysV at hC
 have hsz : w1.heap.size = W.heap.size + 1 := by rw [hw1]; simp
 have H1 : Hid _ := And.intro hw2 (And.intro hw1 (And.intro hg2 (And.intro hC hbW)))
 obtain ⟨x0, x1, x2, x3⟩ := four_cells hg2
 clear hw1 hb1 hv hw2 hb2 hg2 hbW hC hE
 go_enter Tryz.func6, Tryz.ntmps6
 go_upto_region 2 with fail
 rw [<- H1.out.2.1, <- H1.out.1]
 rw [hsz] at x0 x1 x2 x3
 go_wp2_with fail
 refine Calls.mono (H1.out.2.2.2.1 0 1 (by decide) (by decide) w2 (Below.refl _ _)) ?_
 rintro r w3 ⟨R, hR, hb3, hcase⟩
 obtain rfl : R = 2 := hR.unique esT_last
 rw [esT_rk01, esT_f01] at hcase
 rcases hcase with ⟨h, _⟩ | ⟨_, _, u3, rfl, hO3⟩ | ⟨_, h, _⟩
 ·omega
 ·have hl3 := (FF (outOf 4 esT) (rkS 4 esT 2) 0 1).nodes_len
  rw [esT_f01] at hl3
  obtain ⟨a3, c3, hu3⟩ := row_shape hO3
  rw [hl3] at hu3
  subst hu3
  obtain ⟨w4, hw4⟩ : ∃ w4, w4 = w3.alloc (.cells #[.bool false, .slice none 0 0, .slice a3 3 c3] 41) := ⟨_, rfl⟩
  have hb4 : Below w3.heap.size w3 w4 := by rw [hw4]; exact (Below.refl _ _).alloc (Nat.le_refl _) _
  have hg4 : w4.heap[w3.heap.size]? = some (.cells #[.bool false, .slice none 0 0, .slice a3 3 c3] 41 (0, 0)) := by rw [hw4]; exact heap_alloc_new w3 _
  have hb24 := hb3.trans (hb4.mono hb3.size)
  have hs4 := (hb24.block _ (t_lt H1.out.2.2.1)).trans H1.out.2.2.1
  rw [hsz] at hs4
  have hC2 := H1.out.2.2.2.1 1 3 (by decide) (by decide) w4 hb24
  obtain ⟨b4, hb4e⟩ : ∃ b4, b4 = w3.heap.size := ⟨_, rfl⟩
  have H4 : Hid _ := And.intro hw4 (And.intro hb24 (And.intro (hb4e ▸ hg4) (And.intro hC2 hb4e)))
  clear hR hO3 hl3 hb3 hb4 hg4 hb24 hC2 hw4 hb4e x0 x1 x2 x3
  go_upto_region 3 with fail
  rw [<- H4.out.1]
  obtain ⟨x0, x1, x2, x3⟩ := four_cells hs4
  clear hs4
  go_wp2_with fail
  refine Calls.mono H4.out.2.2.2.1 ?_
  rintro r w5 ⟨R, hR, hb5, hcase⟩
  obtain rfl : R = 2 := hR.unique esT_last
  rw [esT_rk13] at hcase
  rcases hcase with ⟨_, u5, rfl, hO5⟩ | ⟨h, _⟩ | ⟨h, _⟩
  ·obtain ⟨a5, c5, hu5⟩ := row_shape hO5
   have hl5 : (natI (Ro.rnd 4 (outOf 4 esT) 2)).length = 4 := by decide
   rw [hl5] at hu5
   subst hu5
   obtain ⟨w6, hw6⟩ : ∃ w6, w6 = w5.alloc (.cells #[.bool true, .slice a5 4 c5, .slice none 0 0] 41) := ⟨_, rfl⟩
   have hb6 : Below w5.heap.size w5 w6 := by rw [hw6]; exact (Below.refl _ _).alloc (Nat.le_refl _) _
   have hg6 : w6.heap[w5.heap.size]? = some (.cells #[.bool true, .slice a5 4 c5, .slice none 0 0] 41 (0, 0)) := by rw [hw6]; exact heap_alloc_new w5 _
   have hb46 := hb5.trans (hb6.mono hb5.size)
   have hg46 := (hb46.block _ (t_lt H4.out.2.2.1)).trans H4.out.2.2.1
   rw [H4.out.2.2.2.2] at hg46
   obtain ⟨y0, y1, y2⟩ := three_cells hg6
   obtain ⟨z0', z1', z2'⟩ := three_cells hg46
   have hBd := fun V => bound_any 2 2 V (by decide)
   have hbn : bnd 2 2 = 13 := by decide
   rw [hbn] at hBd
   have hbW2 := H1.out.2.2.2.2
   have hbW4 := hbW2.trans (H4.out.2.1.mono hbW2.size)
   have H6 : Hid _ := And.intro hw6 (And.intro (hbW4.trans (hb46.mono hbW4.size)) hBd)
   clear hR hO5 hl5 hb5 hb6 hg6 hb46 hg46 hw6 hBd hbn hbW2 hbW4 x0 x1 x2 x3
   go_upto_region 4 with fail
   rw [<- H6.out.1]
   go_wp2_with fail
   refine Calls.mono (H6.out.2.2 _) ?_
   rintro r w7 ⟨rfl, hw⟩
   obtain rfl := hw.symm
   clear hw
   go_wp2_with fail
   go_ret
   exact ⟨rfl, H6.out.2.1⟩
  ·omega
  ·omega
 ·omega
end Di
section
open Go.ChangeShapes Go.WideShapes Go.ChangeAt Go.WideMaps Go.WideElems Go.RowKit
theorem Tryz.own : ownKnob Tryz.prog.godebug = none := by kernel_rfl
theorem Tryz.laidOut : laidOutB Tryz.prog = true := by kernel_rfl
theorem Tryz.cellsE : Tryz.prog.cellsOf 289 = 1 := by kernel_rfl
theorem Tryz.cellsS : Tryz.prog.cellsOf 9 = 1 := by kernel_rfl
set_option maxRecDepth 100000 in
theorem Tryz.star : "*" ++ "errors.errorString" = "*errors.errorString" := by decide
set_option maxRecDepth 100000 in
theorem Tryz.rowE (u : TypeId) (h : Tryz.prog.typeName? 3 u = some "*errors.errorString") : u = 269 :=
 typeName_ptr_named (nm := "errors.errorString") (by rw [Tryz.star]; kernel_rfl) (by kernel_rfl) (by decide) u (by rw [Tryz.star]; exact h)
set_option maxRecDepth 100000 in
theorem laid_step {W : World} {n : String} {g : Nat} {text : List UInt8} {r : List (String × DataW Unit)} {ps : List MemPlace} (hg : Tryz.prog.globalNamed n = some g) (ht : (Tryz.prog.globals[g]?).map (·.type) = some 32)
 (h : DataW.LaidVars Tryz.prog W ((n, .iface "*errors.errorString" (.ptr (.agg [.lit (.string text)]))) :: r) ps)
 (hrows : ∀ b off, MemPlace.cell b off ∈ ps -> (∃ c t, W.heap[b]? = some (.cells c t (0, 0))) /\ ∀ u v, W.cell? ⟨b, off, none⟩ = some (.iface u v) -> Value.okWide Tryz.prog W .any 0 u v) :
 ∃ a q, Sent W g a /\ DataW.LaidVars Tryz.prog W r q /\ ps = MemPlace.cell g 0 :: MemPlace.cell a.block a.off :: q := by
 obtain ⟨g0, t0, cs0, f0, p0, q0, hg0, ht0, hv0, hd0, hr, e0⟩ := h
 obtain rfl := Option.some.inj (hg.symm.trans hg0)
 obtain rfl := Option.some.inj (ht.symm.trans ht0)
 subst e0
 obtain ⟨l0⟩ := cs0
 have ok0 : ∀ u v, l0 = [.iface u v] -> Value.okWide Tryz.prog W .any 0 u v := fun u v e => by
  subst e
  exact (hrows g 0 (by simp [MemPlace.row])).2 u v (by simpa using World.var?_cell hg0 hv0 0)
 obtain ⟨a0, s0, rfl, hc0, hs0, hz0, rfl⟩ := errorString_of_trod Tryz.underlying32 Tryz.rowE Tryz.underlying269 Tryz.underlying289 rfl rfl Tryz.underlying9 Tryz.cellsE Tryz.cellsS hd0 ok0
 refine ⟨a0, q0, ⟨by simpa using World.var?_cell hg0 hv0 0, (hrows a0.block a0.off (by simp [MemPlace.row])).1⟩, hr, ?_⟩
 simp [MemPlace.row]
abbrev LE : Type := String × Nat × List UInt8
def leV (x : LE) : String × DataW Unit := (x.1, .iface "*errors.errorString" (.ptr (.agg [.lit (.string x.2.2)])))
theorem laid_list {W : World} {r : List (String × DataW Unit)} : ∀ (xs : List LE) (ps : List MemPlace), (∀ x ∈ xs, Tryz.prog.globalNamed x.1 = some x.2.1 /\ (Tryz.prog.globals[x.2.1]?).map (·.type) = some 32) ->
 DataW.LaidVars Tryz.prog W (xs.map leV ++ r) ps -> (∀ b off, MemPlace.cell b off ∈ ps -> (∃ c t, W.heap[b]? = some (.cells c t (0, 0))) /\ ∀ u v, W.cell? ⟨b, off, none⟩ = some (.iface u v) -> Value.okWide Tryz.prog W .any 0 u v) ->
 ∃ ads : List Addr, ads.length = xs.length /\ (∀ (i : Nat) (x : LE) (a : Addr), xs[i]? = some x -> ads[i]? = some a -> Sent W x.2.1 a) /\ (∀ a ∈ ads, MemPlace.cell a.block a.off ∈ ps) /\ (ps.Nodup -> ads.Pairwise (· ≠ ·))
 | [], ps, _, _, _ => ⟨[], rfl, fun i x a h => by simp at h, fun a h => by simp at h, fun _ => List.Pairwise.nil⟩
 | x :: xs, ps, hx, h, hr => by
   obtain ⟨a, q, hs, hq, rfl⟩ := laid_step (hx x List.mem_cons_self).1 (hx x List.mem_cons_self).2 h hr
   obtain ⟨ads, h1, h2, h3, h4⟩ := laid_list xs q (fun y hy => hx y (List.mem_cons_of_mem _ hy)) hq (fun b off hb => hr b off (List.mem_cons_of_mem _ (List.mem_cons_of_mem _ hb)))
   refine ⟨a :: ads, by simp [h1], fun i y b hy hb => ?_, fun b hb => ?_, fun hn => ?_⟩
   ·cases i with
    | zero => simp at hy hb; subst hy; subst hb; exact hs
    | succ i => exact h2 i y b (by simpa using hy) (by simpa using hb)
   ·rcases List.mem_cons.1 hb with rfl | hb
    ·exact List.mem_cons_of_mem _ List.mem_cons_self
    ·exact List.mem_cons_of_mem _ (List.mem_cons_of_mem _ (h3 b hb))
   ·have hn2 := (List.nodup_cons.1 hn).2
    have hn3 := List.nodup_cons.1 hn2
    exact List.Pairwise.cons (fun b hb e => hn3.1 (by rw [e]; exact h3 b hb)) (h4 hn3.2)
end
section
open Go.RowKit
theorem laid_tail {W : World} {x : String × DataW Unit} {r : List (String × DataW Unit)} (h : laidMet Tryz.prog (x :: r) W) : laidMet Tryz.prog r W := by
 obtain ⟨ps, ⟨g, t, cs, fuel, p, q, _, _, _, _, hr, rfl⟩, hn, ho⟩ := h
 exact ⟨q, hr, (List.nodup_append.1 hn).2.1, fun b off hb => ho b off (List.mem_append_right _ hb)⟩
theorem Tryz.gPow : Tryz.prog.globalNamed "internal/strconv.uint64pow10" = some 7 := by kernel_rfl
theorem Tryz.tPow : (Tryz.prog.globals[7]?).map (·.type) = some 265 := by kernel_rfl
theorem Tryz.cPowE : Tryz.prog.cellsOf 182 = 1 := by kernel_rfl
theorem Tryz.cPow : Tryz.prog.cellsOf 265 = 20 := by kernel_rfl
theorem er_pow_of {W : World} {d1 d2 : String × DataW Unit} {r : List (String × DataW Unit)} (h : laidMet Tryz.prog (d1 :: d2 :: ("internal/strconv.uint64pow10", Lib.tabData .u64 Lib.pow10Tab) :: r) W) : Pow W /\ laidMet Tryz.prog r W := by
 have h2 := laid_tail (laid_tail h)
 exact ⟨Lib.tabBelow_of_tabIs (Lib.tabIs_of_head Tryz.gPow Tryz.tPow Tryz.underlying265 Tryz.underlying182 Tryz.cPowE Tryz.cPow h2), laid_tail h2⟩
end
namespace Di
open Go.ChangeShapes Go.WideShapes Go.ChangeAt Go.WideMaps Go.WideElems Go.RowKit
theorem et : Tryz.prog.globalNamed "errors.errorType" = some 4 := by kernel_rfl
theorem rt : (Tryz.prog.cutTypes.find? (·.1 == "internal/reflectlite.rtype")).map (·.2) = some 113 := by kernel_rfl
theorem oneRow : ((List.range Tryz.prog.types.size).filter fun t => Tryz.prog.rowNamed t [101, 114, 114, 111, 114]) = [32] := by kernel_rfl
set_option maxRecDepth 100000 in
theorem handle_of {W : World} (h : handlesMet Tryz.prog [("errors.errorType", Rows.laid_errors_errorType)] W) : W.cell? ⟨4, 0, none⟩ = some (.iface 113 (.agg #[.pointer (some ⟨10, 32, none⟩)])) := by
 obtain ⟨name, u, ty, e1, e2, e3, e4, e5⟩ := h _ (List.mem_singleton.2 rfl)
 have en : name = [101, 114, 114, 111, 114] := (Option.some.inj e1).symm
 subst en
 obtain rfl := Option.some.inj (rt.symm.trans e2)
 have hm : ty ∈ (List.range Tryz.prog.types.size).filter fun t => Tryz.prog.rowNamed t [101, 114, 114, 111, 114] := List.mem_filter.2 ⟨List.mem_range.2 e3, e4⟩
 rw [oneRow] at hm
 obtain rfl := List.mem_singleton.1 hm
 have hh : typeHandle Tryz.prog 32 = .pointer (some ⟨10, 32, none⟩) := by kernel_rfl
 rw [hh] at e5
 simpa using World.var?_cell et e5 0
abbrev eI (x : List UInt8) : DataW Unit := .iface "*errors.errorString" (.ptr (.agg [.lit (.string x)]))
theorem six_of {W : World} {x1 x2 x3 x4 x5 x6 : List UInt8} {r : List (String × DataW Unit)} (h : laidMet Tryz.prog (("semblance/api.ErrArg", eI x1) :: ("semblance/api.ErrLong", eI x2) :: ("semblance/api.ErrIndex", eI x3) :: ("semblance/api.ErrSystem", eI x4) :: ("semblance/api.ErrLimit", eI x5) :: ("semblance/api.ErrNone", eI x6) :: r) W) :
 ∃ a aL aN, Sent W 5 a /\ Sent W 0 aL /\ Sent W 1 aN /\ aN ≠ aL := by
 obtain ⟨ps, h0, hnd, r0⟩ := h
 obtain ⟨ads, h1, h2, _, h4⟩ := laid_list [("semblance/api.ErrArg", 6, x1), ("semblance/api.ErrLong", 3, x2), ("semblance/api.ErrIndex", 2, x3), ("semblance/api.ErrSystem", 5, x4), ("semblance/api.ErrLimit", 0, x5), ("semblance/api.ErrNone", 1, x6)] ps (fun x hx => by
  simp only [List.mem_cons, List.not_mem_nil, or_false] at hx
  rcases hx with rfl | rfl | rfl | rfl | rfl | rfl
  all_goals exact ⟨by kernel_rfl, by kernel_rfl⟩) h0 r0
 have hl : ads.length = 6 := h1
 obtain ⟨a, ha⟩ : ∃ a, ads[3]? = some a := ⟨_, List.getElem?_eq_getElem (by omega)⟩
 obtain ⟨b, hb⟩ : ∃ a, ads[4]? = some a := ⟨_, List.getElem?_eq_getElem (by omega)⟩
 obtain ⟨c, hc⟩ : ∃ a, ads[5]? = some a := ⟨_, List.getElem?_eq_getElem (by omega)⟩
 refine ⟨a, b, c, h2 3 _ a rfl ha, h2 4 _ b rfl hb, h2 5 _ c rfl hc, fun e => ?_⟩
 obtain ⟨i4, e4⟩ := List.getElem?_eq_some_iff.1 hb
 obtain ⟨i5, e5⟩ := List.getElem?_eq_some_iff.1 hc
 have := List.pairwise_iff_getElem.1 (h4 hnd) 4 5 i4 i5 (by omega)
 rw [e4, e5] at this
 exact this e.symm
theorem wf_le {x : Int} (h : (Lit.int .i64 x).wf = true) : x <= 9223372036854775807 := by
 have h1 : IntKind.i64.min <= x /\ x <= 9223372036854775807 := by simpa [Lit.wf] using h
 exact h1.2
end Di
namespace Di
open Go.RowKit Go.Maps
attribute [local go_sem ↓] Go.wp_at_zero Go.wp_at_succ
theorem bnd_range (k d : Int) : 1 <= bnd k d /\ bnd k d <= 5001 := by
 unfold bnd
 split
 ·omega
 ·split
  ·omega
  ·exact bn_range (by omega) _
theorem bnd_low {k : Int} (d : Int) (h : k < 1) : bnd k d = 1 := by unfold bnd; rw [if_pos h]
theorem bnd_next (k d : Int) : bnd k d <= bnd (k + 1) d := by
 by_cases h1 : k < 1
 ·rw [bnd_low d h1]
  exact (bnd_range _ _).1
 ·unfold bnd
  rw [if_neg h1, if_neg (show ¬ k + 1 < 1 by omega)]
  split
  ·omega
  ·rename_i h2
   rw [show (k + 1).toNat = k.toNat + 1 by omega]
   obtain ⟨g1, g2⟩ := bn_range (d := d) (by omega) k.toNat
   have g3 : 1 * (bn d k.toNat + 1) <= d * (bn d k.toNat + 1) := Int.mul_le_mul_of_nonneg_right (by omega) (by omega)
   show bn d k.toNat <= min 5001 (1 + d * (bn d k.toNat + 1))
   omega
theorem bn_deg {d : Int} (hd : 1 <= d) (k : Nat) : bn d k <= bn (d + 1) k := by
 induction k with
 | zero => exact Int.le_refl _
 | succ k ih =>
   have g1 := (bn_range hd k).1
   have g2 : d * (bn d k + 1) <= (d + 1) * (bn (d + 1) k + 1) := Int.mul_le_mul (by omega) (by omega) (by omega) (by omega)
   show min 5001 (1 + d * (bn d k + 1)) <= min 5001 (1 + (d + 1) * (bn (d + 1) k + 1))
   omega
theorem bnd_deg {k d : Int} (hd : 1 <= d) : bnd k d <= bnd k (d + 1) := by
 by_cases h1 : k < 1
 ·rw [bnd_low d h1, bnd_low _ h1]
  exact Int.le_refl _
 ·unfold bnd
  rw [if_neg h1, if_neg h1, if_neg (show ¬ d < 1 by omega), if_neg (show ¬ d + 1 < 1 by omega)]
  exact bn_deg hd _
set_option maxRecDepth 100000 in
set_option maxHeartbeats 1000000 in
theorem lawGrows_far (hS : SortOk 1000000) (k d : Int) (a aL aN : Addr) (w : World) (hE : EnvC w a aL aN) (hk : k <= 9223372036854775807)
 (hf : 1099511627776 < k \/ 1099511627776 < d \/ k < -1099511627776 \/ d < -1099511627776) :
 Calls Tryz.prog 3 #[.int .i64 k, .int .i64 d] w fun r w' => r = .returned (.bool true) /\ Below w.heap.size w w' := by
 have hA := pAl hS a aL aN w hE w (Below.refl _ _)
 have hB := fun V => bound_any k d V hk
 obtain ⟨g1, g2⟩ := bnd_range k d
 obtain ⟨b, hb⟩ : ∃ b, b = bnd k d := ⟨_, rfl⟩
 rw [<- hb] at hB g1 g2
 have H : Hid _ := And.intro hA hB
 have g3 : decide (1 <= b) = true := decide_eq_true g1
 have g4 : decide (b <= 5001) = true := decide_eq_true g2
 clear hA hB hb hE
 by_cases f1 : 1099511627776 < k
 ·go_enter Tryz.func3, Tryz.ntmps3
  go_wp2_with fail
  refine Calls.mono (H.out.2 _) ?_
  rintro r w3 ⟨rfl, hw⟩
  obtain rfl := hw.symm
  clear hw
  go_wp2_with fail
  refine Calls.mono H.out.1 ?_
  rintro r w2 ⟨rfl, hb2⟩
  have H2 : Hid _ := And.intro hb2 trivial
  clear hb2
  go_wp2_with fail
  go_ret
  exact ⟨rfl, H2.out.1⟩
 by_cases f2 : 1099511627776 < d
 ·go_enter Tryz.func3, Tryz.ntmps3
  go_wp2_with fail
  refine Calls.mono (H.out.2 _) ?_
  rintro r w3 ⟨rfl, hw⟩
  obtain rfl := hw.symm
  clear hw
  go_wp2_with fail
  refine Calls.mono H.out.1 ?_
  rintro r w2 ⟨rfl, hb2⟩
  have H2 : Hid _ := And.intro hb2 trivial
  clear hb2
  go_wp2_with fail
  go_ret
  exact ⟨rfl, H2.out.1⟩
 by_cases f3 : k < -1099511627776
 ·go_enter Tryz.func3, Tryz.ntmps3
  go_wp2_with fail
  refine Calls.mono (H.out.2 _) ?_
  rintro r w3 ⟨rfl, hw⟩
  obtain rfl := hw.symm
  clear hw
  go_wp2_with fail
  refine Calls.mono H.out.1 ?_
  rintro r w2 ⟨rfl, hb2⟩
  have H2 : Hid _ := And.intro hb2 trivial
  clear hb2
  go_wp2_with fail
  go_ret
  exact ⟨rfl, H2.out.1⟩
 ·have f4 : d < -1099511627776 := by omega
  go_enter Tryz.func3, Tryz.ntmps3
  go_wp2_with fail
  refine Calls.mono (H.out.2 _) ?_
  rintro r w3 ⟨rfl, hw⟩
  obtain rfl := hw.symm
  clear hw
  go_wp2_with fail
  refine Calls.mono H.out.1 ?_
  rintro r w2 ⟨rfl, hb2⟩
  have H2 : Hid _ := And.intro hb2 trivial
  clear hb2
  go_wp2_with fail
  go_ret
  exact ⟨rfl, H2.out.1⟩
set_option maxRecDepth 100000 in
set_option maxHeartbeats 1000000 in
theorem lawGrows_near (hS : SortOk 1000000) (k d : Int) (a aL aN : Addr) (w : World) (hE : EnvC w a aL aN)
 (h1 : k <= 1099511627776) (h2 : d <= 1099511627776) (h3 : -1099511627776 <= k) (h4 : -1099511627776 <= d) :
 Calls Tryz.prog 3 #[.int .i64 k, .int .i64 d] w fun r w' => r = .returned (.bool true) /\ Below w.heap.size w w' := by
 have hA := pAl hS a aL aN w hE w (Below.refl _ _)
 have hB := fun V => bound_any k d V (by omega)
 have hB1 := fun V => bound_any (k + 1) d V (by omega)
 have hB2 := fun V => bound_any k (d + 1) V (by omega)
 obtain ⟨g1, g2⟩ := bnd_range k d
 obtain ⟨_, g5⟩ := bnd_range (k + 1) d
 obtain ⟨_, g6⟩ := bnd_range k (d + 1)
 have g7 := bnd_next k d
 have g8 : ¬ d < 1 -> bnd k d <= bnd k (d + 1) := fun h => bnd_deg (by omega)
 have g9 : k < 1 -> bnd k d = 1 := bnd_low d
 obtain ⟨b, hb⟩ : ∃ b, b = bnd k d := ⟨_, rfl⟩
 obtain ⟨b1, hb1⟩ : ∃ b, b = bnd (k + 1) d := ⟨_, rfl⟩
 obtain ⟨b2, hb2⟩ : ∃ b, b = bnd k (d + 1) := ⟨_, rfl⟩
 rw [<- hb] at hB g1 g2 g7 g8 g9
 rw [<- hb1] at hB1 g5 g7
 rw [<- hb2] at hB2 g6 g8
 have H : Hid _ := And.intro hA (And.intro hB (And.intro hB1 hB2))
 have c1 : IntKind.i64.wrap (k + 1) = k + 1 := by rw [IntKind.wrap_i64]; omega
 have c2 : IntKind.i64.wrap (d + 1) = d + 1 := by rw [IntKind.wrap_i64]; omega
 have e1 : ¬ 1099511627776 < k := by omega
 have e2 : ¬ 1099511627776 < d := by omega
 have e3 : ¬ k < -1099511627776 := by omega
 have e4 : ¬ d < -1099511627776 := by omega
 have e5 : ¬ b < 1 := by omega
 have e6 : ¬ b1 < b := by omega
 have e7 : ¬ 5001 < b2 := by omega
 have e8 : ¬ 5001 < b1 := by omega
 clear hA hB hB1 hB2 hb hb1 hb2 hE h1 h2 h3 h4 g1 g2 g5 g6 g7
 go_enter Tryz.func3, Tryz.ntmps3
 go_wp2_with fail
 refine Calls.mono (H.out.2.1 _) ?_
 rintro r w3 ⟨rfl, hw⟩
 obtain rfl := hw.symm
 clear hw
 go_wp2_with fail
 refine Calls.mono (H.out.2.2.1 _) ?_
 rintro r w3 ⟨rfl, hw⟩
 obtain rfl := hw.symm
 clear hw
 go_wp2_with fail
 refine Calls.mono (H.out.2.2.2 _) ?_
 rintro r w3 ⟨rfl, hw⟩
 obtain rfl := hw.symm
 clear hw
 go_wp2_with fail
 refine Calls.mono H.out.1 ?_
 rintro r w2 ⟨rfl, hbA⟩
 have H2 : Hid _ := And.intro hbA trivial
 clear hbA
 by_cases q1 : d < 1
 ·by_cases q2 : k < 1
  ·have q3 := g9 (by omega)
   subst q3
   clear g8 g9
   go_wp2_with fail
   go_ret
   exact ⟨rfl, H2.out.1⟩
  ·clear g8 g9
   go_wp2_with fail
   go_ret
   exact ⟨rfl, H2.out.1⟩
 ·have q4 := g8 (by omega)
  by_cases q2 : k < 1
  ·have q3 := g9 (by omega)
   subst q3
   clear g8 g9
   go_wp2_with fail
   go_ret
   exact ⟨rfl, H2.out.1⟩
  ·clear g8 g9
   go_wp2_with fail
   go_ret
   exact ⟨rfl, H2.out.1⟩
theorem lawGrows_any (hS : SortOk 1000000) (k d : Int) (a aL aN : Addr) (w : World) (hE : EnvC w a aL aN) (hk : k <= 9223372036854775807) :
 Calls Tryz.prog 3 #[.int .i64 k, .int .i64 d] w fun r w' => r = .returned (.bool true) /\ Below w.heap.size w w' := by
 by_cases hf : 1099511627776 < k \/ 1099511627776 < d \/ k < -1099511627776 \/ d < -1099511627776
 ·exact lawGrows_far hS k d a aL aN w hE hk hf
 ·exact lawGrows_near hS k d a aL aN w hE (by omega) (by omega) (by omega) (by omega)
end Di
end Go.Proofs.YtgehimdkdeldaabGreatDoor
