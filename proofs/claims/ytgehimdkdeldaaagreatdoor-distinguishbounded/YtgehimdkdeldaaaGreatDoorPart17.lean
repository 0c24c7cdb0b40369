/- Texts of this claim, joined: ErLaid, RoLaid, DiLaid, DiSize, DiBnd, SyLent, SyArgI, SyArg. -/
import Derived.Test.YtgehimdkdeldaaaGreatDoorRows
import Derived.Test.YtgehimdkdeldaaaGreatDoorPart0
import Derived.ProofKit
import Derived.LaidMore
import Derived.Stop.LaidErr
import Derived.Test.YtgehimdkdeldaaaGreatDoorPart1
import Derived.Test.YtgehimdkdeldaaaGreatDoorPart4
import Derived.Lib.LaidTab
import Derived.Test.YtgehimdkdeldaaaGreatDoorPart16
import Derived.Test.YtgehimdkdeldaaaGreatDoorPart12
import Derived.Lib.SmallJoins
import Derived.Deep.Slices
namespace Go.Proofs.YtgehimdkdeldaaaGreatDoor
section
open Go.ChangeShapes Go.WideShapes Go.ChangeAt Go.WideMaps Go.WideElems Go.RowKit
theorem Tryz.own : ownKnob Tryz.prog.godebug = none := by kernel_rfl
theorem Tryz.laidOut : laidOutB Tryz.prog = true := by kernel_rfl
theorem Tryz.cellsE : Tryz.prog.cellsOf 403 = 1 := by kernel_rfl
theorem Tryz.cellsS : Tryz.prog.cellsOf 9 = 1 := by kernel_rfl
set_option maxRecDepth 100000 in
theorem Tryz.star : "*" ++ "errors.errorString" = "*errors.errorString" := by decide
set_option maxRecDepth 100000 in
theorem Tryz.rowE (u : TypeId) (h : Tryz.prog.typeName? 3 u = some "*errors.errorString") : u = 383 :=
 typeName_ptr_named (nm := "errors.errorString") (by rw [Tryz.star]; kernel_rfl) (by kernel_rfl) (by decide) u (by rw [Tryz.star]; exact h)
set_option maxRecDepth 100000 in
theorem laid_step {W : World} {n : String} {g : Nat} {text : List UInt8} {r : List (String × DataW Unit)} {ps : List MemPlace} (hg : Tryz.prog.globalNamed n = some g) (ht : (Tryz.prog.globals[g]?).map (·.type) = some 52)
 (h : DataW.LaidVars Tryz.prog W ((n, .iface "*errors.errorString" (.ptr (.agg [.lit (.string text)]))) :: r) ps)
 (hrows : ∀ b off, MemPlace.cell b off ∈ ps -> (∃ c t, W.heap[b]? = some (.cells c t (0, 0))) /\ ∀ u v, W.cell? ⟨b, off, none⟩ = some (.iface u v) -> Value.okWide Tryz.prog W .any 0 u v) :
 ∃ a q, Sent W g a /\ DataW.LaidVars Tryz.prog W r q /\ ps = MemPlace.cell g 0 :: MemPlace.cell a.block a.off :: q := by
 obtain ⟨g0, t0, cs0, f0, p0, q0, hg0, ht0, hv0, hd0, hr, e0⟩ := h
 obtain rfl := Option.some.inj (hg.symm.trans hg0)
 obtain rfl := Option.some.inj (ht.symm.trans ht0)
 subst e0
 obtain ⟨l0⟩ := cs0
 have ok0 : ∀ u v, l0 = [.iface u v] -> Value.okWide Tryz.prog W .any 0 u v := fun u v e => by
  subst e
  exact (hrows g 0 (by simp [MemPlace.row])).2 u v (by simpa using World.var?_cell hg0 hv0 0)
 obtain ⟨a0, s0, rfl, hc0, hs0, hz0, rfl⟩ := errorString_of_trod Tryz.underlying52 Tryz.rowE Tryz.underlying383 Tryz.underlying403 rfl rfl Tryz.underlying9 Tryz.cellsE Tryz.cellsS hd0 ok0
 refine ⟨a0, q0, ⟨by simpa using World.var?_cell hg0 hv0 0, (hrows a0.block a0.off (by simp [MemPlace.row])).1⟩, hr, ?_⟩
 simp [MemPlace.row]
abbrev LE : Type := String × Nat × List UInt8
def leV (x : LE) : String × DataW Unit := (x.1, .iface "*errors.errorString" (.ptr (.agg [.lit (.string x.2.2)])))
theorem laid_list {W : World} {r : List (String × DataW Unit)} : ∀ (xs : List LE) (ps : List MemPlace), (∀ x ∈ xs, Tryz.prog.globalNamed x.1 = some x.2.1 /\ (Tryz.prog.globals[x.2.1]?).map (·.type) = some 52) ->
 DataW.LaidVars Tryz.prog W (xs.map leV ++ r) ps -> (∀ b off, MemPlace.cell b off ∈ ps -> (∃ c t, W.heap[b]? = some (.cells c t (0, 0))) /\ ∀ u v, W.cell? ⟨b, off, none⟩ = some (.iface u v) -> Value.okWide Tryz.prog W .any 0 u v) ->
 ∃ ads : List Addr, ads.length = xs.length /\ (∀ (i : Nat) (x : LE) (a : Addr), xs[i]? = some x -> ads[i]? = some a -> Sent W x.2.1 a) /\ (∀ a ∈ ads, MemPlace.cell a.block a.off ∈ ps) /\ (ps.Nodup -> ads.Pairwise (· ≠ ·))
 | [], ps, _, _, _ => ⟨[], rfl, fun i x a h => by simp at h, fun a h => by simp at h, fun _ => List.Pairwise.nil⟩
 | x :: xs, ps, hx, h, hr => by
   obtain ⟨a, q, hs, hq, rfl⟩ := laid_step (hx x List.mem_cons_self).1 (hx x List.mem_cons_self).2 h hr
   obtain ⟨ads, h1, h2, h3, h4⟩ := laid_list xs q (fun y hy => hx y (List.mem_cons_of_mem _ hy)) hq (fun b off hb => hr b off (List.mem_cons_of_mem _ (List.mem_cons_of_mem _ hb)))
   refine ⟨a :: ads, by simp [h1], fun i y b hy hb => ?_, fun b hb => ?_, fun hn => ?_⟩
   ·cases i with
    | zero => simp at hy hb; subst hy; subst hb; exact hs
    | succ i => exact h2 i y b (by simpa using hy) (by simpa using hb)
   ·rcases List.mem_cons.1 hb with rfl | hb
    ·exact List.mem_cons_of_mem _ List.mem_cons_self
    ·exact List.mem_cons_of_mem _ (List.mem_cons_of_mem _ (h3 b hb))
   ·have hn2 := (List.nodup_cons.1 hn).2
    have hn3 := List.nodup_cons.1 hn2
    exact List.Pairwise.cons (fun b hb e => hn3.1 (by rw [e]; exact h3 b hb)) (h4 hn3.2)
end
section
open Go.RowKit
theorem laid_tail {W : World} {x : String × DataW Unit} {r : List (String × DataW Unit)} (h : laidMet Tryz.prog (x :: r) W) : laidMet Tryz.prog r W := by
 obtain ⟨ps, ⟨g, t, cs, fuel, p, q, _, _, _, _, hr, rfl⟩, hn, ho⟩ := h
 exact ⟨q, hr, (List.nodup_append.1 hn).2.1, fun b off hb => ho b off (List.mem_append_right _ hb)⟩
theorem Tryz.gPow : Tryz.prog.globalNamed "internal/strconv.uint64pow10" = some 20 := by kernel_rfl
theorem Tryz.tPow : (Tryz.prog.globals[20]?).map (·.type) = some 379 := by kernel_rfl
theorem Tryz.cPowE : Tryz.prog.cellsOf 333 = 1 := by kernel_rfl
theorem Tryz.cPow : Tryz.prog.cellsOf 379 = 20 := by kernel_rfl
theorem er_pow_of {W : World} {d1 d2 : String × DataW Unit} {r : List (String × DataW Unit)} (h : laidMet Tryz.prog (d1 :: d2 :: ("internal/strconv.uint64pow10", Lib.tabData .u64 Lib.pow10Tab) :: r) W) : Pow W /\ laidMet Tryz.prog r W := by
 have h2 := laid_tail (laid_tail h)
 exact ⟨Lib.tabBelow_of_tabIs (Lib.tabIs_of_head Tryz.gPow Tryz.tPow Tryz.underlying379 Tryz.underlying333 Tryz.cPowE Tryz.cPow h2), laid_tail h2⟩
end
namespace Di
open Go.ChangeShapes Go.WideShapes Go.ChangeAt Go.WideMaps Go.WideElems Go.RowKit
theorem et : Tryz.prog.globalNamed "errors.errorType" = some 19 := by kernel_rfl
theorem rt : (Tryz.prog.cutTypes.find? (·.1 == "internal/reflectlite.rtype")).map (·.2) = some 210 := by kernel_rfl
theorem oneRow : ((List.range Tryz.prog.types.size).filter fun t => Tryz.prog.rowNamed t [101, 114, 114, 111, 114]) = [52] := by kernel_rfl
set_option maxRecDepth 100000 in
theorem handle_of {W : World} (h : handlesMet Tryz.prog [("errors.errorType", Rows.laid_errors_errorType)] W) : W.cell? ⟨19, 0, none⟩ = some (.iface 210 (.agg #[.pointer (some ⟨23, 52, none⟩)])) := by
 obtain ⟨name, u, ty, e1, e2, e3, e4, e5⟩ := h _ (List.mem_singleton.2 rfl)
 have en : name = [101, 114, 114, 111, 114] := (Option.some.inj e1).symm
 subst en
 obtain rfl := Option.some.inj (rt.symm.trans e2)
 have hm : ty ∈ (List.range Tryz.prog.types.size).filter fun t => Tryz.prog.rowNamed t [101, 114, 114, 111, 114] := List.mem_filter.2 ⟨List.mem_range.2 e3, e4⟩
 rw [oneRow] at hm
 obtain rfl := List.mem_singleton.1 hm
 have hh : typeHandle Tryz.prog 52 = .pointer (some ⟨23, 52, none⟩) := by kernel_rfl
 rw [hh] at e5
 simpa using World.var?_cell et e5 0
abbrev eI (x : List UInt8) : DataW Unit := .iface "*errors.errorString" (.ptr (.agg [.lit (.string x)]))
theorem six_of {W : World} {x1 x2 x3 x4 x5 x6 : List UInt8} {r : List (String × DataW Unit)} (h : laidMet Tryz.prog (("semblance/api.ErrArg", eI x1) :: ("semblance/api.ErrLong", eI x2) :: ("semblance/api.ErrIndex", eI x3) :: ("semblance/api.ErrSystem", eI x4) :: ("semblance/api.ErrLimit", eI x5) :: ("semblance/api.ErrNone", eI x6) :: r) W) :
 ∃ a aL aN, Sent W 2 a /\ Sent W 0 aL /\ Sent W 1 aN /\ aN ≠ aL := by
 obtain ⟨ps, h0, hnd, r0⟩ := h
 obtain ⟨ads, h1, h2, _, h4⟩ := laid_list [("semblance/api.ErrArg", 4, x1), ("semblance/api.ErrLong", 5, x2), ("semblance/api.ErrIndex", 3, x3), ("semblance/api.ErrSystem", 2, x4), ("semblance/api.ErrLimit", 0, x5), ("semblance/api.ErrNone", 1, x6)] ps (fun x hx => by
  simp only [List.mem_cons, List.not_mem_nil, or_false] at hx
  rcases hx with rfl | rfl | rfl | rfl | rfl | rfl
  all_goals exact ⟨by kernel_rfl, by kernel_rfl⟩) h0 r0
 have hl : ads.length = 6 := h1
 obtain ⟨a, ha⟩ : ∃ a, ads[3]? = some a := ⟨_, List.getElem?_eq_getElem (by omega)⟩
 obtain ⟨b, hb⟩ : ∃ a, ads[4]? = some a := ⟨_, List.getElem?_eq_getElem (by omega)⟩
 obtain ⟨c, hc⟩ : ∃ a, ads[5]? = some a := ⟨_, List.getElem?_eq_getElem (by omega)⟩
 refine ⟨a, b, c, h2 3 _ a rfl ha, h2 4 _ b rfl hb, h2 5 _ c rfl hc, fun e => ?_⟩
 obtain ⟨i4, e4⟩ := List.getElem?_eq_some_iff.1 hb
 obtain ⟨i5, e5⟩ := List.getElem?_eq_some_iff.1 hc
 have := List.pairwise_iff_getElem.1 (h4 hnd) 4 5 i4 i5 (by omega)
 rw [e4, e5] at this
 exact this e.symm
end Di
namespace Di
open Go.RowKit Go.Maps
theorem bnd_pos (k d : Int) : 1 <= bnd k d := by
 unfold bnd
 split
 ·omega
 ·split
  ·omega
  ·exact (bn_range (by omega) _).1
theorem foldl_size_le {B : Nat} (r : List Fm) : ∀ (a : Fm), (∀ x ∈ r, x.size <= B) -> (r.foldl Fm.both a).size <= a.size + r.length * (B + 1) := by
 induction r with
 | nil => intro a _; simp
 | cons b r ih =>
   intro a h
   have h1 := ih (.both a b) fun x hx => h x (List.mem_cons_of_mem _ hx)
   have h2 := h b (List.mem_cons_self ..)
   have h3 : (Fm.both a b).size = a.size + b.size + 1 := rfl
   rw [List.foldl_cons, List.length_cons, Nat.succ_mul]
   omega
theorem jn_size_le {l : List Fm} {B d : Nat} (h : ∀ x ∈ l, x.size <= B) (hl : l.length <= d) (hd : 1 <= d) (hB : 1 <= B) : (jn l).size + 1 <= d * (B + 1) := by
 have h1 : ∀ x ∈ Ro.dd l, x.size <= B := fun x hx => h x ((Ro.mem_dd l).1 hx)
 have h2 := Ro.dd_le l
 have one : 1 * (B + 1) <= d * (B + 1) := Nat.mul_le_mul_right _ hd
 unfold jn
 cases e : Ro.dd l with
 | nil => show 1 + 1 <= _; omega
 | cons a r =>
   rw [e] at h1 h2
   rw [List.length_cons] at h2
   have h3 := foldl_size_le (B := B) r a fun x hx => h1 x (List.mem_cons_of_mem _ hx)
   have h4 := h1 a (List.mem_cons_self ..)
   have h5 : (r.length + 1) * (B + 1) <= d * (B + 1) := Nat.mul_le_mul_right _ (by omega)
   rw [Nat.succ_mul] at h5
   show (r.foldl Fm.both a).size + 1 <= _
   omega
theorem size_bn {out : Nat -> List Ro.St} {rk : Nat -> Nat -> Int} {m d : Nat} (h : Th out rk m) (hl : ∀ i, i < m -> (out i).length <= d) (hd : 1 <= d) :
 ∀ (k p q : Nat), p < m -> q < m -> 1 <= rk p q -> rk p q <= k -> bn d k < 5001 -> ((FF out rk p q).size : Int) <= bn d k := by
 intro k
 induction k with
 | zero => intro p q _ _ h1 h2 _; omega
 | succ k ih =>
   intro p q hp hq h1 h2 hb
   obtain ⟨b1, b2⟩ := bn_range (d := (d : Int)) (by omega) k
   have hs : bn d (k + 1) = min 5001 (1 + d * (bn d k + 1)) := rfl
   obtain ⟨B, hB⟩ : ∃ B : Nat, (B : Int) = bn d k := ⟨(bn d k).toNat, by omega⟩
   have hm1 : (1 : Int) * (bn d k + 1) <= d * (bn d k + 1) := Int.mul_le_mul_of_nonneg_right (by omega) (by omega)
   have hcast : ((d * (B + 1) : Nat) : Int) = d * (bn d k + 1) := by rw [<- hB]; push_cast; rfl
   -- a pair of which a step tells
   have one : ∀ p q, p < m -> q < m -> 1 <= rk p q -> rk p q <= (k + 1 : Nat) -> (telling out rk p q).isSome -> (FF out rk p q).size <= d * (B + 1) := fun p q hp hq h1 h2 ht => by
    rw [h.eq hp hq h1]
    cases e : telling out rk p q with
    | none => rw [e] at ht; cases ht
    | some z =>
      show (jn _).size + 1 <= _
      refine jn_size_le (fun x hx => ?_) ?_ hd (by omega)
      ·obtain ⟨y, hy, rfl⟩ := List.mem_map.1 hx
       obtain ⟨g1, g2, g3, _⟩ := h.part hp hq e hy
       have g4 := (tel_part (tel_mem out rk e).2 hy).2
       have := ih _ _ g1 g2 g3 (by omega) (by omega)
       omega
      ·rw [List.length_map]
       exact Nat.le_trans (List.length_filter_le _ _) (hl q hq)
   cases e : telling out rk p q with
   | some z =>
     have := one p q hp hq h1 h2 (by rw [e]; rfl)
     omega
   | none =>
     obtain ⟨_, g1, g2⟩ := h.flip hp hq h1 e
     have g3 := one q p hq hp g1 (by rw [h.comm q p]; exact h2) g2
     rw [h.eq hp hq h1, e]
     show (((FF out rk q p).size + 1 : Nat) : Int) <= _
     omega
theorem degTo_ge (l : List Sy.Ed) : ∀ (n i : Nat), i < n -> (Sy.steps l (i : Int)).length <= Sy.degTo l n
 | n + 1, i, h => by
   unfold Sy.degTo
   rcases Nat.lt_or_ge i n with h1 | h1
   ·have := degTo_ge l n i h1
    omega
   ·obtain rfl : i = n := by omega
    omega
theorem size_bnd {m R p q : Nat} {k s : Int} {es : List Sy.Ed} (hq : Sy.right m k s es = true) (hm : m <= 1000) (hR : Ro.Last m (outOf m es) R) (hp : p < m) (hq2 : q < m) (h1 : 1 <= rkS m es R p q)
 (hb : bnd ((m : Int) - 1) (Sy.degTo (Sy.nf es) m : Nat) <= 5000) : ((FF (outOf m es) (rkS m es R) p q).size : Int) <= bnd ((m : Int) - 1) (Sy.degTo (Sy.nf es) m : Nat) := by
 have hF := steps_fit hq
 have hlt := hR.lt
 have hrk := (rkT_lt m (outOf m es) (R + 1) p q).2
 have hT : Th (outOf m es) (rkS m es R) m := th_of (fun i hi z hz => (hF i hi).2 z hz |>.2) hm (by omega)
 have hlen : ∀ i, i < m -> (outOf m es i).length <= Sy.degTo (Sy.nf es) m := fun i hi => by
  unfold outOf
  rw [rowOf_in _ hi]
  exact degTo_ge _ _ _ hi
 have hd : 1 <= Sy.degTo (Sy.nf es) m := by
  rcases hT.one p q hp hq2 h1 with h | h
  ·obtain ⟨z, hz⟩ := Option.isSome_iff_exists.1 h
   have := List.length_pos_of_mem (tel_mem _ _ hz).1
   have := hlen p hp
   omega
  ·obtain ⟨z, hz⟩ := Option.isSome_iff_exists.1 h
   have := List.length_pos_of_mem (tel_mem _ _ hz).1
   have := hlen q hq2
   omega
 have h1' : 1 <= rkT m (outOf m es) (R + 1) p q := h1
 have e : bnd ((m : Int) - 1) (Sy.degTo (Sy.nf es) m : Nat) = bn (Sy.degTo (Sy.nf es) m : Nat) (m - 1) := by
  unfold bnd
  rw [if_neg (by omega), if_neg (by omega), show ((m : Int) - 1).toNat = m - 1 by omega]
 rw [e] at hb ⊢
 exact size_bn hT hlen hd (m - 1) p q hp hq2 h1 (by show rkT m (outOf m es) (R + 1) p q <= _; omega) (by omega)
#print axioms size_bnd
end Di
namespace Di
open Go.RowKit Go.Maps
attribute [local go_sem ↓] Go.wp_at_zero Go.wp_at_succ
def smallB (n : Int) (m : Nat) : Bool := decide (n <= 30) && decide (m <= 150)
set_option maxRecDepth 100000 in
set_option maxHeartbeats 1000000 in
theorem small_any (n k s : Int) (ao : Option Addr) (m cap : Nat) (w : World) :
 Calls Tryz.prog 27 #[sysV n k s (.slice ao m cap)] w fun e w' => e = .returned (.bool (smallB n m)) /\ Below w.heap.size w w' := by
 obtain ⟨w1, hw1⟩ : ∃ w1, w1 = w.alloc (.cells #[.int .i64 n, .int .i64 k, .int .i64 s, .slice ao m cap] 27) := ⟨_, rfl⟩
 have hb1 : Below w.heap.size w w1 := by rw [hw1]; exact (Below.refl _ _).alloc (Nat.le_refl _) _
 have hg1 : w1.heap[w.heap.size]? = some (.cells #[.int .i64 n, .int .i64 k, .int .i64 s, .slice ao m cap] 27 (0, 0)) := by rw [hw1]; exact heap_alloc_new w _
 have H1 : Hid _ := And.intro hw1 hb1
 obtain ⟨x0, x1, x2, x3⟩ := four_cells hg1
 clear hb1 hw1 hg1
 unfold sysV
 by_cases h1 : n <= 30
 ·by_cases h2 : m <= 150
  ·have e1 : decide (n <= 30) = true := decide_eq_true h1
   have e2 : decide (m <= 150) = true := decide_eq_true h2
   have e3 : decide ((m : Int) <= 150) = true := by simp; omega
   have e4 : smallB n m = true := by unfold smallB; rw [e1, e2]; rfl
   rw [e4]
   clear h1 h2 e4
   go_enter Tryz.func27, Tryz.ntmps27
   go_upto_region 1 with fail
   rw [<- H1.out.1]
   go_wp2_with fail
   go_ret
   exact ⟨rfl, H1.out.2⟩
  ·have e1 : decide (n <= 30) = true := decide_eq_true h1
   have e2 : decide (m <= 150) = false := decide_eq_false h2
   have e3 : decide ((m : Int) <= 150) = false := by simp; omega
   have e4 : smallB n m = false := by unfold smallB; rw [e1, e2]; rfl
   rw [e4]
   clear h1 h2 e4
   go_enter Tryz.func27, Tryz.ntmps27
   go_upto_region 1 with fail
   rw [<- H1.out.1]
   go_wp2_with fail
   go_ret
   exact ⟨rfl, H1.out.2⟩
 ·have e1 : decide (n <= 30) = false := decide_eq_false h1
  have e4 : smallB n m = false := by unfold smallB; rw [e1]; rfl
  rw [e4]
  clear h1 e4
  go_enter Tryz.func27, Tryz.ntmps27
  go_upto_region 1 with fail
  rw [<- H1.out.1]
  go_wp2_with fail
  go_ret
  exact ⟨rfl, H1.out.2⟩
def box1 (w : World) (n k s : Int) (ao : Option Addr) (L cap : Nat) : World := w.alloc (.cells #[.int .i64 n, .int .i64 k, .int .i64 s, .slice ao L cap] 27)
theorem box_b (w : World) (n k s : Int) (ao : Option Addr) (L cap : Nat) : Below w.heap.size w (box1 w n k s ao L cap) := (Below.refl _ _).alloc (Nat.le_refl _) _
theorem box_c (w : World) (n k s : Int) (ao : Option Addr) (L cap : Nat) : (box1 w n k s ao L cap).heap[w.heap.size]? = some (.cells #[.int .i64 n, .int .i64 k, .int .i64 s, .slice ao L cap] 27 (0, 0)) := heap_alloc_new w _
def LwAt (w : World) (r : Ending) (w' : World) : Prop := r = .returned (.bool true) /\ Below w.heap.size w w'
set_option maxRecDepth 100000 in
set_option maxHeartbeats 1000000 in
theorem lawBounded_big (n k s p q : Int) (ao : Option Addr) (L cap : Nat) (w : World) (hA : PAl w) (hs : smallB n L = false) :
 Calls Tryz.prog 8 #[sysV n k s (.slice ao L cap), .int .i64 p, .int .i64 q] w (LwAt w) := by
 obtain ⟨w1, hw1⟩ : ∃ w1, w1 = w.alloc (.cells #[.int .i64 n, .int .i64 k, .int .i64 s, .slice ao L cap] 27) := ⟨_, rfl⟩
 have hb1 : Below w.heap.size w w1 := by rw [hw1]; exact box_b w n k s ao L cap
 have hg1 : w1.heap[w.heap.size]? = some (.cells #[.int .i64 n, .int .i64 k, .int .i64 s, .slice ao L cap] 27 (0, 0)) := by rw [hw1]; exact box_c w n k s ao L cap
 have hC := fun W => small_any n k s ao L cap W
 rw [hs] at hC
 unfold sysV at hC ⊢
 have H1 : Hid _ := And.intro hw1 (And.intro hb1 (And.intro hC hA))
 obtain ⟨x0, x1, x2, x3⟩ := four_cells hg1
 clear hb1 hw1 hg1 hC hs hA
 go_enter Tryz.func8, Tryz.ntmps8
 go_upto_region 1 with fail
 rw [<- H1.out.1]
 go_wp2_with fail
 refine Calls.mono (H1.out.2.2.1 _) ?_
 rintro r w2 ⟨rfl, hb2⟩
 have hbW := bel6 hb2 H1.out.2.1
 have H2 : Hid _ := And.intro hbW (H1.out.2.2.2 w2 hbW)
 clear hb2 hbW x0 x1 x2 x3
 go_wp2_with fail
 refine Calls.mono H2.out.2 ?_
 rintro r w3 ⟨rfl, hb3⟩
 have H3 : Hid _ := And.intro (bel6 hb3 H2.out.1) trivial
 clear hb3
 go_wp2_with fail
 go_ret
 exact ⟨rfl, H3.out.1⟩
set_option maxRecDepth 100000 in
set_option maxHeartbeats 1000000 in
theorem lawBounded_bad (hS : SortOk 1000000) (n k s p q : Int) (es : List Sy.Ed) (ao : Option Addr) (cap : Nat) (a : Addr) (w : World) (hA : PAl w) (hE : Sent w 2 a) (hv : BEdges.Has w (.slice ao es.length cap) es) (hm : es.length <= 100000) (hs : smallB n es.length = true) (hq : Sy.right n k s es = false) :
 Calls Tryz.prog 8 #[sysV n k s (.slice ao es.length cap), .int .i64 p, .int .i64 q] w (LwAt w) := by
 obtain ⟨L, hL⟩ : ∃ L, L = es.length := ⟨_, rfl⟩
 obtain ⟨w1, hw1⟩ : ∃ w1, w1 = w.alloc (.cells #[.int .i64 n, .int .i64 k, .int .i64 s, .slice ao L cap] 27) := ⟨_, rfl⟩
 have hb1 : Below w.heap.size w w1 := by rw [hw1]; exact box_b w n k s ao L cap
 have hg1 : w1.heap[w.heap.size]? = some (.cells #[.int .i64 n, .int .i64 k, .int .i64 s, .slice ao L cap] 27 (0, 0)) := by rw [hw1]; exact box_c w n k s ao L cap
 have hC := fun W => small_any n k s ao L cap W
 have hN := fun V (hV : Below w1.heap.size w1 V) => new_bad hS n k s (.slice ao es.length cap) es a V ((hE.below hb1).below hV) ((hv.below hb1).below hV) (by omega) hm hq
 rw [<- hL] at hs hN ⊢
 rw [hs] at hC
 unfold sysV at hC hN ⊢
 have H1 : Hid _ := And.intro hw1 (And.intro hb1 (And.intro hC (And.intro hN (And.intro hA hg1))))
 obtain ⟨x0, x1, x2, x3⟩ := four_cells hg1
 clear hb1 hw1 hg1 hC hs hA hN hL hE hv hm hq
 go_enter Tryz.func8, Tryz.ntmps8
 go_upto_region 1 with fail
 rw [<- H1.out.1]
 go_wp2_with fail
 refine Calls.mono (H1.out.2.2.1 _) ?_
 rintro r w2 ⟨rfl, hb2⟩
 have hg2 := (hb2.block _ (t_lt H1.out.2.2.2.2.2)).trans H1.out.2.2.2.2.2
 have hN := H1.out.2.2.2.1 w2 hb2
 have H2 : Hid _ := And.intro (bel6 hb2 H1.out.2.1) hN
 clear hb2 x0 x1 x2 x3 hN
 obtain ⟨x0, x1, x2, x3⟩ := four_cells hg2
 clear hg2
 go_wp2_with fail
 refine Calls.mono H2.out.2 ?_
 rintro r w3 ⟨e, rfl, hCh, hb3⟩
 obtain ⟨T, u, rfl⟩ := hCh.iface
 have hbW := bel6 hb3 H2.out.1
 have H3 : Hid _ := And.intro hbW (H1.out.2.2.2.2.1 w3 hbW)
 clear hb3 hbW hCh x0 x1 x2 x3
 go_wp2_with fail
 refine Calls.mono H3.out.2 ?_
 rintro r w4 ⟨rfl, hb4⟩
 have H4 : Hid _ := And.intro (bel6 hb4 H3.out.1) trivial
 clear hb4
 go_wp2_with fail
 go_ret
 exact ⟨rfl, H4.out.1⟩
set_option maxRecDepth 100000 in
set_option maxHeartbeats 2000000 in
theorem lawBounded_out (hS : SortOk 1000000) (m : Nat) (k s p q : Int) (es : List Sy.Ed) (ao : Option Addr) (cap : Nat) (a : Addr) (w : World) (hA : PAl w) (hE : Sent w 2 a) (hv : BEdges.Has w (.slice ao es.length cap) es) (hm : es.length <= 100000) (hs : smallB m es.length = true) (hq : Sy.right m k s es = true)
 (ho : p < 0 \/ (m : Int) <= p \/ q < 0 \/ (m : Int) <= q) :
 Calls Tryz.prog 8 #[sysV m k s (.slice ao es.length cap), .int .i64 p, .int .i64 q] w (LwAt w) := by
 obtain ⟨L, hL⟩ : ∃ L, L = es.length := ⟨_, rfl⟩
 obtain ⟨w1, hw1⟩ : ∃ w1, w1 = w.alloc (.cells #[.int .i64 m, .int .i64 k, .int .i64 s, .slice ao L cap] 27) := ⟨_, rfl⟩
 have hb1 : Below w.heap.size w w1 := by rw [hw1]; exact box_b w m k s ao L cap
 have hg1 : w1.heap[w.heap.size]? = some (.cells #[.int .i64 m, .int .i64 k, .int .i64 s, .slice ao L cap] 27 (0, 0)) := by rw [hw1]; exact box_c w m k s ao L cap
 have hC := fun W => small_any m k s ao L cap W
 have hN := fun V (hV : Below w1.heap.size w1 V) => new_ok hS m k s (.slice ao es.length cap) es a V ((hE.below hb1).below hV) ((hv.below hb1).below hV) (by omega) hm hq
 rw [<- hL] at hs hN ⊢
 rw [hs] at hC
 unfold sysV at hC hN ⊢
 have H1 : Hid _ := And.intro hw1 (And.intro hb1 (And.intro hC (And.intro hN (And.intro hA hg1))))
 obtain ⟨x0, x1, x2, x3⟩ := four_cells hg1
 clear hb1 hw1 hg1 hC hs hA hN hL hE hv hm hq
 go_enter Tryz.func8, Tryz.ntmps8
 go_upto_region 1 with fail
 rw [<- H1.out.1]
 go_wp2_with fail
 refine Calls.mono (H1.out.2.2.1 _) ?_
 rintro r w2 ⟨rfl, hb2⟩
 have hg2 := (hb2.block _ (t_lt H1.out.2.2.2.2.2)).trans H1.out.2.2.2.2.2
 have hN := H1.out.2.2.2.1 w2 hb2
 have H2 : Hid _ := And.intro (bel6 hb2 H1.out.2.1) (And.intro hN hg2)
 clear hb2 x0 x1 x2 x3 hN
 obtain ⟨x0, x1, x2, x3⟩ := four_cells hg2
 clear hg2
 go_wp2_with fail
 refine Calls.mono H2.out.2.1 ?_
 rintro r w3 ⟨g, bs, bb, cs, cb, m', hm', rfl, hG, hb3⟩
 have hbW := bel6 hb3 H2.out.1
 have hg3 := (hb3.block _ (t_lt H2.out.2.2)).trans H2.out.2.2
 have H3 : Hid _ := And.intro hbW (H1.out.2.2.2.2.1 w3 hbW)
 clear hb3 hbW hG hm' x0 x1 x2 x3
 obtain ⟨x0, x1, x2, x3⟩ := four_cells hg3
 clear hg3
 by_cases f1 : p < 0
 ·go_wp2_with fail
  refine Calls.mono H3.out.2 ?_
  rintro r w4 ⟨rfl, hb4⟩
  have H4 : Hid _ := And.intro (bel6 hb4 H3.out.1) trivial
  clear hb4
  go_wp2_with fail
  go_ret
  exact ⟨rfl, H4.out.1⟩
 by_cases f2 : (m : Int) <= p
 ·go_wp2_with fail
  refine Calls.mono H3.out.2 ?_
  rintro r w4 ⟨rfl, hb4⟩
  have H4 : Hid _ := And.intro (bel6 hb4 H3.out.1) trivial
  clear hb4
  go_wp2_with fail
  go_ret
  exact ⟨rfl, H4.out.1⟩
 by_cases f3 : q < 0
 ·go_wp2_with fail
  refine Calls.mono H3.out.2 ?_
  rintro r w4 ⟨rfl, hb4⟩
  have H4 : Hid _ := And.intro (bel6 hb4 H3.out.1) trivial
  clear hb4
  go_wp2_with fail
  go_ret
  exact ⟨rfl, H4.out.1⟩
 ·have f4 : (m : Int) <= q := by omega
  go_wp2_with fail
  refine Calls.mono H3.out.2 ?_
  rintro r w4 ⟨rfl, hb4⟩
  have H4 : Hid _ := And.intro (bel6 hb4 H3.out.1) trivial
  clear hb4
  go_wp2_with fail
  go_ret
  exact ⟨rfl, H4.out.1⟩
theorem is_lim {aL : Addr} {ls : List ByteArray} {v : Value} {w : World} (hE : Sent w 0 aL) (hC : Chain w 0 0 aL ls v) :
 Calls Tryz.prog 28 #[v, .iface 383 (.pointer (some aL))] w fun e w' => e = .returned (.bool true) /\ w' = w := by
 obtain ⟨_, ca, ta, hc⟩ := hE
 have h := is_chain v ls 0 0 aL aL ca ca ta ta w hC hc hc
 rwa [show decide (aL = aL) = true by simp] at h
set_option maxRecDepth 100000 in
set_option maxHeartbeats 4000000 in
theorem lawBounded_ok (hS : SortOk 1000000) (m kk p q : Nat) (s : Int) (es : List Sy.Ed) (ao : Option Addr) (cap : Nat) (a aL aN : Addr) (w : World) (hA : PAl w) (hE : EnvC w a aL aN) (hv : BEdges.Has w (.slice ao es.length cap) es) (hm : es.length <= 100000) (hs : smallB m es.length = true) (hq : Sy.right m kk s es = true) (hp : p < m) (hq2 : q < m) :
 Calls Tryz.prog 8 #[sysV m kk s (.slice ao es.length cap), .int .i64 p, .int .i64 q] w (LwAt w) := by
 have hm3 : m <= 30 := by
  unfold smallB at hs
  simp at hs
  omega
 have hD0 := fun (g bs bb cs cb B : Nat) (V : World) (hV : Gr V B g bs bb cs cb m (kk : Int) s es) => degree_any V hV
 have hZ := fun R hR h1 => size_bnd (m := m) (R := R) (p := p) (q := q) (k := (kk : Int)) (s := s) (es := es) hq (by omega) hR hp hq2 h1
 obtain ⟨d, hd⟩ : ∃ d : Int, d = (Sy.degTo (Sy.nf es) m : Nat) := ⟨_, rfl⟩
 have hB := fun V => bound_any ((m : Int) - 1) d V (by omega)
 obtain ⟨b, hb⟩ : ∃ b, b = bnd ((m : Int) - 1) d := ⟨_, rfl⟩
 have hb0 : 1 <= b := by rw [hb]; exact (bnd_pos _ _)
 rw [<- hd, <- hb] at hZ
 rw [<- hb] at hB
 rw [<- hd] at hD0
 obtain ⟨L, hL⟩ : ∃ L, L = es.length := ⟨_, rfl⟩
 obtain ⟨w1, hw1⟩ : ∃ w1, w1 = w.alloc (.cells #[.int .i64 m, .int .i64 kk, .int .i64 s, .slice ao L cap] 27) := ⟨_, rfl⟩
 have hb1 : Below w.heap.size w w1 := by rw [hw1]; exact box_b w m kk s ao L cap
 have hg1 : w1.heap[w.heap.size]? = some (.cells #[.int .i64 m, .int .i64 kk, .int .i64 s, .slice ao L cap] 27 (0, 0)) := by rw [hw1]; exact box_c w m kk s ao L cap
 have hC := fun W => small_any m kk s ao L cap W
 have hN := fun V (hV : Below w1.heap.size w1 V) => new_ok hS m kk s (.slice ao es.length cap) es a V ((hE.sys.below hb1).below hV) ((hv.below hb1).below hV) (by omega) hm hq
 have hCm := fun V (hV : Below w1.heap.size w1 V) => compare_ok hS m kk p q s (.slice ao es.length cap) es a aL aN V ((hE.below hb1).below hV).sys ((hE.below hb1).below hV).env ((hE.below hb1).below hV).non hE.ne ((hE.below hb1).below hV).pow ((hv.below hb1).below hV) hm hq (by omega) hp hq2
 have hEL := fun V (hV : Below w1.heap.size w1 V) => (hE.below hb1).below hV
 rw [<- hL] at hs hN hCm ⊢
 rw [hs] at hC
 unfold sysV at hC hN hCm ⊢
 have H1 : Hid _ := And.intro hw1 (And.intro hb1 (And.intro hC (And.intro hN (And.intro hA (And.intro hg1 (And.intro hCm (And.intro hEL (And.intro hZ (And.intro hB hD0)))))))))
 obtain ⟨x0, x1, x2, x3⟩ := four_cells hg1
 have f1 : ¬ (p : Int) < 0 := by omega
 have f2 : ¬ (m : Int) <= (p : Int) := by omega
 have f3 : ¬ (q : Int) < 0 := by omega
 have f4 : ¬ (m : Int) <= (q : Int) := by omega
 have f5 : IntKind.i64.wrap ((m : Int) - 1) = (m : Int) - 1 := by rw [IntKind.wrap_i64]; omega
 clear hb1 hw1 hg1 hC hs hA hN hL hE hv hm hq hCm hEL hZ hB hD0 hd hb hm3 hp hq2
 go_enter Tryz.func8, Tryz.ntmps8
 go_upto_region 1 with fail
 rw [<- H1.out.1]
 go_wp2_with fail
 refine Calls.mono (H1.out.2.2.1 _) ?_
 rintro r w2 ⟨rfl, hb2⟩
 have hg2 := (hb2.block _ (t_lt H1.out.2.2.2.2.2.1)).trans H1.out.2.2.2.2.2.1
 have hN := H1.out.2.2.2.1 w2 hb2
 have H2 : Hid _ := And.intro hb2 (And.intro hN hg2)
 clear hb2 x0 x1 x2 x3 hN
 obtain ⟨x0, x1, x2, x3⟩ := four_cells hg2
 clear hg2
 go_wp2_with fail
 refine Calls.mono H2.out.2.1 ?_
 rintro r w3 ⟨g, bs, bb, cs, cb, m', hm', rfl, hG, hb3⟩
 obtain rfl : m' = m := by omega
 have hg3 := (hb3.block _ (t_lt H2.out.2.2)).trans H2.out.2.2
 have H3 : Hid _ := And.intro (bel6 hb3 H2.out.1) (And.intro hg3 hG)
 clear hb3 hG hm' x0 x1 x2 x3
 obtain ⟨x0, x1, x2, x3⟩ := four_cells hg3
 clear hg3
 have hDg := fun V (hV : Below w3.heap.size w3 V) => H1.out.2.2.2.2.2.2.2.2.2.2 g bs bb cs cb _ V (H3.out.2.2.below hV)
 have HC : Hid _ := And.intro hDg H1.out.2.2.2.2.2.2.2.2.2.1
 clear hDg
 go_upto_region 6 with fail
 go_region_held3 (fun w' => (w'.cell? ⟨w.heap.size, 0, none⟩ = some (.int .i64 m') /\ w'.cell? ⟨w.heap.size, 1, none⟩ = some (.int .i64 kk) /\ w'.cell? ⟨w.heap.size, 2, none⟩ = some (.int .i64 s) /\ w'.cell? ⟨w.heap.size, 3, none⟩ = some (.slice ao L cap)) /\ Hid (Below w3.heap.size w3 w')) (first | exact rg_up4 hb4 (by assumption) | exact ⟨⟨x0, x1, x2, x3⟩, ((Below.refl _ _).drew : Below w3.heap.size w3 w3.drew)⟩ | go_keep)
  ((first
    | (go_at_call 36; refine (HC.out.1 _ (rg_b (by assumption))).mono ?_; rintro r w4 ⟨rfl, hb4⟩)
    | (go_at_call 10; refine (HC.out.2 _).mono ?_; rintro r w5 ⟨rfl, hw⟩; obtain rfl := hw.symm; clear hw)
    | fail))
 rename_i hHeld
 have hbw1 : Below w1.heap.size w1 w4 := bel6 hHeld.2.out H3.out.1
 have H4 : Hid _ := And.intro hbw1 (H1.out.2.2.2.2.2.2.1 w4 hbw1)
 clear x0 x1 x2 x3 hb4 hbw1 f1 f2 f3 f4 f5
 obtain ⟨⟨x0, x1, x2, x3⟩, _⟩ := hHeld
 go_wp2_with fail
 refine Calls.mono H4.out.2 ?_
 rintro r w5 ⟨R, hR, hb5, hcase⟩
 clear x0 x1 x2 x3
 rcases hcase with ⟨h1, u, rfl, hO⟩ | ⟨h1, hsz, u, rfl, hO⟩ | ⟨h1, hsz, e, rfl, hCh⟩
 ·obtain ⟨au, cu, rfl⟩ := row_shape hO
  obtain ⟨N, hN⟩ : ∃ N, N = (natI (Ro.rnd m' (outOf m' es) R)).length := ⟨_, rfl⟩
  rw [<- hN]
  clear hO hN
  obtain ⟨w6, hw6⟩ : ∃ w6, w6 = w5.alloc (.cells #[.bool true, .slice au N cu, .slice none 0 0] 64) := ⟨_, rfl⟩
  have hb6 : Below w5.heap.size w5 w6 := by rw [hw6]; exact (Below.refl _ _).alloc (Nat.le_refl _) _
  have hg6 : w6.heap[w5.heap.size]? = some (.cells #[.bool true, .slice au N cu, .slice none 0 0] 64 (0, 0)) := by rw [hw6]; exact heap_alloc_new w5 _
  have hbw6 : Below w1.heap.size w1 w6 := bel6 hb6 (bel6 hb5 H4.out.1)
  have hA6 := H1.out.2.2.2.2.1 w6 (bel6 hbw6 H1.out.2.1)
  have H6 : Hid _ := And.intro hw6 (And.intro (bel6 hbw6 H1.out.2.1) (And.intro hA6 hg6))
  clear hw6 hb6 hg6 hbw6 hA6 hb5 hR h1
  go_upto_region 8 with fail
  rw [<- H6.out.1]
  by_cases hbig : b <= 5000
  ·go_wp2_with fail
   refine Calls.mono H6.out.2.2.1 ?_
   rintro r w7 ⟨rfl, hb7⟩
   have H7 : Hid _ := And.intro (bel6 hb7 H6.out.2.1) trivial
   have hg7 := (hb7.block _ (t_lt H6.out.2.2.2)).trans H6.out.2.2.2
   obtain ⟨y0, y1, y2⟩ := three_cells hg7
   have g1 : 0 <= b := by omega
   clear hb7 hg7
   go_wp2_with fail
   go_ret
   exact ⟨rfl, H7.out.1⟩
  ·go_wp2_with fail
   refine Calls.mono H6.out.2.2.1 ?_
   rintro r w7 ⟨rfl, hb7⟩
   have H7 : Hid _ := And.intro (bel6 hb7 H6.out.2.1) trivial
   clear hb7
   go_wp2_with fail
   go_ret
   exact ⟨rfl, H7.out.1⟩
 ·obtain ⟨au, cu, rfl⟩ := row_shape hO
  have hZ := H1.out.2.2.2.2.2.2.2.2.1 R hR h1
  have hlen := (FF (outOf m' es) (rkS m' es R) p q).nodes_len
  obtain ⟨N, hN⟩ : ∃ N, N = (FF (outOf m' es) (rkS m' es R) p q).nodes.length := ⟨_, rfl⟩
  rw [<- hN]
  rw [<- hN] at hlen
  rw [<- hlen] at hZ
  clear hO hN hlen hsz
  obtain ⟨w6, hw6⟩ : ∃ w6, w6 = w5.alloc (.cells #[.bool false, .slice none 0 0, .slice au N cu] 64) := ⟨_, rfl⟩
  have hb6 : Below w5.heap.size w5 w6 := by rw [hw6]; exact (Below.refl _ _).alloc (Nat.le_refl _) _
  have hg6 : w6.heap[w5.heap.size]? = some (.cells #[.bool false, .slice none 0 0, .slice au N cu] 64 (0, 0)) := by rw [hw6]; exact heap_alloc_new w5 _
  have hbw6 : Below w1.heap.size w1 w6 := bel6 hb6 (bel6 hb5 H4.out.1)
  have hA6 := H1.out.2.2.2.2.1 w6 (bel6 hbw6 H1.out.2.1)
  have H6 : Hid _ := And.intro hw6 (And.intro (bel6 hbw6 H1.out.2.1) (And.intro hA6 (And.intro hg6 hZ)))
  clear hw6 hb6 hg6 hbw6 hA6 hb5 hR h1 hZ
  go_upto_region 8 with fail
  rw [<- H6.out.1]
  by_cases hbig : b <= 5000
  ·go_wp2_with fail
   refine Calls.mono H6.out.2.2.1 ?_
   rintro r w7 ⟨rfl, hb7⟩
   have H7 : Hid _ := And.intro (bel6 hb7 H6.out.2.1) trivial
   have hg7 := (hb7.block _ (t_lt H6.out.2.2.2.1)).trans H6.out.2.2.2.1
   obtain ⟨y0, y1, y2⟩ := three_cells hg7
   have g1 : (N : Int) <= b := H6.out.2.2.2.2 hbig
   clear hb7 hg7
   go_wp2_with fail
   go_ret
   exact ⟨rfl, H7.out.1⟩
  ·go_wp2_with fail
   refine Calls.mono H6.out.2.2.1 ?_
   rintro r w7 ⟨rfl, hb7⟩
   have H7 : Hid _ := And.intro (bel6 hb7 H6.out.2.1) trivial
   clear hb7
   go_wp2_with fail
   go_ret
   exact ⟨rfl, H7.out.1⟩
 ·have hZ := H1.out.2.2.2.2.2.2.2.2.1 R hR h1
  have hbig : ¬ b <= 5000 := fun h => by have := hZ h; omega
  obtain ⟨T, y, rfl⟩ := hCh.iface
  obtain ⟨w6, hw6⟩ : ∃ w6, w6 = w5.alloc (.cells #[.bool false, .slice none 0 0, .slice none 0 0] 64) := ⟨_, rfl⟩
  have hb6 : Below w5.heap.size w5 w6 := by rw [hw6]; exact (Below.refl _ _).alloc (Nat.le_refl _) _
  have hg6 : w6.heap[w5.heap.size]? = some (.cells #[.bool false, .slice none 0 0, .slice none 0 0] 64 (0, 0)) := by rw [hw6]; exact heap_alloc_new w5 _
  have hbw6 : Below w1.heap.size w1 w6 := bel6 hb6 (bel6 hb5 H4.out.1)
  have hA6 := H1.out.2.2.2.2.1 w6 (bel6 hbw6 H1.out.2.1)
  have hE6 := H1.out.2.2.2.2.2.2.2.1 w6 hbw6
  have hC6 := hCh.below hb6
  have H6 : Hid _ := And.intro hw6 (And.intro (bel6 hbw6 H1.out.2.1) (And.intro hA6 (And.intro hE6 hC6)))
  clear hw6 hb6 hg6 hbw6 hA6 hb5 hR h1 hZ hE6 hC6 hCh hsz
  go_upto_region 8 with fail
  rw [<- H6.out.1]
  go_wp2_with fail
  refine Calls.mono H6.out.2.2.1 ?_
  rintro r w7 ⟨rfl, hb7⟩
  have hE7 := (H6.out.2.2.2.1.below hb7).env.lim
  have hIs := is_lim hE7 (H6.out.2.2.2.2.below hb7)
  have hcl := hE7.1
  have H7 : Hid _ := And.intro (bel6 hb7 H6.out.2.1) hIs
  clear hb7 hE7 hIs
  go_wp2_with fail
  refine Calls.mono H7.out.2 ?_
  rintro r w8 ⟨rfl, hw⟩
  obtain rfl := hw.symm
  clear hw
  go_wp2_with fail
  go_ret
  exact ⟨rfl, H7.out.1⟩
theorem lawBounded_any (hS : SortOk 1000000) (n k s p q : Int) (v : Value) (es : List Sy.Ed) (a aL aN : Addr) (w : World) (hE : EnvC w a aL aN) (hv : HasE w v es) :
 Calls Tryz.prog 8 #[sysV n k s v, .int .i64 p, .int .i64 q] w fun r w' => r = .returned (.bool true) /\ Below w.heap.size w w' := by
 have hA := pAl hS a aL aN w hE
 obtain ⟨ao, cap, rfl, _, hv⟩ := hv
 cases hs : smallB n es.length with
 | false => exact lawBounded_big n k s p q ao es.length cap w hA hs
 | true =>
   have hlen : es.length <= 150 := by
    unfold smallB at hs
    simp only [Bool.and_eq_true, decide_eq_true_eq] at hs
    exact hs.2
   cases hq : Sy.right n k s es with
   | false => exact lawBounded_bad hS n k s p q es ao cap a w hA hE.sys hv (by omega) hs hq
   | true =>
     have hr := right_parts hq
     obtain ⟨m, rfl⟩ : ∃ m : Nat, n = (m : Int) := ⟨n.toNat, by omega⟩
     obtain ⟨kk, rfl⟩ : ∃ m : Nat, k = (m : Int) := ⟨k.toNat, by omega⟩
     by_cases ho : p < 0 \/ (m : Int) <= p \/ q < 0 \/ (m : Int) <= q
     ·exact lawBounded_out hS m kk s p q es ao cap a w hA hE.sys hv (by omega) hs hq ho
     ·obtain ⟨p', rfl⟩ : ∃ p' : Nat, p = (p' : Int) := ⟨p.toNat, by omega⟩
      obtain ⟨q', rfl⟩ : ∃ q' : Nat, q = (q' : Int) := ⟨q.toNat, by omega⟩
      exact lawBounded_ok hS m kk p' q' s es ao cap a aL aN w hA hE hv (by omega) hs hq (by omega) (by omega)
#print axioms lawBounded_any
end Di
section
open Go.RowKit Go.Maps
attribute [local go_sem ↓] Go.wp_at_zero Go.wp_at_succ
def mk3 : List Sy.Ed := [(-7, 0, 0), (-7, 1, 0), (-7, 2, 0)]
def LentE (w : World) (B : Nat) (u : Value) (es : List Sy.Ed) : Prop := ∃ g cap, u = .slice (some ⟨g, 0, none⟩) es.length cap /\ es.length + 3 <= cap /\ BEdges.Own w B (.slice (some ⟨g, 0, none⟩) (es.length + 3) cap) (es ++ mk3)
end
section
open Go.ChangeShapes Go.WideShapes Go.ChangeAt Go.WideMaps Go.WideElems Go.RowKit
theorem Tryz.cIntE : Tryz.prog.cellsOf 3 = 1 := by kernel_rfl
end
section
open Go.ChangeShapes Go.WideShapes Go.ChangeAt Go.WideMaps Go.WideElems Go.RowKit
theorem Tryz.cEdge : Tryz.prog.cellsOf 84 = 3 := by kernel_rfl
theorem Tryz.cSys : Tryz.prog.cellsOf 27 = 4 := by kernel_rfl
theorem ed_choose {n : Nat} {p : Nat -> Sy.Ed -> Prop} (h : ∀ i, i < n -> ∃ x, p i x) : ∃ f : Nat -> Sy.Ed, ∀ i, i < n -> p i (f i) := by
 classical
 refine ⟨fun i => if hi : i < n then Classical.choose (h i hi) else (0, 0, 0), fun i hi => ?_⟩
 simp only [hi, dif_pos]
 exact Classical.choose_spec (h i hi)
set_option maxRecDepth 100000 in
theorem edge_in {H : Type} {enc : TypeId × Value -> H} {W : World} {fuel i : Nat} {a : Addr} {cs : List Value} {x : DataW H × List MemPlace} (hc : W.cells? 0 (a.add (i * 3)) 3 = some cs) (h : DataW.trod enc Tryz.prog W 0 (fun _ => true) true fuel 84 cs = some x) :
 ∃ z : Sy.Ed, ∀ q u, (BEdges.enc z)[q]? = some u -> W.cell? (a.add (i * 3 + q)) = some u := by
 obtain ⟨_, hlen, hcell⟩ := World.cells?_some hc
 obtain ⟨xs, k, hk, _, _, hxl, hf⟩ := DataW.trod_struct Tryz.underlying84 h
 match xs, hxl, cs, hlen with
 | [y0, y1, y2], _, [v0, v1, v2], _ =>
   have g0 := hf 0 _ rfl
   have g1 := hf 1 _ rfl
   have g2 := hf 2 _ rfl
   simp [Tryz.cIntE] at g0 g1 g2
   obtain ⟨z0, e0, _⟩ := DataW.trod_int Tryz.underlying3 g0
   obtain ⟨z1, e1, _⟩ := DataW.trod_int Tryz.underlying3 g1
   obtain ⟨z2, e2, _⟩ := DataW.trod_int Tryz.underlying3 g2
   obtain rfl : v0 = .int .i64 z0 := by simpa using e0
   obtain rfl : v1 = .int .i64 z1 := by simpa using e1
   obtain rfl : v2 = .int .i64 z2 := by simpa using e2
   have c0 := hcell 0 (by omega)
   have c1 := hcell 1 (by omega)
   have c2 := hcell 2 (by omega)
   rw [Go.Deep.add_add] at c0 c1 c2
   refine ⟨(z0, z1, z2), fun q u hq => ?_⟩
   match q, hq with
   | 0, hq => cases hq; simpa using c0
   | 1, hq => cases hq; simpa using c1
   | 2, hq => cases hq; simpa using c2
   | q + 3, hq => simp [BEdges.enc] at hq
set_option maxRecDepth 100000 in
theorem edges_in {H : Type} {enc : TypeId × Value -> H} {W : World} {fuel : Nat} {v : Value} {x : DataW H × List MemPlace} (h : DataW.trod enc Tryz.prog W 0 (fun _ => true) true fuel 25 [v] = some x) : ∃ es, HasE W v es /\ es.length <= maxLen := by
 rcases Go.Deep.open_slice Tryz.underlying25 h with ⟨hc, _⟩ | ⟨a, len, cap, m, n, D, Pl, hc, _, hl, hm, hmm, _, hx⟩
 ·obtain rfl : v = .slice none 0 0 := by injection hc
  exact ⟨[], ⟨none, 0, rfl, Nat.le_refl _, none, 0, rfl, fun i s h => by simp [BEdges.C] at h⟩, by simp⟩
 ·obtain rfl : v = .slice (some a) len cap := by injection hc
  have hm' : m = cap := by simpa using hmm
  rw [Tryz.cEdge] at hx
  have each : ∀ i, i < len -> ∃ z : Sy.Ed, ∀ q u, (BEdges.enc z)[q]? = some u -> W.cell? (a.add (i * 3 + q)) = some u := fun i hi => by
   obtain ⟨cs, h1, h2⟩ := hx i (by omega)
   exact edge_in h1 h2
  obtain ⟨f, hf'⟩ := ed_choose each
  have hL : ((List.range len).map f).length = len := by simp
  refine ⟨(List.range len).map f, ⟨some a, cap, by rw [hL], by rw [hL]; omega, some a, cap, by rw [hL], fun j u hj => ⟨a, rfl, ?_⟩⟩, by rw [hL]; omega⟩
  have hj3 : j < len * 3 := by have := (List.getElem?_eq_some_iff.1 hj).1; rw [BEdges.C_len, hL] at this; exact this
  have hi : j / 3 < len := by omega
  have hz : ((List.range len).map f)[j / 3]? = some (f (j / 3)) := by rw [List.getElem?_map, List.getElem?_range hi]; rfl
  have h9 := BEdges.C_at _ _ _ hz (j % 3) (Nat.mod_lt _ (by decide))
  have e9 : j / 3 * 3 + j % 3 = j := by omega
  rw [e9, hj] at h9
  have h8 := hf' (j / 3) hi (j % 3) u h9.symm
  rw [e9] at h8
  exact h8
set_option maxRecDepth 100000 in
theorem has_sys {H : Type} {enc : TypeId × Value -> H} {W : World} {base : Nat} {v : Value} {d : DataW H} {ps : List MemPlace} (hok : Value.okWide Tryz.prog W .any base 27 v) (h : DataW.Trod enc Tryz.prog W 0 (fun _ => true) true 27 v d ps) :
 ∃ (n k s : Int) (u : Value) (es : List Sy.Ed), v = sysV n k s u /\ HasE W u es /\ es.length <= maxLen := by
 obtain ⟨v0, v1, v2, v3, y0, y1, y2, y3, f, rfl, _, _, t0, t1, t2, t3⟩ := Go.Joins.open_agg4 Tryz.underlying27 (by kernel_rfl) Tryz.cSys hok h
 obtain ⟨z0, e0, _⟩ := DataW.trod_int Tryz.underlying3 t0
 obtain ⟨z1, e1, _⟩ := DataW.trod_int Tryz.underlying3 t1
 obtain ⟨z2, e2, _⟩ := DataW.trod_int Tryz.underlying3 t2
 obtain rfl : v0 = .int .i64 z0 := by simpa using e0
 obtain rfl : v1 = .int .i64 z1 := by simpa using e1
 obtain rfl : v2 = .int .i64 z2 := by simpa using e2
 obtain ⟨es, h1, h2⟩ := edges_in t3
 exact ⟨z0, z1, z2, v3, es, rfl, h1, h2⟩
end
end Go.Proofs.YtgehimdkdeldaaaGreatDoor
