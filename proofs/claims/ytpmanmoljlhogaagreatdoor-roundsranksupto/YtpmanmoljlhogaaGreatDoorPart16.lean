/- Texts of this claim, joined: ErLaid, RoLaid, SoPiv, SoHeap, SoHeap2, SoPiv2. -/
import Derived.Test.YtpmanmoljlhogaaGreatDoorRows
import Derived.Test.YtpmanmoljlhogaaGreatDoorPart4
import Derived.Test.YtpmanmoljlhogaaGreatDoorErCode
import Derived.ProofKit
import Derived.LaidMore
import Derived.Stop.LaidErr
import Derived.Test.YtpmanmoljlhogaaGreatDoorPart2
import Derived.Test.YtpmanmoljlhogaaGreatDoorPart9
import Derived.Lib.LaidTab
import Derived.Test.YtpmanmoljlhogaaGreatDoorPart6
import Derived.BigRegion
/- What the listed package variables give: api's errors lie in memory, each at an address of its own, whichever are listed. (Written by mker.py.) -/
namespace Go.Proofs.YtpmanmoljlhogaaGreatDoor
open Go.ChangeShapes Go.WideShapes Go.ChangeAt Go.WideMaps Go.WideElems Go.RowKit
theorem Tryz.own : ownKnob Tryz.prog.godebug = none := by kernel_rfl
theorem Tryz.laidOut : laidOutB Tryz.prog = true := by kernel_rfl
theorem Tryz.cellsE : Tryz.prog.cellsOf 325 = 1 := by kernel_rfl
theorem Tryz.cellsS : Tryz.prog.cellsOf 9 = 1 := by kernel_rfl
set_option maxRecDepth 100000 in
theorem Tryz.star : "*" ++ "errors.errorString" = "*errors.errorString" := by decide
set_option maxRecDepth 100000 in
theorem Tryz.rowE (u : TypeId) (h : Tryz.prog.typeName? 3 u = some "*errors.errorString") : u = 305 :=
  typeName_ptr_named (nm := "errors.errorString") (by rw [Tryz.star]; kernel_rfl) (by kernel_rfl) (by decide) u (by rw [Tryz.star]; exact h)
set_option maxRecDepth 100000 in
/-- One listed error: its variable's cell, its place; and the rest of the list. -/
theorem laid_step {W : World} {n : String} {g : Nat} {text : List UInt8} {r : List (String × DataW Unit)} {ps : List MemPlace} (hg : Tryz.prog.globalNamed n = some g) (ht : (Tryz.prog.globals[g]?).map (·.type) = some 46)
    (h : DataW.LaidVars Tryz.prog W ((n, .iface "*errors.errorString" (.ptr (.agg [.lit (.string text)]))) :: r) ps)
    (hrows : ∀ b off, MemPlace.cell b off ∈ ps → (∃ c t, W.heap[b]? = some (.cells c t (0, 0))) ∧ ∀ u v, W.cell? ⟨b, off, none⟩ = some (.iface u v) → Value.okWide Tryz.prog W .any 0 u v) :
    ∃ a q, Sent W g a ∧ DataW.LaidVars Tryz.prog W r q ∧ ps = MemPlace.cell g 0 :: MemPlace.cell a.block a.off :: q := by
  obtain ⟨g0, t0, cs0, f0, p0, q0, hg0, ht0, hv0, hd0, hr, e0⟩ := h
  obtain rfl := Option.some.inj (hg.symm.trans hg0)
  obtain rfl := Option.some.inj (ht.symm.trans ht0)
  subst e0
  obtain ⟨l0⟩ := cs0
  have ok0 : ∀ u v, l0 = [.iface u v] → Value.okWide Tryz.prog W .any 0 u v := fun u v e => by
    subst e
    exact (hrows g 0 (by simp [MemPlace.row])).2 u v (by simpa using World.var?_cell hg0 hv0 0)
  obtain ⟨a0, s0, rfl, hc0, hs0, hz0, rfl⟩ := errorString_of_trod Tryz.underlying46 Tryz.rowE Tryz.underlying305 Tryz.underlying325 rfl rfl Tryz.underlying9 Tryz.cellsE Tryz.cellsS hd0 ok0
  refine ⟨a0, q0, ⟨by simpa using World.var?_cell hg0 hv0 0, (hrows a0.block a0.off (by simp [MemPlace.row])).1⟩, hr, ?_⟩
  simp [MemPlace.row]
/-- A listed error: its name, its variable, its text. -/
abbrev LE : Type := String × Nat × List UInt8
def leV (x : LE) : String × DataW Unit := (x.1, .iface "*errors.errorString" (.ptr (.agg [.lit (.string x.2.2)])))
theorem laid_list {W : World} {r : List (String × DataW Unit)} : ∀ (xs : List LE) (ps : List MemPlace), (∀ x ∈ xs, Tryz.prog.globalNamed x.1 = some x.2.1 ∧ (Tryz.prog.globals[x.2.1]?).map (·.type) = some 46) →
    DataW.LaidVars Tryz.prog W (xs.map leV ++ r) ps → (∀ b off, MemPlace.cell b off ∈ ps → (∃ c t, W.heap[b]? = some (.cells c t (0, 0))) ∧ ∀ u v, W.cell? ⟨b, off, none⟩ = some (.iface u v) → Value.okWide Tryz.prog W .any 0 u v) →
    ∃ ads : List Addr, ads.length = xs.length ∧ (∀ (i : Nat) (x : LE) (a : Addr), xs[i]? = some x → ads[i]? = some a → Sent W x.2.1 a) ∧ (∀ a ∈ ads, MemPlace.cell a.block a.off ∈ ps) ∧ (ps.Nodup → ads.Pairwise (· ≠ ·))
  | [], ps, _, _, _ => ⟨[], rfl, fun i x a h => by simp at h, fun a h => by simp at h, fun _ => List.Pairwise.nil⟩
  | x :: xs, ps, hx, h, hr => by
    obtain ⟨a, q, hs, hq, rfl⟩ := laid_step (hx x List.mem_cons_self).1 (hx x List.mem_cons_self).2 h hr
    obtain ⟨ads, h1, h2, h3, h4⟩ := laid_list xs q (fun y hy => hx y (List.mem_cons_of_mem _ hy)) hq (fun b off hb => hr b off (List.mem_cons_of_mem _ (List.mem_cons_of_mem _ hb)))
    refine ⟨a :: ads, by simp [h1], fun i y b hy hb => ?_, fun b hb => ?_, fun hn => ?_⟩
    · cases i with
      | zero => simp at hy hb; subst hy; subst hb; exact hs
      | succ i => exact h2 i y b (by simpa using hy) (by simpa using hb)
    · rcases List.mem_cons.1 hb with rfl | hb
      · exact List.mem_cons_of_mem _ List.mem_cons_self
      · exact List.mem_cons_of_mem _ (List.mem_cons_of_mem _ (h3 b hb))
    · have hn2 := (List.nodup_cons.1 hn).2
      have hn3 := List.nodup_cons.1 hn2
      exact List.Pairwise.cons (fun b hb e => hn3.1 (by rw [e]; exact h3 b hb)) (h4 hn3.2)
theorem Tryz.g1 : Tryz.prog.globalNamed "semblance/api.ErrArg" = some 2 := by kernel_rfl
theorem Tryz.t1 : (Tryz.prog.globals[2]?).map (·.type) = some 46 := by kernel_rfl
theorem Tryz.g2 : Tryz.prog.globalNamed "semblance/api.ErrLong" = some 1 := by kernel_rfl
theorem Tryz.t2 : (Tryz.prog.globals[1]?).map (·.type) = some 46 := by kernel_rfl
theorem Tryz.g3 : Tryz.prog.globalNamed "semblance/api.ErrIndex" = some 3 := by kernel_rfl
theorem Tryz.t3 : (Tryz.prog.globals[3]?).map (·.type) = some 46 := by kernel_rfl
theorem Tryz.g4 : Tryz.prog.globalNamed "semblance/api.ErrWord" = some 4 := by kernel_rfl
theorem Tryz.t4 : (Tryz.prog.globals[4]?).map (·.type) = some 46 := by kernel_rfl
theorem Tryz.g5 : Tryz.prog.globalNamed "semblance/api.ErrSyntax" = some 5 := by kernel_rfl
theorem Tryz.t5 : (Tryz.prog.globals[5]?).map (·.type) = some 46 := by kernel_rfl
theorem Tryz.g6 : Tryz.prog.globalNamed "semblance/api.ErrDeep" = some 6 := by kernel_rfl
theorem Tryz.t6 : (Tryz.prog.globals[6]?).map (·.type) = some 46 := by kernel_rfl
theorem Tryz.g7 : Tryz.prog.globalNamed "semblance/api.ErrTwice" = some 7 := by kernel_rfl
theorem Tryz.t7 : (Tryz.prog.globals[7]?).map (·.type) = some 46 := by kernel_rfl
theorem Tryz.g8 : Tryz.prog.globalNamed "semblance/api.ErrUnknown" = some 8 := by kernel_rfl
theorem Tryz.t8 : (Tryz.prog.globals[8]?).map (·.type) = some 46 := by kernel_rfl
theorem Tryz.g9 : Tryz.prog.globalNamed "semblance/api.ErrSilent" = some 9 := by kernel_rfl
theorem Tryz.t9 : (Tryz.prog.globals[9]?).map (·.type) = some 46 := by kernel_rfl
theorem Tryz.g10 : Tryz.prog.globalNamed "semblance/api.ErrUnguarded" = some 10 := by kernel_rfl
theorem Tryz.t10 : (Tryz.prog.globals[10]?).map (·.type) = some 46 := by kernel_rfl
theorem Tryz.g11 : Tryz.prog.globalNamed "semblance/api.ErrSteps" = some 11 := by kernel_rfl
theorem Tryz.t11 : (Tryz.prog.globals[11]?).map (·.type) = some 46 := by kernel_rfl
theorem Tryz.g12 : Tryz.prog.globalNamed "semblance/api.ErrStates" = some 12 := by kernel_rfl
theorem Tryz.t12 : (Tryz.prog.globals[12]?).map (·.type) = some 46 := by kernel_rfl
theorem Tryz.g13 : Tryz.prog.globalNamed "semblance/api.ErrEdges" = some 13 := by kernel_rfl
theorem Tryz.t13 : (Tryz.prog.globals[13]?).map (·.type) = some 46 := by kernel_rfl
theorem Tryz.g14 : Tryz.prog.globalNamed "semblance/api.ErrSystem" = some 14 := by kernel_rfl
theorem Tryz.t14 : (Tryz.prog.globals[14]?).map (·.type) = some 46 := by kernel_rfl
theorem Tryz.g15 : Tryz.prog.globalNamed "semblance/api.ErrClasses" = some 15 := by kernel_rfl
theorem Tryz.t15 : (Tryz.prog.globals[15]?).map (·.type) = some 46 := by kernel_rfl
theorem Tryz.g16 : Tryz.prog.globalNamed "semblance/api.ErrFormula" = some 16 := by kernel_rfl
theorem Tryz.t16 : (Tryz.prog.globals[16]?).map (·.type) = some 46 := by kernel_rfl
theorem Tryz.g17 : Tryz.prog.globalNamed "semblance/api.ErrLimit" = some 17 := by kernel_rfl
theorem Tryz.t17 : (Tryz.prog.globals[17]?).map (·.type) = some 46 := by kernel_rfl
theorem Tryz.g18 : Tryz.prog.globalNamed "semblance/api.ErrNone" = some 0 := by kernel_rfl
theorem Tryz.t18 : (Tryz.prog.globals[0]?).map (·.type) = some 46 := by kernel_rfl
theorem Tryz.g19 : Tryz.prog.globalNamed "semblance/api.ErrScript" = some 18 := by kernel_rfl
theorem Tryz.t19 : (Tryz.prog.globals[18]?).map (·.type) = some 46 := by kernel_rfl
set_option maxRecDepth 100000 in
theorem er_of {W : World} {x1 x2 x3 x4 x5 x6 x7 x8 x9 x10 x11 x12 x13 x14 x15 x16 x17 x18 x19 : List UInt8} {r : List (String × DataW Unit)} (h : laidMet Tryz.prog (("semblance/api.ErrArg", .iface "*errors.errorString" (.ptr (.agg [.lit (.string x1)]))) :: ("semblance/api.ErrLong", .iface "*errors.errorString" (.ptr (.agg [.lit (.string x2)]))) :: ("semblance/api.ErrIndex", .iface "*errors.errorString" (.ptr (.agg [.lit (.string x3)]))) :: ("semblance/api.ErrWord", .iface "*errors.errorString" (.ptr (.agg [.lit (.string x4)]))) :: ("semblance/api.ErrSyntax", .iface "*errors.errorString" (.ptr (.agg [.lit (.string x5)]))) :: ("semblance/api.ErrDeep", .iface "*errors.errorString" (.ptr (.agg [.lit (.string x6)]))) :: ("semblance/api.ErrTwice", .iface "*errors.errorString" (.ptr (.agg [.lit (.string x7)]))) :: ("semblance/api.ErrUnknown", .iface "*errors.errorString" (.ptr (.agg [.lit (.string x8)]))) :: ("semblance/api.ErrSilent", .iface "*errors.errorString" (.ptr (.agg [.lit (.string x9)]))) :: ("semblance/api.ErrUnguarded", .iface "*errors.errorString" (.ptr (.agg [.lit (.string x10)]))) :: ("semblance/api.ErrSteps", .iface "*errors.errorString" (.ptr (.agg [.lit (.string x11)]))) :: ("semblance/api.ErrStates", .iface "*errors.errorString" (.ptr (.agg [.lit (.string x12)]))) :: ("semblance/api.ErrEdges", .iface "*errors.errorString" (.ptr (.agg [.lit (.string x13)]))) :: ("semblance/api.ErrSystem", .iface "*errors.errorString" (.ptr (.agg [.lit (.string x14)]))) :: ("semblance/api.ErrClasses", .iface "*errors.errorString" (.ptr (.agg [.lit (.string x15)]))) :: ("semblance/api.ErrFormula", .iface "*errors.errorString" (.ptr (.agg [.lit (.string x16)]))) :: ("semblance/api.ErrLimit", .iface "*errors.errorString" (.ptr (.agg [.lit (.string x17)]))) :: ("semblance/api.ErrNone", .iface "*errors.errorString" (.ptr (.agg [.lit (.string x18)]))) :: ("semblance/api.ErrScript", .iface "*errors.errorString" (.ptr (.agg [.lit (.string x19)]))) :: r) W) : ∃ e, Er 19 W e := by
  obtain ⟨ps, h0, hnd, r0⟩ := h
  obtain ⟨ads, h1, h2, _, h4⟩ := laid_list [("semblance/api.ErrArg", 2, x1), ("semblance/api.ErrLong", 1, x2), ("semblance/api.ErrIndex", 3, x3), ("semblance/api.ErrWord", 4, x4), ("semblance/api.ErrSyntax", 5, x5), ("semblance/api.ErrDeep", 6, x6), ("semblance/api.ErrTwice", 7, x7), ("semblance/api.ErrUnknown", 8, x8), ("semblance/api.ErrSilent", 9, x9), ("semblance/api.ErrUnguarded", 10, x10), ("semblance/api.ErrSteps", 11, x11), ("semblance/api.ErrStates", 12, x12), ("semblance/api.ErrEdges", 13, x13), ("semblance/api.ErrSystem", 14, x14), ("semblance/api.ErrClasses", 15, x15), ("semblance/api.ErrFormula", 16, x16), ("semblance/api.ErrLimit", 17, x17), ("semblance/api.ErrNone", 0, x18), ("semblance/api.ErrScript", 18, x19)] ps (fun x hx => by
    simp only [List.mem_cons, List.not_mem_nil, or_false] at hx
    rcases hx with rfl | rfl | rfl | rfl | rfl | rfl | rfl | rfl | rfl | rfl | rfl | rfl | rfl | rfl | rfl | rfl | rfl | rfl | rfl
    · exact ⟨Tryz.g1, Tryz.t1⟩
    · exact ⟨Tryz.g2, Tryz.t2⟩
    · exact ⟨Tryz.g3, Tryz.t3⟩
    · exact ⟨Tryz.g4, Tryz.t4⟩
    · exact ⟨Tryz.g5, Tryz.t5⟩
    · exact ⟨Tryz.g6, Tryz.t6⟩
    · exact ⟨Tryz.g7, Tryz.t7⟩
    · exact ⟨Tryz.g8, Tryz.t8⟩
    · exact ⟨Tryz.g9, Tryz.t9⟩
    · exact ⟨Tryz.g10, Tryz.t10⟩
    · exact ⟨Tryz.g11, Tryz.t11⟩
    · exact ⟨Tryz.g12, Tryz.t12⟩
    · exact ⟨Tryz.g13, Tryz.t13⟩
    · exact ⟨Tryz.g14, Tryz.t14⟩
    · exact ⟨Tryz.g15, Tryz.t15⟩
    · exact ⟨Tryz.g16, Tryz.t16⟩
    · exact ⟨Tryz.g17, Tryz.t17⟩
    · exact ⟨Tryz.g18, Tryz.t18⟩
    · exact ⟨Tryz.g19, Tryz.t19⟩) h0 r0
  have hp := h4 hnd
  have h1' : ads.length = 19 := h1
  have hg : ∀ k, 1 ≤ k → k ≤ 19 → ads[k - 1]? = some (ads.getD (k - 1) ⟨0, 0, none⟩) := fun k _ h19 => by rw [List.getD_eq_getElem?_getD, List.getElem?_eq_getElem (by omega)]; rfl
  refine ⟨fun k => ads.getD (k - 1) ⟨0, 0, none⟩, ⟨fun _ => h2 0 _ _ rfl (hg 1 (by decide) (by decide)), fun _ => h2 1 _ _ rfl (hg 2 (by decide) (by decide)), fun _ => h2 2 _ _ rfl (hg 3 (by decide) (by decide)), fun _ => h2 3 _ _ rfl (hg 4 (by decide) (by decide)), fun _ => h2 4 _ _ rfl (hg 5 (by decide) (by decide)), fun _ => h2 5 _ _ rfl (hg 6 (by decide) (by decide)), fun _ => h2 6 _ _ rfl (hg 7 (by decide) (by decide)), fun _ => h2 7 _ _ rfl (hg 8 (by decide) (by decide)), fun _ => h2 8 _ _ rfl (hg 9 (by decide) (by decide)), fun _ => h2 9 _ _ rfl (hg 10 (by decide) (by decide)), fun _ => h2 10 _ _ rfl (hg 11 (by decide) (by decide)), fun _ => h2 11 _ _ rfl (hg 12 (by decide) (by decide)), fun _ => h2 12 _ _ rfl (hg 13 (by decide) (by decide)), fun _ => h2 13 _ _ rfl (hg 14 (by decide) (by decide)), fun _ => h2 14 _ _ rfl (hg 15 (by decide) (by decide)), fun _ => h2 15 _ _ rfl (hg 16 (by decide) (by decide)), fun _ => h2 16 _ _ rfl (hg 17 (by decide) (by decide)), fun _ => h2 17 _ _ rfl (hg 18 (by decide) (by decide)), fun _ => h2 18 _ _ rfl (hg 19 (by decide) (by decide)), fun i j hi hij hj e => ?_⟩⟩
  have hpi := List.pairwise_iff_getElem.1 hp (i - 1) (j - 1) (by omega) (by omega) (by omega)
  have ei := hg i hi (by omega)
  have ej := hg j (by omega) hj
  rw [List.getElem?_eq_getElem (by omega)] at ei ej
  exact hpi ((Option.some.inj ei).trans (e.symm.trans (Option.some.inj ej).symm))
set_option maxRecDepth 100000 in
theorem system_of {W : World} {x14 : List UInt8} {r : List (String × DataW Unit)} (h : laidMet Tryz.prog (("semblance/api.ErrSystem", .iface "*errors.errorString" (.ptr (.agg [.lit (.string x14)]))) :: r) W) : ∃ a, Sent W 14 a := by
  obtain ⟨ps, h0, hnd, r0⟩ := h
  obtain ⟨ads, h1, h2, _, _⟩ := laid_list [("semblance/api.ErrSystem", 14, x14)] ps (fun x hx => by
    simp only [List.mem_cons, List.not_mem_nil, or_false] at hx
    rcases hx with rfl
    · exact ⟨Tryz.g14, Tryz.t14⟩) h0 r0
  obtain ⟨a, ha⟩ : ∃ a, ads[0]? = some a := ⟨ads[0]'(by rw [h1]; simp), List.getElem?_eq_getElem _⟩
  exact ⟨a, h2 0 _ a rfl ha⟩
end Go.Proofs.YtpmanmoljlhogaaGreatDoor
/- What the listed package variables give of strconv's table of powers of ten; and the rest of the list. -/
namespace Go.Proofs.YtpmanmoljlhogaaGreatDoor
open Go.RowKit
theorem laid_tail {W : World} {x : String × DataW Unit} {r : List (String × DataW Unit)} (h : laidMet Tryz.prog (x :: r) W) : laidMet Tryz.prog r W := by
  obtain ⟨ps, ⟨g, t, cs, fuel, p, q, _, _, _, _, hr, rfl⟩, hn, ho⟩ := h
  exact ⟨q, hr, (List.nodup_append.1 hn).2.1, fun b off hb => ho b off (List.mem_append_right _ hb)⟩
theorem Tryz.gPow : Tryz.prog.globalNamed "internal/strconv.uint64pow10" = some 20 := by kernel_rfl
theorem Tryz.tPow : (Tryz.prog.globals[20]?).map (·.type) = some 301 := by kernel_rfl
theorem Tryz.cPowE : Tryz.prog.cellsOf 203 = 1 := by kernel_rfl
theorem Tryz.cPow : Tryz.prog.cellsOf 301 = 20 := by kernel_rfl
theorem er_pow_of {W : World} {d1 d2 : String × DataW Unit} {r : List (String × DataW Unit)} (h : laidMet Tryz.prog (d1 :: d2 :: ("internal/strconv.uint64pow10", Lib.tabData .u64 Lib.pow10Tab) :: r) W) : Pow W ∧ laidMet Tryz.prog r W := by
  have h2 := laid_tail (laid_tail h)
  exact ⟨Lib.tabBelow_of_tabIs (Lib.tabIs_of_head Tryz.gPow Tryz.tPow Tryz.underlying301 Tryz.underlying203 Tryz.cPowE Tryz.cPow h2), laid_tail h2⟩
theorem erR_of {W : World} {x3 x14 x18 : List UInt8} {r : List (String × DataW Unit)} (h : laidMet Tryz.prog (("semblance/api.ErrIndex", .iface "*errors.errorString" (.ptr (.agg [.lit (.string x3)]))) :: ("semblance/api.ErrSystem", .iface "*errors.errorString" (.ptr (.agg [.lit (.string x14)]))) :: ("semblance/api.ErrNone", .iface "*errors.errorString" (.ptr (.agg [.lit (.string x18)]))) :: r) W) : ∃ e, ErR W e := by
  obtain ⟨ps, h0, hnd, r0⟩ := laid_tail h
  obtain ⟨ads, h1, h2, _, _⟩ := laid_list [("semblance/api.ErrSystem", 14, x14), ("semblance/api.ErrNone", 0, x18)] ps (fun x hx => by
    simp only [List.mem_cons, List.not_mem_nil, or_false] at hx
    rcases hx with rfl | rfl
    · exact ⟨Tryz.g14, Tryz.t14⟩
    · exact ⟨Tryz.g18, Tryz.t18⟩) h0 r0
  obtain ⟨a, ha⟩ : ∃ a, ads[0]? = some a := ⟨ads[0]'(by rw [h1]; simp), List.getElem?_eq_getElem _⟩
  obtain ⟨b, hb⟩ : ∃ a, ads[1]? = some a := ⟨ads[1]'(by rw [h1]; simp), List.getElem?_eq_getElem _⟩
  exact ⟨fun i => if i = 14 then a else b, fun _ => h2 0 _ a rfl ha, fun _ => h2 1 _ b rfl hb⟩
end Go.Proofs.YtpmanmoljlhogaaGreatDoor
/- Contracts of slices' order2, median, medianAdjacent and choosePivot of edges by a view's comparison. (Written by mkpiv.py.) -/
namespace Go.Proofs.YtpmanmoljlhogaaGreatDoor
open Go.RowKit Go.Maps
attribute [local go_sem ↓] Go.wp_at_zero Go.wp_at_succ
/-- The row, and a counter in a block of its own. -/
structure CnE (w0 wr : World) (g : Nat) (d : Array Sy.Ed) (rest : List Value) (c s : Nat) : Prop where
  row : RowE w0 wr g d rest
  cell : wr.heap[c]? = some (.cells #[.int .i64 s] 3 (0, 0))
  up : w0.heap.size ≤ c
theorem CnE.below {w0 wr w' : World} {g : Nat} {d : Array Sy.Ed} {rest : List Value} {c s : Nat} (h : CnE w0 wr g d rest c s) (hb : Below wr.heap.size wr w') : CnE w0 w' g d rest c s := ⟨h.row.below hb, (hb.block _ (t_lt h.cell)).trans h.cell, h.up⟩
theorem CnE.bump {w0 wr : World} {g : Nat} {d : Array Sy.Ed} {rest : List Value} {c s : Nat} (h : CnE w0 wr g d rest c s) (t : Nat) : CnE w0 (wr.setCell ⟨c, 0, none⟩ (.int .i64 t)) g d rest c t := by
  have hne : c ≠ g := fun e => by
    obtain ⟨cs, hc, _⟩ := h.row.ids
    have h1 := h.cell
    rw [e, hc] at h1
    injection h1 with h1
    injection h1 with _ h1
    exact absurd h1 (by decide)
  exact ⟨Arr.kept h.row (Kept.setCell _ _ _ _) fun b e => by subst e; exact ⟨h.up, hne⟩, heap_setCell_same _ _ 0 _ _ _ h.cell, h.up⟩
set_option maxRecDepth 100000 in
set_option maxHeartbeats 4000000 in
theorem order2_any (f : Nat) (vw : Sy.Ed → Sy.Ed) (hV : ViewAt f vw) (g cap a b c0 s : Nat) (d : Array Sy.Ed) (rest : List Value) (w0 w : World) (hR : CnE w0 w g d rest c0 s) (ha : a < d.size) (hb : b < d.size) (hs : s ≤ 1000000) :
    Calls Tryz.prog 226 #[.slice (some ⟨g, 0, none⟩) d.size cap, .int .i64 a, .int .i64 b, .pointer (some ⟨c0, 0, none⟩), cmpV f] w fun r w' => r = .returned (.tuple #[.int .i64 (Sort.order2 (ltV vw) d a b s).1, .int .i64 (Sort.order2 (ltV vw) d a b s).2.1]) ∧ CnE w0 w' g d rest c0 (Sort.order2 (ltV vw) d a b s).2.2 := by
  obtain ⟨n, hn⟩ : ∃ n, n = d.size := ⟨_, rfl⟩
  have HR : Hid _ := And.intro hR (And.intro hn hV)
  rw [← hn] at ha hb ⊢
  unfold cmpV Sort.order2
  have he := enter_cmp
  obtain ⟨x0, x1, x2⟩ := hR.row.cells (j := b) (by omega)
  obtain ⟨y0, y1, y2⟩ := hR.row.cells (j := a) (by omega)
  have hcm := fun W => compare_any f vw HR.out.2.2 (d[b]!) (d[a]!) W
  unfold edV at hcm
  have hlt2 := cmpV_neg vw (d[b]!) (d[a]!)
  obtain ⟨xe, hxe⟩ : ∃ xe, xe = d[b]! := ⟨_, rfl⟩
  obtain ⟨ye, hye⟩ : ∃ ye, ye = d[a]! := ⟨_, rfl⟩
  rw [← hxe] at x0 x1 x2 hcm hlt2
  rw [← hye] at y0 y1 y2 hcm hlt2
  have HE : Hid _ := And.intro hxe hye
  clear hxe hye
  obtain ⟨xa, xb, xc⟩ := xe
  obtain ⟨ya, yb, yc⟩ := ye
  generalize cmpE (vw (xa, xb, xc)) (vw (ya, yb, yc)) = c at hcm hlt2
  have HC : Hid _ := hcm
  have HL : Hid _ := hlt2
  clear hcm hlt2
  simp only at x0 x1 x2 y0 y1 y2
  clear hR hn hV
  have p0 : (0 : Int) ≤ (b : Int) := by omega
  have p1 : (b : Int) < (n : Int) := by omega
  have p2 : (0 : Int) ≤ (a : Int) := by omega
  have p3 : (a : Int) < (n : Int) := by omega
  by_cases hc : c < 0
  · have p6 : decide (c < 0) = true := decide_eq_true hc
    rw [if_pos (by rw [← HE.out.1, ← HE.out.2]; exact HL.out.1 hc)]
    go_enter Tryz.func226, Tryz.ntmps226
    go_upto_region 1 with fail
    go_region_held3 (fun w' => ((w'.cell? ⟨g, b * 3, none⟩ = some (.int .i64 xa) ∧ w'.cell? ⟨g, b * 3 + 1, none⟩ = some (.int .i64 xb) ∧ w'.cell? ⟨g, b * 3 + 2, none⟩ = some (.int .i64 xc)) ∧ (w'.cell? ⟨g, a * 3, none⟩ = some (.int .i64 ya) ∧ w'.cell? ⟨g, a * 3 + 1, none⟩ = some (.int .i64 yb) ∧ w'.cell? ⟨g, a * 3 + 2, none⟩ = some (.int .i64 yc))) ∧ Hid (Below w.heap.size w w')) (first | exact rg_up6 hb3 (by assumption) | exact ⟨⟨⟨x0, x1, x2⟩, ⟨y0, y1, y2⟩⟩, ((Below.refl _ _).drew : Below w.heap.size w w.drew)⟩ | go_keep)
      ((first
        | (go_at_fn 152; refine (HC.out _).mono ?_; rintro r w3 ⟨rfl, hb3⟩)
        | fail))
    have hbq : Below w.heap.size w w3 := rg_b (by assumption)
    clear x0 x1 x2 y0 y1 y2 hb3 HC
    rename_i hS3
    clear hS3
    have hR3 := HR.out.1.below hbq
    have k0 : w3.cell? ⟨c0, 0, none⟩ = some (.int .i64 s) := cell0_of hR3.cell rfl
    have k1 := blk_free hR3.cell 0
    have p8 : IntKind.i64.wrap ((s : Int) + 1) = (s : Int) + 1 := by rw [IntKind.wrap_i64]; omega
    have H3 : Hid _ := hR3
    clear hR3 hbq
    go_wp2_with fail
    go_ret2
    exact ⟨rfl, H3.out.bump (s + 1)⟩
  · have p6 : decide (c < 0) = false := decide_eq_false hc
    rw [if_neg (by rw [← HE.out.1, ← HE.out.2]; intro h; exact hc (HL.out.2 h))]
    go_enter Tryz.func226, Tryz.ntmps226
    go_upto_region 1 with fail
    go_region_held3 (fun w' => ((w'.cell? ⟨g, b * 3, none⟩ = some (.int .i64 xa) ∧ w'.cell? ⟨g, b * 3 + 1, none⟩ = some (.int .i64 xb) ∧ w'.cell? ⟨g, b * 3 + 2, none⟩ = some (.int .i64 xc)) ∧ (w'.cell? ⟨g, a * 3, none⟩ = some (.int .i64 ya) ∧ w'.cell? ⟨g, a * 3 + 1, none⟩ = some (.int .i64 yb) ∧ w'.cell? ⟨g, a * 3 + 2, none⟩ = some (.int .i64 yc))) ∧ Hid (Below w.heap.size w w')) (first | exact rg_up6 hb3 (by assumption) | exact ⟨⟨⟨x0, x1, x2⟩, ⟨y0, y1, y2⟩⟩, ((Below.refl _ _).drew : Below w.heap.size w w.drew)⟩ | go_keep)
      ((first
        | (go_at_fn 152; refine (HC.out _).mono ?_; rintro r w3 ⟨rfl, hb3⟩)
        | fail))
    have hbq : Below w.heap.size w w3 := rg_b (by assumption)
    clear x0 x1 x2 y0 y1 y2 hb3 HC
    rename_i hS3
    clear hS3
    have H3 : Hid _ := HR.out.1.below hbq
    clear hbq
    go_wp2_with fail
    go_ret2
    exact ⟨rfl, H3.out⟩
theorem o2_lt {lt : Sy.Ed → Sy.Ed → Bool} {d : Array Sy.Ed} {a b s n : Nat} (ha : a < n) (hb : b < n) : (Sort.order2 lt d a b s).1 < n ∧ (Sort.order2 lt d a b s).2.1 < n ∧ (Sort.order2 lt d a b s).2.2 ≤ s + 1 := by
  unfold Sort.order2
  split <;> simp [ha, hb]
set_option maxRecDepth 100000 in
set_option maxHeartbeats 4000000 in
theorem median_any (f : Nat) (vw : Sy.Ed → Sy.Ed) (hV : ViewAt f vw) (g cap a b c c0 s : Nat) (d : Array Sy.Ed) (rest : List Value) (w0 w : World) (hR : CnE w0 w g d rest c0 s) (ha : a < d.size) (hb : b < d.size) (hc : c < d.size) (hs : s + 3 ≤ 1000000) :
    Calls Tryz.prog 216 #[.slice (some ⟨g, 0, none⟩) d.size cap, .int .i64 a, .int .i64 b, .int .i64 c, .pointer (some ⟨c0, 0, none⟩), cmpV f] w fun r w' => r = .returned (.int .i64 (Sort.median (ltV vw) d a b c s).1) ∧ CnE w0 w' g d rest c0 (Sort.median (ltV vw) d a b c s).2 := by
  have h1 := order2_any f vw hV g cap a b c0 s d rest w0 w hR ha hb (by omega)
  obtain ⟨l1, l2, l3⟩ := o2_lt (lt := ltV vw) (d := d) (s := s) ha hb
  unfold Sort.median
  generalize Sort.order2 (ltV vw) d a b s = r1 at h1 l1 l2 l3 ⊢
  obtain ⟨a1, b1, s1⟩ := r1
  simp only at h1 l1 l2 l3 ⊢
  have h2 := fun W (h : CnE w0 W g d rest c0 s1) => order2_any f vw hV g cap b1 c c0 s1 d rest w0 W h l2 hc (by omega)
  obtain ⟨l4, l5, l6⟩ := o2_lt (lt := ltV vw) (d := d) (s := s1) l2 hc
  generalize Sort.order2 (ltV vw) d b1 c s1 = r2 at h2 l4 l5 l6 ⊢
  obtain ⟨b2, c2, s2⟩ := r2
  simp only at h2 l4 l5 l6 ⊢
  have h3 := fun W (h : CnE w0 W g d rest c0 s2) => order2_any f vw hV g cap a1 b2 c0 s2 d rest w0 W h l1 l4 (by omega)
  generalize Sort.order2 (ltV vw) d a1 b2 s2 = r3 at h3 ⊢
  obtain ⟨a3, b3, s3⟩ := r3
  simp only at h3 ⊢
  have HH : Hid _ := And.intro h1 (And.intro h2 h3)
  unfold cmpV at HH ⊢
  clear h1 h2 h3 hR hV l1 l2 l3 l4 l5 l6
  go_enter Tryz.func216, Tryz.ntmps216
  go_wp2_with fail
  refine Calls.mono HH.out.1 ?_
  rintro r w1 ⟨rfl, hR1⟩
  go_wp2_with fail
  refine Calls.mono (HH.out.2.1 _ hR1) ?_
  rintro r w2 ⟨rfl, hR2⟩
  go_wp2_with fail
  refine Calls.mono (HH.out.2.2 _ hR2) ?_
  rintro r w3 ⟨rfl, hR3⟩
  go_wp2_with fail
  go_ret
  exact ⟨rfl, hR3⟩
set_option maxRecDepth 100000 in
set_option maxHeartbeats 4000000 in
theorem medianAdj_any (f : Nat) (vw : Sy.Ed → Sy.Ed) (hV : ViewAt f vw) (g cap a c0 s : Nat) (d : Array Sy.Ed) (rest : List Value) (w0 w : World) (hR : CnE w0 w g d rest c0 s) (ha : 1 ≤ a) (hb : a + 1 < d.size) (hsz : d.size ≤ 1000000) (hs : s + 3 ≤ 1000000) :
    Calls Tryz.prog 215 #[.slice (some ⟨g, 0, none⟩) d.size cap, .int .i64 a, .pointer (some ⟨c0, 0, none⟩), cmpV f] w fun r w' => r = .returned (.int .i64 (Sort.medianAdjacent (ltV vw) d a s).1) ∧ CnE w0 w' g d rest c0 (Sort.medianAdjacent (ltV vw) d a s).2 := by
  obtain ⟨p, rfl⟩ : ∃ p, a = p + 1 := ⟨a - 1, by omega⟩
  have h1 := median_any f vw hV g cap p (p + 1) (p + 1 + 1) c0 s d rest w0 w hR (by omega) (by omega) (by omega) hs
  unfold Sort.medianAdjacent
  rw [Nat.add_sub_cancel]
  generalize Sort.median (ltV vw) d p (p + 1) (p + 1 + 1) s = r1 at h1 ⊢
  obtain ⟨m1, s1⟩ := r1
  have e1 : IntKind.i64.wrap (((p + 1 : Nat) : Int) - 1) = (p : Int) := by rw [IntKind.wrap_i64]; omega
  have e2 : IntKind.i64.wrap (((p + 1 : Nat) : Int) + 1) = ((p + 1 + 1 : Nat) : Int) := by rw [IntKind.wrap_i64]; omega
  have HH : Hid _ := h1
  unfold cmpV at HH ⊢
  clear h1 hR hV
  go_enter Tryz.func215, Tryz.ntmps215
  go_wp2_with fail
  have HH2 := HH.out
  simp only [Int.natCast_add, Int.natCast_one] at HH2 ⊢
  refine Calls.mono HH2 ?_
  rintro r w1 ⟨rfl, hR1⟩
  go_wp2_with fail
  go_ret
  exact ⟨rfl, hR1⟩
end Go.Proofs.YtpmanmoljlhogaaGreatDoor
/- Contracts of slices' reverseRange, siftDown and heapSort of edges by a view's comparison. (Written by mkheap.py.) -/
namespace Go.Proofs.YtpmanmoljlhogaaGreatDoor
open Go.RowKit Go.Maps
attribute [local go_sem ↓] Go.wp_at_zero Go.wp_at_succ
theorem rev_go (i j : Nat) (d : Array Sy.Ed) (h : i < j) : Sort.reverseLoop i j d = Sort.reverseLoop (i + 1) (j - 1) (Sort.swp d i j) := by rw [Sort.reverseLoop, if_pos h]
theorem rev_end (i j : Nat) (d : Array Sy.Ed) (h : ¬ i < j) : Sort.reverseLoop i j d = d := by rw [Sort.reverseLoop, if_neg h]
set_option maxRecDepth 100000 in
set_option maxHeartbeats 8000000 in
theorem reverse_any (u : Value) (g cap a b : Nat) (d : Array Sy.Ed) (rest : List Value) (w0 w : World) (hR : RowE w0 w g d rest) (hab : a < b) (hb : b ≤ d.size) (hsz : d.size ≤ 1000000) :
    Calls Tryz.prog 192 #[.slice (some ⟨g, 0, none⟩) d.size cap, .int .i64 a, .int .i64 b, u] w fun r w' => r = .returned (.tuple #[]) ∧ RowE w0 w' g (Sort.reverseRange d a b) rest := by
  obtain ⟨n, hn⟩ : ∃ n, n = d.size := ⟨_, rfl⟩
  have HR : Hid _ := And.intro hR hn
  rw [← hn] at hb hsz ⊢
  unfold Sort.reverseRange
  clear hR hn
  go_enter Tryz.func192, Tryz.ntmps192
  go_wp2_with fail
  go_loopg [8, 9] (b - a) (fun q iv jv wr => ∃ (i j : Nat) (dk : Array Sy.Ed), iv = .int .i64 i ∧ jv = .int .i64 j ∧ i ≤ n ∧ j < n ∧ j - i ≤ q ∧ dk.size = n ∧ RowE w0 wr g dk rest ∧ Hid (Sort.reverseLoop i j dk = Sort.reverseLoop a (b - 1) d))
  case atStart => exact ⟨a, b - 1, d, rfl, by first | go_num | (congr 1; omega), by omega, by omega, by omega, HR.out.2.symm, HR.out.1, rfl⟩
  case round =>
    obtain ⟨i, j, dk, rfl, rfl, hi, hj, hq, hsk, hRk, HO⟩ := hrel
    by_cases hlt : i < j
    · obtain ⟨jp, rfl⟩ : ∃ jp, j = jp + 1 := ⟨j - 1, by omega⟩
      have r0 : (0 : Int) ≤ (i : Int) := by omega
      have r1 : (i : Int) < (n : Int) := by omega
      have r2 : (0 : Int) ≤ (jp : Int) + 1 := by omega
      have r3 : (jp : Int) + 1 < (n : Int) := by omega
      have r4 : ((jp : Int) + 1).toNat = jp + 1 := by omega
      have r5 : (i : Int) < (jp : Int) + 1 := by omega
      have r6 : IntKind.i64.wrap ((jp : Int) + 1 - 1) = (jp : Int) := by rw [IntKind.wrap_i64]; omega
      have r7 : IntKind.i64.wrap (jp : Int) = (jp : Int) := by rw [IntKind.wrap_i64]; omega
      have f0 := hRk.free (i * 3)
      have f1 := hRk.free (i * 3 + 1)
      have f2 := hRk.free (i * 3 + 2)
      have f3 := hRk.free ((jp + 1) * 3)
      have f4 := hRk.free ((jp + 1) * 3 + 1)
      have f5 := hRk.free ((jp + 1) * 3 + 2)
      obtain ⟨z0, z1, z2⟩ := hRk.cells (j := i) (by omega)
      obtain ⟨z3, z4, z5⟩ := hRk.cells (j := (jp + 1)) (by omega)
      obtain ⟨xe2, hxe2⟩ : ∃ xe, xe = dk[i]! := ⟨_, rfl⟩
      obtain ⟨ye2, hye2⟩ : ∃ ye, ye = dk[(jp + 1)]! := ⟨_, rfl⟩
      rw [← hxe2] at z0 z1 z2
      rw [← hye2] at z3 z4 z5
      have HE2 : Hid _ := And.intro hxe2 hye2
      clear hxe2 hye2
      obtain ⟨sa, sb, sc⟩ := xe2
      obtain ⟨ta, tb, tc⟩ := ye2
      simp only at z0 z1 z2 z3 z4 z5
      have HK : Hid _ := And.intro hRk hsk
      clear hRk hsk
      go_wp2_with fail
      go_region
      all_goals go_wp2_with fail
      go_roundg (jp - (i + 1))
      case measure => omega
      case rel =>
        refine ⟨i + 1, jp, Sort.swp dk i (jp + 1), by go_num, by go_num, by omega, by omega, Nat.le_refl _, by rw [Sort.size_swp]; exact HK.out.2, HK.out.1.swapped (i := i) (j := jp + 1) (x := (sa, sb, sc)) (y := (ta, tb, tc)) (by have := HK.out.2; omega) (by have := HK.out.2; omega) HE2.out.1 HE2.out.2, (show Hid _ from ?_)⟩
        show _ = _
        rw [← HO.out, rev_go _ _ _ hlt]
        rfl
    · have r5 : ¬ (i : Int) < (j : Int) := by omega
      go_wp2
      go_end0
      exact ⟨rfl, by rw [← HO.out, rev_end _ _ _ hlt]; exact hRk⟩
theorem sd_end {lt : Sy.Ed → Sy.Ed → Bool} {hi first root : Nat} {d : Array Sy.Ed} (h : hi ≤ 2 * root + 1) : Sort.siftDown lt hi first root d = d := by rw [Sort.siftDown, dif_pos h]
theorem sd_two {lt : Sy.Ed → Sy.Ed → Bool} {hi first root : Nat} {d : Array Sy.Ed} (h2 : 2 * root + 2 < hi) (hl : lt d[first + (2 * root + 1)]! d[first + (2 * root + 1) + 1]! = true) (hc : lt d[first + root]! d[first + (2 * root + 2)]! = true) : Sort.siftDown lt hi first root d = Sort.siftDown lt hi first (2 * root + 2) (Sort.swp d (first + root) (first + (2 * root + 2))) := by
  rw [Sort.siftDown, dif_neg (by omega), if_pos (by simp [hl]; omega), if_neg (by simp [hc]), dif_pos h2]
theorem sd_two_stop {lt : Sy.Ed → Sy.Ed → Bool} {hi first root : Nat} {d : Array Sy.Ed} (h2 : 2 * root + 2 < hi) (hl : lt d[first + (2 * root + 1)]! d[first + (2 * root + 1) + 1]! = true) (hc : lt d[first + root]! d[first + (2 * root + 2)]! = false) : Sort.siftDown lt hi first root d = d := by
  rw [Sort.siftDown, dif_neg (by omega), if_pos (by simp [hl]; omega), if_pos (by simp [hc])]
theorem sd_one {lt : Sy.Ed → Sy.Ed → Bool} {hi first root : Nat} {d : Array Sy.Ed} (h1 : 2 * root + 1 < hi) (hn : ¬ (2 * root + 2 < hi ∧ lt d[first + (2 * root + 1)]! d[first + (2 * root + 1) + 1]! = true)) (hc : lt d[first + root]! d[first + (2 * root + 1)]! = true) : Sort.siftDown lt hi first root d = Sort.siftDown lt hi first (2 * root + 1) (Sort.swp d (first + root) (first + (2 * root + 1))) := by
  rw [Sort.siftDown, dif_neg (by omega), if_neg (by simpa using hn), if_neg (by simp [hc])]
theorem sd_one_stop {lt : Sy.Ed → Sy.Ed → Bool} {hi first root : Nat} {d : Array Sy.Ed} (h1 : 2 * root + 1 < hi) (hn : ¬ (2 * root + 2 < hi ∧ lt d[first + (2 * root + 1)]! d[first + (2 * root + 1) + 1]! = true)) (hc : lt d[first + root]! d[first + (2 * root + 1)]! = false) : Sort.siftDown lt hi first root d = d := by
  rw [Sort.siftDown, dif_neg (by omega), if_neg (by simpa using hn), if_pos (by simp [hc])]
set_option maxRecDepth 100000 in
set_option maxHeartbeats 16000000 in
theorem sift_any (f : Nat) (vw : Sy.Ed → Sy.Ed) (hV : ViewAt f vw) (g cap lo hi first : Nat) (d : Array Sy.Ed) (rest : List Value) (w0 w : World) (hR : RowE w0 w g d rest) (hlo : lo ≤ hi) (hb : first + hi ≤ d.size) (hsz : d.size ≤ 1000000) :
    Calls Tryz.prog 212 #[.slice (some ⟨g, 0, none⟩) d.size cap, .int .i64 lo, .int .i64 hi, .int .i64 first, cmpV f] w fun r w' => r = .returned (.tuple #[]) ∧ RowE w0 w' g (Sort.siftDown (ltV vw) hi first lo d) rest ∧ (Sort.siftDown (ltV vw) hi first lo d).size = d.size := by
  obtain ⟨n, hn⟩ : ∃ n, n = d.size := ⟨_, rfl⟩
  have HR : Hid _ := And.intro hR (And.intro hn hV)
  rw [← hn] at hb hsz ⊢
  unfold cmpV
  have he := enter_cmp
  clear hR hn hV
  go_enter Tryz.func212, Tryz.ntmps212
  go_wp2_with fail
  go_loopg [10] hi (fun q rv wr => ∃ (root : Nat) (dk : Array Sy.Ed), rv = .int .i64 root ∧ root ≤ hi ∧ hi - root ≤ q ∧ dk.size = n ∧ RowE w0 wr g dk rest ∧ Hid (Sort.siftDown (ltV vw) hi first root dk = Sort.siftDown (ltV vw) hi first lo d))
  case atStart => exact ⟨lo, d, rfl, hlo, by omega, HR.out.2.1.symm, HR.out.1, rfl⟩
  case round =>
    obtain ⟨root, dk, rfl, hro, hq, hsk, hRk, HO⟩ := hrel
    have m1 : IntKind.i64.wrap (2 * (root : Int)) = 2 * (root : Int) := by rw [IntKind.wrap_i64]; omega
    have m2 : IntKind.i64.wrap (2 * (root : Int) + 1) = 2 * (root : Int) + 1 := by rw [IntKind.wrap_i64]; omega
    have m3 : IntKind.i64.wrap (2 * (root : Int) + 1 + 1) = 2 * (root : Int) + 1 + 1 := by rw [IntKind.wrap_i64]; omega
    obtain ⟨w4, hw4⟩ : ∃ w4, w4 = wr := ⟨_, rfl⟩
    by_cases h1 : 2 * root + 1 < hi
    · have q1 : ¬ (hi : Int) ≤ 2 * (root : Int) + 1 := by omega
      by_cases h2 : 2 * root + 2 < hi
      · have q2 : decide (2 * (root : Int) + 1 + 1 < (hi : Int)) = true := decide_eq_true (by omega)
        have q3 : 2 * (root : Int) + 1 + 1 < (hi : Int) := by omega
        have u1 : (first : Int) + (2 * (root : Int) + 1) < (n : Int) := by omega
        have u2 : (0 : Int) ≤ (first : Int) + (2 * (root : Int) + 1) := by omega
        have u3 : ((first : Int) + (2 * (root : Int) + 1)).toNat = first + (2 * root + 1) := by omega
        have u4 : IntKind.i64.wrap ((first : Int) + (2 * (root : Int) + 1)) = (first : Int) + (2 * (root : Int) + 1) := by rw [IntKind.wrap_i64]; omega
        have u5 : (first : Int) + (2 * (root : Int) + 1) + 1 < (n : Int) := by omega
        have u6 : (0 : Int) ≤ (first : Int) + (2 * (root : Int) + 1) + 1 := by omega
        have u7 : ((first : Int) + (2 * (root : Int) + 1) + 1).toNat = first + (2 * root + 1) + 1 := by omega
        have u8 : IntKind.i64.wrap ((first : Int) + (2 * (root : Int) + 1) + 1) = (first : Int) + (2 * (root : Int) + 1) + 1 := by rw [IntKind.wrap_i64]; omega
        obtain ⟨x0, x1, x2⟩ := hRk.cells (j := (first + (2 * root + 1))) (by omega)
        obtain ⟨y0, y1, y2⟩ := hRk.cells (j := (first + (2 * root + 1) + 1)) (by omega)
        have hcm := fun W => compare_any f vw HR.out.2.2 (dk[(first + (2 * root + 1))]!) (dk[(first + (2 * root + 1) + 1)]!) W
        unfold edV at hcm
        have hlt2 := cmpV_neg vw (dk[(first + (2 * root + 1))]!) (dk[(first + (2 * root + 1) + 1)]!)
        obtain ⟨xe, hxe⟩ : ∃ xe, xe = dk[(first + (2 * root + 1))]! := ⟨_, rfl⟩
        obtain ⟨ye, hye⟩ : ∃ ye, ye = dk[(first + (2 * root + 1) + 1)]! := ⟨_, rfl⟩
        rw [← hxe] at x0 x1 x2 hcm hlt2
        rw [← hye] at y0 y1 y2 hcm hlt2
        have HE : Hid _ := And.intro hxe hye
        clear hxe hye
        obtain ⟨xa, xb, xc⟩ := xe
        obtain ⟨ya, yb, yc⟩ := ye
        generalize cmpE (vw (xa, xb, xc)) (vw (ya, yb, yc)) = c at hcm hlt2
        have HC : Hid _ := hcm
        have HL : Hid _ := hlt2
        clear hcm hlt2
        simp only at x0 x1 x2 y0 y1 y2
        have HK : Hid _ := And.intro hRk hsk
        clear hRk hsk hw4
        by_cases hc1 : c < 0
        · have p7 : decide (c < 0) = true := decide_eq_true hc1
          go_upto_region 3 with fail
          go_region_held3 (fun w' => ((w'.cell? ⟨g, (first + (2 * root + 1)) * 3, none⟩ = some (.int .i64 xa) ∧ w'.cell? ⟨g, (first + (2 * root + 1)) * 3 + 1, none⟩ = some (.int .i64 xb) ∧ w'.cell? ⟨g, (first + (2 * root + 1)) * 3 + 2, none⟩ = some (.int .i64 xc)) ∧ (w'.cell? ⟨g, (first + (2 * root + 1) + 1) * 3, none⟩ = some (.int .i64 ya) ∧ w'.cell? ⟨g, (first + (2 * root + 1) + 1) * 3 + 1, none⟩ = some (.int .i64 yb) ∧ w'.cell? ⟨g, (first + (2 * root + 1) + 1) * 3 + 2, none⟩ = some (.int .i64 yc))) ∧ Hid (Below wr.heap.size wr w')) (first | exact rg_up6 hb3 (by assumption) | exact ⟨⟨⟨x0, x1, x2⟩, ⟨y0, y1, y2⟩⟩, ((Below.refl _ _).drew : Below wr.heap.size wr wr.drew)⟩ | go_keep)
            ((first
              | (go_at_fn 152; refine (HC.out _).mono ?_; rintro r w3 ⟨rfl, hb3⟩)
              | fail))
          have hbq : Below wr.heap.size wr w3 := rg_b (by assumption)
          clear x0 x1 x2 y0 y1 y2 hb3 HC
          rename_i hS3
          clear hS3
          have hll : ltV vw dk[first + (2 * root + 1)]! dk[first + (2 * root + 1) + 1]! = true := by rw [← HE.out.1, ← HE.out.2]; exact HL.out.1 hc1
          have hR4 := HK.out.1.below hbq
          obtain ⟨w4, hw4⟩ : ∃ w4, w4 = w3 := ⟨_, rfl⟩
          rw [← hw4] at hR4 ⊢
          have HLL : Hid _ := hll
          clear hbq hw4 HE HL hll hc1 p7 u1 u2 u3 u4 u5 u6 u7 u8
          have hCn : first + (2 * root + 2) < n := by omega
          have t1 : (first : Int) + (root : Int) < (n : Int) := by omega
          have t2 : (0 : Int) ≤ (first : Int) + (root : Int) := by omega
          have t3 : ((first : Int) + (root : Int)).toNat = first + root := by omega
          have t4 : IntKind.i64.wrap ((first : Int) + (root : Int)) = (first : Int) + (root : Int) := by rw [IntKind.wrap_i64]; omega
          have t5 : (first : Int) + (2 * (root : Int) + 1 + 1) < (n : Int) := by omega
          have t6 : (0 : Int) ≤ (first : Int) + (2 * (root : Int) + 1 + 1) := by omega
          have t7 : ((first : Int) + (2 * (root : Int) + 1 + 1)).toNat = first + (2 * root + 2) := by omega
          have t8 : IntKind.i64.wrap ((first : Int) + (2 * (root : Int) + 1 + 1)) = (first : Int) + (2 * (root : Int) + 1 + 1) := by rw [IntKind.wrap_i64]; omega
          obtain ⟨x0, x1, x2⟩ := hR4.cells (j := (first + root)) (by have := HK.out.2; omega)
          obtain ⟨y0, y1, y2⟩ := hR4.cells (j := (first + (2 * root + 2))) (by have := HK.out.2; omega)
          have hcm := fun W => compare_any f vw HR.out.2.2 (dk[(first + root)]!) (dk[(first + (2 * root + 2))]!) W
          unfold edV at hcm
          have hlt2 := cmpV_neg vw (dk[(first + root)]!) (dk[(first + (2 * root + 2))]!)
          obtain ⟨xe, hxe⟩ : ∃ xe, xe = dk[(first + root)]! := ⟨_, rfl⟩
          obtain ⟨ye, hye⟩ : ∃ ye, ye = dk[(first + (2 * root + 2))]! := ⟨_, rfl⟩
          rw [← hxe] at x0 x1 x2 hcm hlt2
          rw [← hye] at y0 y1 y2 hcm hlt2
          have HE : Hid _ := And.intro hxe hye
          clear hxe hye
          obtain ⟨xa, xb, xc⟩ := xe
          obtain ⟨ya, yb, yc⟩ := ye
          generalize cmpE (vw (xa, xb, xc)) (vw (ya, yb, yc)) = c at hcm hlt2
          have HC : Hid _ := hcm
          have HL : Hid _ := hlt2
          clear hcm hlt2
          simp only at x0 x1 x2 y0 y1 y2
          have H4 : Hid (RowE w0 w4 g dk rest) := hR4
          clear hR4
          by_cases hc2 : c < 0
          · have p6 : decide (c < 0) = true := decide_eq_true hc2
            go_upto_region 5 with fail
            go_region_held3 (fun w' => ((w'.cell? ⟨g, (first + root) * 3, none⟩ = some (.int .i64 xa) ∧ w'.cell? ⟨g, (first + root) * 3 + 1, none⟩ = some (.int .i64 xb) ∧ w'.cell? ⟨g, (first + root) * 3 + 2, none⟩ = some (.int .i64 xc)) ∧ (w'.cell? ⟨g, (first + (2 * root + 2)) * 3, none⟩ = some (.int .i64 ya) ∧ w'.cell? ⟨g, (first + (2 * root + 2)) * 3 + 1, none⟩ = some (.int .i64 yb) ∧ w'.cell? ⟨g, (first + (2 * root + 2)) * 3 + 2, none⟩ = some (.int .i64 yc))) ∧ Hid (Below w4.heap.size w4 w')) (first | exact rg_up6 hb3 (by assumption) | exact ⟨⟨⟨x0, x1, x2⟩, ⟨y0, y1, y2⟩⟩, ((Below.refl _ _).drew : Below w4.heap.size w4 w4.drew)⟩ | go_keep)
              ((first
                | (go_at_fn 152; refine (HC.out _).mono ?_; rintro r w3 ⟨rfl, hb3⟩)
                | fail))
            have hbq : Below w4.heap.size w4 w3 := rg_b (by assumption)
            clear x0 x1 x2 y0 y1 y2 hb3 HC
            rename_i hS3
            clear hS3
            have hR5 := H4.out.below hbq
            clear hbq
            obtain ⟨w5, hw5⟩ : ∃ w5, w5 = w3 := ⟨_, rfl⟩
            rw [← hw5] at hR5 ⊢
            clear hw5
            have f0 := hR5.free ((first + root) * 3)
            have f1 := hR5.free ((first + root) * 3 + 1)
            have f2 := hR5.free ((first + root) * 3 + 2)
            have f3 := hR5.free ((first + (2 * root + 2)) * 3)
            have f4 := hR5.free ((first + (2 * root + 2)) * 3 + 1)
            have f5 := hR5.free ((first + (2 * root + 2)) * 3 + 2)
            obtain ⟨z0, z1, z2⟩ := hR5.cells (j := (first + root)) (by have := HK.out.2; omega)
            obtain ⟨z3, z4, z5⟩ := hR5.cells (j := (first + (2 * root + 2))) (by have := HK.out.2; omega)
            obtain ⟨xe2, hxe2⟩ : ∃ xe, xe = dk[(first + root)]! := ⟨_, rfl⟩
            obtain ⟨ye2, hye2⟩ : ∃ ye, ye = dk[(first + (2 * root + 2))]! := ⟨_, rfl⟩
            rw [← hxe2] at z0 z1 z2
            rw [← hye2] at z3 z4 z5
            have HE2 : Hid _ := And.intro hxe2 hye2
            clear hxe2 hye2
            obtain ⟨sa, sb, sc⟩ := xe2
            obtain ⟨ta, tb, tc⟩ := ye2
            simp only at z0 z1 z2 z3 z4 z5
            have H5 : Hid (RowE w0 w5 g dk rest) := hR5
            clear hR5
            go_wp2_with fail
            go_region
            all_goals go_wp2_with fail
            go_roundg (hi - ((2 * root + 2)))
            case measure => omega
            case rel =>
              refine ⟨(2 * root + 2), Sort.swp dk (first + root) (first + (2 * root + 2)), by first | rfl | go_num | (congr 1; omega), by omega, Nat.le_refl _, by rw [Sort.size_swp]; exact HK.out.2, H5.out.swapped (i := first + root) (j := first + (2 * root + 2)) (x := (sa, sb, sc)) (y := (ta, tb, tc)) (by have := HK.out.2; omega) (by have := HK.out.2; omega) HE2.out.1 HE2.out.2, (show Hid _ from ?_)⟩
              show _ = _
              rw [← HO.out, sd_two h2 HLL.out (by rw [← HE.out.1, ← HE.out.2]; exact HL.out.1 hc2)]
          · have p6 : decide (c < 0) = false := decide_eq_false hc2
            go_upto_region 5 with fail
            go_region_held3 (fun w' => ((w'.cell? ⟨g, (first + root) * 3, none⟩ = some (.int .i64 xa) ∧ w'.cell? ⟨g, (first + root) * 3 + 1, none⟩ = some (.int .i64 xb) ∧ w'.cell? ⟨g, (first + root) * 3 + 2, none⟩ = some (.int .i64 xc)) ∧ (w'.cell? ⟨g, (first + (2 * root + 2)) * 3, none⟩ = some (.int .i64 ya) ∧ w'.cell? ⟨g, (first + (2 * root + 2)) * 3 + 1, none⟩ = some (.int .i64 yb) ∧ w'.cell? ⟨g, (first + (2 * root + 2)) * 3 + 2, none⟩ = some (.int .i64 yc))) ∧ Hid (Below w4.heap.size w4 w')) (first | exact rg_up6 hb3 (by assumption) | exact ⟨⟨⟨x0, x1, x2⟩, ⟨y0, y1, y2⟩⟩, ((Below.refl _ _).drew : Below w4.heap.size w4 w4.drew)⟩ | go_keep)
              ((first
                | (go_at_fn 152; refine (HC.out _).mono ?_; rintro r w3 ⟨rfl, hb3⟩)
                | fail))
            have hbq : Below w4.heap.size w4 w3 := rg_b (by assumption)
            clear x0 x1 x2 y0 y1 y2 hb3 HC
            rename_i hS3
            clear hS3
            have H5 : Hid (RowE w0 w3 g dk rest) := H4.out.below hbq
            clear hbq
            go_wp2_with fail
            (try simp only [Exit.inBlock, Exit.then])
            refine bodyPost_ret (results_none rfl _ _ _) rfl ?_
            refine ⟨rfl, ?_⟩
            have hl : ltV vw dk[first + root]! dk[first + (2 * root + 2)]! = false := by
              rw [← HE.out.1, ← HE.out.2]
              cases h : ltV vw (xa, xb, xc) (ya, yb, yc) with
              | false => rfl
              | true => exact absurd (HL.out.2 h) (by omega)
            rw [← HO.out, sd_two_stop h2 HLL.out hl]
            exact ⟨H5.out, HK.out.2⟩
        · have p7 : decide (c < 0) = false := decide_eq_false hc1
          go_upto_region 3 with fail
          go_region_held3 (fun w' => ((w'.cell? ⟨g, (first + (2 * root + 1)) * 3, none⟩ = some (.int .i64 xa) ∧ w'.cell? ⟨g, (first + (2 * root + 1)) * 3 + 1, none⟩ = some (.int .i64 xb) ∧ w'.cell? ⟨g, (first + (2 * root + 1)) * 3 + 2, none⟩ = some (.int .i64 xc)) ∧ (w'.cell? ⟨g, (first + (2 * root + 1) + 1) * 3, none⟩ = some (.int .i64 ya) ∧ w'.cell? ⟨g, (first + (2 * root + 1) + 1) * 3 + 1, none⟩ = some (.int .i64 yb) ∧ w'.cell? ⟨g, (first + (2 * root + 1) + 1) * 3 + 2, none⟩ = some (.int .i64 yc))) ∧ Hid (Below wr.heap.size wr w')) (first | exact rg_up6 hb3 (by assumption) | exact ⟨⟨⟨x0, x1, x2⟩, ⟨y0, y1, y2⟩⟩, ((Below.refl _ _).drew : Below wr.heap.size wr wr.drew)⟩ | go_keep)
            ((first
              | (go_at_fn 152; refine (HC.out _).mono ?_; rintro r w3 ⟨rfl, hb3⟩)
              | fail))
          have hbq : Below wr.heap.size wr w3 := rg_b (by assumption)
          clear x0 x1 x2 y0 y1 y2 hb3 HC
          rename_i hS3
          clear hS3
          have hll : ¬ (2 * root + 2 < hi ∧ ltV vw dk[first + (2 * root + 1)]! dk[first + (2 * root + 1) + 1]! = true) := fun h => by
            rw [← HE.out.1, ← HE.out.2] at h
            have := HL.out.2 h.2
            omega
          have hR4 := HK.out.1.below hbq
          obtain ⟨w4, hw4⟩ : ∃ w4, w4 = w3 := ⟨_, rfl⟩
          rw [← hw4] at hR4 ⊢
          have HLL : Hid _ := hll
          clear hbq hw4 HE HL hll hc1 p7 u1 u2 u3 u4 u5 u6 u7 u8
          have hCn : first + (2 * root + 1) < n := by omega
          have t1 : (first : Int) + (root : Int) < (n : Int) := by omega
          have t2 : (0 : Int) ≤ (first : Int) + (root : Int) := by omega
          have t3 : ((first : Int) + (root : Int)).toNat = first + root := by omega
          have t4 : IntKind.i64.wrap ((first : Int) + (root : Int)) = (first : Int) + (root : Int) := by rw [IntKind.wrap_i64]; omega
          have t5 : (first : Int) + (2 * (root : Int) + 1) < (n : Int) := by omega
          have t6 : (0 : Int) ≤ (first : Int) + (2 * (root : Int) + 1) := by omega
          have t7 : ((first : Int) + (2 * (root : Int) + 1)).toNat = first + (2 * root + 1) := by omega
          have t8 : IntKind.i64.wrap ((first : Int) + (2 * (root : Int) + 1)) = (first : Int) + (2 * (root : Int) + 1) := by rw [IntKind.wrap_i64]; omega
          obtain ⟨x0, x1, x2⟩ := hR4.cells (j := (first + root)) (by have := HK.out.2; omega)
          obtain ⟨y0, y1, y2⟩ := hR4.cells (j := (first + (2 * root + 1))) (by have := HK.out.2; omega)
          have hcm := fun W => compare_any f vw HR.out.2.2 (dk[(first + root)]!) (dk[(first + (2 * root + 1))]!) W
          unfold edV at hcm
          have hlt2 := cmpV_neg vw (dk[(first + root)]!) (dk[(first + (2 * root + 1))]!)
          obtain ⟨xe, hxe⟩ : ∃ xe, xe = dk[(first + root)]! := ⟨_, rfl⟩
          obtain ⟨ye, hye⟩ : ∃ ye, ye = dk[(first + (2 * root + 1))]! := ⟨_, rfl⟩
          rw [← hxe] at x0 x1 x2 hcm hlt2
          rw [← hye] at y0 y1 y2 hcm hlt2
          have HE : Hid _ := And.intro hxe hye
          clear hxe hye
          obtain ⟨xa, xb, xc⟩ := xe
          obtain ⟨ya, yb, yc⟩ := ye
          generalize cmpE (vw (xa, xb, xc)) (vw (ya, yb, yc)) = c at hcm hlt2
          have HC : Hid _ := hcm
          have HL : Hid _ := hlt2
          clear hcm hlt2
          simp only at x0 x1 x2 y0 y1 y2
          have H4 : Hid (RowE w0 w4 g dk rest) := hR4
          clear hR4
          by_cases hc2 : c < 0
          · have p6 : decide (c < 0) = true := decide_eq_true hc2
            go_upto_region 5 with fail
            go_region_held3 (fun w' => ((w'.cell? ⟨g, (first + root) * 3, none⟩ = some (.int .i64 xa) ∧ w'.cell? ⟨g, (first + root) * 3 + 1, none⟩ = some (.int .i64 xb) ∧ w'.cell? ⟨g, (first + root) * 3 + 2, none⟩ = some (.int .i64 xc)) ∧ (w'.cell? ⟨g, (first + (2 * root + 1)) * 3, none⟩ = some (.int .i64 ya) ∧ w'.cell? ⟨g, (first + (2 * root + 1)) * 3 + 1, none⟩ = some (.int .i64 yb) ∧ w'.cell? ⟨g, (first + (2 * root + 1)) * 3 + 2, none⟩ = some (.int .i64 yc))) ∧ Hid (Below w4.heap.size w4 w')) (first | exact rg_up6 hb3 (by assumption) | exact ⟨⟨⟨x0, x1, x2⟩, ⟨y0, y1, y2⟩⟩, ((Below.refl _ _).drew : Below w4.heap.size w4 w4.drew)⟩ | go_keep)
              ((first
                | (go_at_fn 152; refine (HC.out _).mono ?_; rintro r w3 ⟨rfl, hb3⟩)
                | fail))
            have hbq : Below w4.heap.size w4 w3 := rg_b (by assumption)
            clear x0 x1 x2 y0 y1 y2 hb3 HC
            rename_i hS3
            clear hS3
            have hR5 := H4.out.below hbq
            clear hbq
            obtain ⟨w5, hw5⟩ : ∃ w5, w5 = w3 := ⟨_, rfl⟩
            rw [← hw5] at hR5 ⊢
            clear hw5
            have f0 := hR5.free ((first + root) * 3)
            have f1 := hR5.free ((first + root) * 3 + 1)
            have f2 := hR5.free ((first + root) * 3 + 2)
            have f3 := hR5.free ((first + (2 * root + 1)) * 3)
            have f4 := hR5.free ((first + (2 * root + 1)) * 3 + 1)
            have f5 := hR5.free ((first + (2 * root + 1)) * 3 + 2)
            obtain ⟨z0, z1, z2⟩ := hR5.cells (j := (first + root)) (by have := HK.out.2; omega)
            obtain ⟨z3, z4, z5⟩ := hR5.cells (j := (first + (2 * root + 1))) (by have := HK.out.2; omega)
            obtain ⟨xe2, hxe2⟩ : ∃ xe, xe = dk[(first + root)]! := ⟨_, rfl⟩
            obtain ⟨ye2, hye2⟩ : ∃ ye, ye = dk[(first + (2 * root + 1))]! := ⟨_, rfl⟩
            rw [← hxe2] at z0 z1 z2
            rw [← hye2] at z3 z4 z5
            have HE2 : Hid _ := And.intro hxe2 hye2
            clear hxe2 hye2
            obtain ⟨sa, sb, sc⟩ := xe2
            obtain ⟨ta, tb, tc⟩ := ye2
            simp only at z0 z1 z2 z3 z4 z5
            have H5 : Hid (RowE w0 w5 g dk rest) := hR5
            clear hR5
            go_wp2_with fail
            go_region
            all_goals go_wp2_with fail
            go_roundg (hi - ((2 * root + 1)))
            case measure => omega
            case rel =>
              refine ⟨(2 * root + 1), Sort.swp dk (first + root) (first + (2 * root + 1)), by first | rfl | go_num | (congr 1; omega), by omega, Nat.le_refl _, by rw [Sort.size_swp]; exact HK.out.2, H5.out.swapped (i := first + root) (j := first + (2 * root + 1)) (x := (sa, sb, sc)) (y := (ta, tb, tc)) (by have := HK.out.2; omega) (by have := HK.out.2; omega) HE2.out.1 HE2.out.2, (show Hid _ from ?_)⟩
              show _ = _
              rw [← HO.out, sd_one h1 HLL.out (by rw [← HE.out.1, ← HE.out.2]; exact HL.out.1 hc2)]
          · have p6 : decide (c < 0) = false := decide_eq_false hc2
            go_upto_region 5 with fail
            go_region_held3 (fun w' => ((w'.cell? ⟨g, (first + root) * 3, none⟩ = some (.int .i64 xa) ∧ w'.cell? ⟨g, (first + root) * 3 + 1, none⟩ = some (.int .i64 xb) ∧ w'.cell? ⟨g, (first + root) * 3 + 2, none⟩ = some (.int .i64 xc)) ∧ (w'.cell? ⟨g, (first + (2 * root + 1)) * 3, none⟩ = some (.int .i64 ya) ∧ w'.cell? ⟨g, (first + (2 * root + 1)) * 3 + 1, none⟩ = some (.int .i64 yb) ∧ w'.cell? ⟨g, (first + (2 * root + 1)) * 3 + 2, none⟩ = some (.int .i64 yc))) ∧ Hid (Below w4.heap.size w4 w')) (first | exact rg_up6 hb3 (by assumption) | exact ⟨⟨⟨x0, x1, x2⟩, ⟨y0, y1, y2⟩⟩, ((Below.refl _ _).drew : Below w4.heap.size w4 w4.drew)⟩ | go_keep)
              ((first
                | (go_at_fn 152; refine (HC.out _).mono ?_; rintro r w3 ⟨rfl, hb3⟩)
                | fail))
            have hbq : Below w4.heap.size w4 w3 := rg_b (by assumption)
            clear x0 x1 x2 y0 y1 y2 hb3 HC
            rename_i hS3
            clear hS3
            have H5 : Hid (RowE w0 w3 g dk rest) := H4.out.below hbq
            clear hbq
            go_wp2_with fail
            (try simp only [Exit.inBlock, Exit.then])
            refine bodyPost_ret (results_none rfl _ _ _) rfl ?_
            refine ⟨rfl, ?_⟩
            have hl : ltV vw dk[first + root]! dk[first + (2 * root + 1)]! = false := by
              rw [← HE.out.1, ← HE.out.2]
              cases h : ltV vw (xa, xb, xc) (ya, yb, yc) with
              | false => rfl
              | true => exact absurd (HL.out.2 h) (by omega)
            rw [← HO.out, sd_one_stop h1 HLL.out hl]
            exact ⟨H5.out, HK.out.2⟩
      · have q2 : decide (2 * (root : Int) + 1 + 1 < (hi : Int)) = false := decide_eq_false (by omega)
        have q3 : ¬ 2 * (root : Int) + 1 + 1 < (hi : Int) := by omega
        have hll : ¬ (2 * root + 2 < hi ∧ ltV vw dk[first + (2 * root + 1)]! dk[first + (2 * root + 1) + 1]! = true) := fun h => h2 h.1
        have HLL : Hid _ := hll
        have HK : Hid _ := And.intro hRk hsk
        clear hRk hsk hw4 hll
        go_wp2_with fail
        go_region
        all_goals go_wp2_with fail
        have hR4 := HK.out.1.below (Below.refl _ _).drew
        obtain ⟨w4, hw4⟩ : ∃ w4, w4 = wr.drew := ⟨_, rfl⟩
        rw [← hw4] at hR4 ⊢
        clear hw4
        have hCn : first + (2 * root + 1) < n := by omega
        have t1 : (first : Int) + (root : Int) < (n : Int) := by omega
        have t2 : (0 : Int) ≤ (first : Int) + (root : Int) := by omega
        have t3 : ((first : Int) + (root : Int)).toNat = first + root := by omega
        have t4 : IntKind.i64.wrap ((first : Int) + (root : Int)) = (first : Int) + (root : Int) := by rw [IntKind.wrap_i64]; omega
        have t5 : (first : Int) + (2 * (root : Int) + 1) < (n : Int) := by omega
        have t6 : (0 : Int) ≤ (first : Int) + (2 * (root : Int) + 1) := by omega
        have t7 : ((first : Int) + (2 * (root : Int) + 1)).toNat = first + (2 * root + 1) := by omega
        have t8 : IntKind.i64.wrap ((first : Int) + (2 * (root : Int) + 1)) = (first : Int) + (2 * (root : Int) + 1) := by rw [IntKind.wrap_i64]; omega
        obtain ⟨x0, x1, x2⟩ := hR4.cells (j := (first + root)) (by have := HK.out.2; omega)
        obtain ⟨y0, y1, y2⟩ := hR4.cells (j := (first + (2 * root + 1))) (by have := HK.out.2; omega)
        have hcm := fun W => compare_any f vw HR.out.2.2 (dk[(first + root)]!) (dk[(first + (2 * root + 1))]!) W
        unfold edV at hcm
        have hlt2 := cmpV_neg vw (dk[(first + root)]!) (dk[(first + (2 * root + 1))]!)
        obtain ⟨xe, hxe⟩ : ∃ xe, xe = dk[(first + root)]! := ⟨_, rfl⟩
        obtain ⟨ye, hye⟩ : ∃ ye, ye = dk[(first + (2 * root + 1))]! := ⟨_, rfl⟩
        rw [← hxe] at x0 x1 x2 hcm hlt2
        rw [← hye] at y0 y1 y2 hcm hlt2
        have HE : Hid _ := And.intro hxe hye
        clear hxe hye
        obtain ⟨xa, xb, xc⟩ := xe
        obtain ⟨ya, yb, yc⟩ := ye
        generalize cmpE (vw (xa, xb, xc)) (vw (ya, yb, yc)) = c at hcm hlt2
        have HC : Hid _ := hcm
        have HL : Hid _ := hlt2
        clear hcm hlt2
        simp only at x0 x1 x2 y0 y1 y2
        have H4 : Hid (RowE w0 w4 g dk rest) := hR4
        clear hR4
        by_cases hc2 : c < 0
        · have p6 : decide (c < 0) = true := decide_eq_true hc2
          go_upto_region 5 with fail
          go_region_held3 (fun w' => ((w'.cell? ⟨g, (first + root) * 3, none⟩ = some (.int .i64 xa) ∧ w'.cell? ⟨g, (first + root) * 3 + 1, none⟩ = some (.int .i64 xb) ∧ w'.cell? ⟨g, (first + root) * 3 + 2, none⟩ = some (.int .i64 xc)) ∧ (w'.cell? ⟨g, (first + (2 * root + 1)) * 3, none⟩ = some (.int .i64 ya) ∧ w'.cell? ⟨g, (first + (2 * root + 1)) * 3 + 1, none⟩ = some (.int .i64 yb) ∧ w'.cell? ⟨g, (first + (2 * root + 1)) * 3 + 2, none⟩ = some (.int .i64 yc))) ∧ Hid (Below w4.heap.size w4 w')) (first | exact rg_up6 hb3 (by assumption) | exact ⟨⟨⟨x0, x1, x2⟩, ⟨y0, y1, y2⟩⟩, ((Below.refl _ _).drew : Below w4.heap.size w4 w4.drew)⟩ | go_keep)
            ((first
              | (go_at_fn 152; refine (HC.out _).mono ?_; rintro r w3 ⟨rfl, hb3⟩)
              | fail))
          have hbq : Below w4.heap.size w4 w3 := rg_b (by assumption)
          clear x0 x1 x2 y0 y1 y2 hb3 HC
          rename_i hS3
          clear hS3
          have hR5 := H4.out.below hbq
          clear hbq
          obtain ⟨w5, hw5⟩ : ∃ w5, w5 = w3 := ⟨_, rfl⟩
          rw [← hw5] at hR5 ⊢
          clear hw5
          have f0 := hR5.free ((first + root) * 3)
          have f1 := hR5.free ((first + root) * 3 + 1)
          have f2 := hR5.free ((first + root) * 3 + 2)
          have f3 := hR5.free ((first + (2 * root + 1)) * 3)
          have f4 := hR5.free ((first + (2 * root + 1)) * 3 + 1)
          have f5 := hR5.free ((first + (2 * root + 1)) * 3 + 2)
          obtain ⟨z0, z1, z2⟩ := hR5.cells (j := (first + root)) (by have := HK.out.2; omega)
          obtain ⟨z3, z4, z5⟩ := hR5.cells (j := (first + (2 * root + 1))) (by have := HK.out.2; omega)
          obtain ⟨xe2, hxe2⟩ : ∃ xe, xe = dk[(first + root)]! := ⟨_, rfl⟩
          obtain ⟨ye2, hye2⟩ : ∃ ye, ye = dk[(first + (2 * root + 1))]! := ⟨_, rfl⟩
          rw [← hxe2] at z0 z1 z2
          rw [← hye2] at z3 z4 z5
          have HE2 : Hid _ := And.intro hxe2 hye2
          clear hxe2 hye2
          obtain ⟨sa, sb, sc⟩ := xe2
          obtain ⟨ta, tb, tc⟩ := ye2
          simp only at z0 z1 z2 z3 z4 z5
          have H5 : Hid (RowE w0 w5 g dk rest) := hR5
          clear hR5
          go_wp2_with fail
          go_region
          all_goals go_wp2_with fail
          go_roundg (hi - ((2 * root + 1)))
          case measure => omega
          case rel =>
            refine ⟨(2 * root + 1), Sort.swp dk (first + root) (first + (2 * root + 1)), by first | rfl | go_num | (congr 1; omega), by omega, Nat.le_refl _, by rw [Sort.size_swp]; exact HK.out.2, H5.out.swapped (i := first + root) (j := first + (2 * root + 1)) (x := (sa, sb, sc)) (y := (ta, tb, tc)) (by have := HK.out.2; omega) (by have := HK.out.2; omega) HE2.out.1 HE2.out.2, (show Hid _ from ?_)⟩
            show _ = _
            rw [← HO.out, sd_one h1 HLL.out (by rw [← HE.out.1, ← HE.out.2]; exact HL.out.1 hc2)]
        · have p6 : decide (c < 0) = false := decide_eq_false hc2
          go_upto_region 5 with fail
          go_region_held3 (fun w' => ((w'.cell? ⟨g, (first + root) * 3, none⟩ = some (.int .i64 xa) ∧ w'.cell? ⟨g, (first + root) * 3 + 1, none⟩ = some (.int .i64 xb) ∧ w'.cell? ⟨g, (first + root) * 3 + 2, none⟩ = some (.int .i64 xc)) ∧ (w'.cell? ⟨g, (first + (2 * root + 1)) * 3, none⟩ = some (.int .i64 ya) ∧ w'.cell? ⟨g, (first + (2 * root + 1)) * 3 + 1, none⟩ = some (.int .i64 yb) ∧ w'.cell? ⟨g, (first + (2 * root + 1)) * 3 + 2, none⟩ = some (.int .i64 yc))) ∧ Hid (Below w4.heap.size w4 w')) (first | exact rg_up6 hb3 (by assumption) | exact ⟨⟨⟨x0, x1, x2⟩, ⟨y0, y1, y2⟩⟩, ((Below.refl _ _).drew : Below w4.heap.size w4 w4.drew)⟩ | go_keep)
            ((first
              | (go_at_fn 152; refine (HC.out _).mono ?_; rintro r w3 ⟨rfl, hb3⟩)
              | fail))
          have hbq : Below w4.heap.size w4 w3 := rg_b (by assumption)
          clear x0 x1 x2 y0 y1 y2 hb3 HC
          rename_i hS3
          clear hS3
          have H5 : Hid (RowE w0 w3 g dk rest) := H4.out.below hbq
          clear hbq
          go_wp2_with fail
          (try simp only [Exit.inBlock, Exit.then])
          refine bodyPost_ret (results_none rfl _ _ _) rfl ?_
          refine ⟨rfl, ?_⟩
          have hl : ltV vw dk[first + root]! dk[first + (2 * root + 1)]! = false := by
            rw [← HE.out.1, ← HE.out.2]
            cases h : ltV vw (xa, xb, xc) (ya, yb, yc) with
            | false => rfl
            | true => exact absurd (HL.out.2 h) (by omega)
          rw [← HO.out, sd_one_stop h1 HLL.out hl]
          exact ⟨H5.out, HK.out.2⟩
    · have q1 : (hi : Int) ≤ 2 * (root : Int) + 1 := by omega
      go_wp2
      go_end0
      refine ⟨rfl, ?_⟩
      rw [← HO.out, sd_end (by omega)]
      exact ⟨hRk, hsk⟩
end Go.Proofs.YtpmanmoljlhogaaGreatDoor
/- Contract of slices' heapSort of edges by a view's comparison. (Written by mkheap2.py.) -/
namespace Go.Proofs.YtpmanmoljlhogaaGreatDoor
open Go.RowKit Go.Maps
attribute [local go_sem ↓] Go.wp_at_zero Go.wp_at_succ
set_option maxRecDepth 100000 in
set_option maxHeartbeats 16000000 in
theorem heap_any (f : Nat) (vw : Sy.Ed → Sy.Ed) (hV : ViewAt f vw) (g cap a b : Nat) (d : Array Sy.Ed) (rest : List Value) (w0 w : World) (hR : RowE w0 w g d rest) (hab : a < b) (hb : b ≤ d.size) (hsz : d.size ≤ 1000000) :
    Calls Tryz.prog 189 #[.slice (some ⟨g, 0, none⟩) d.size cap, .int .i64 a, .int .i64 b, cmpV f] w fun r w' => r = .returned (.tuple #[]) ∧ RowE w0 w' g (Sort.heapSort (ltV vw) d a b) rest := by
  obtain ⟨M, hbM⟩ : ∃ M, b = a + (M + 1) := ⟨b - a - 1, by omega⟩
  obtain ⟨n, hn⟩ : ∃ n, n = d.size := ⟨_, rfl⟩
  have HR : Hid _ := And.intro hR (And.intro hn hV)
  rw [← hn] at hb hsz ⊢
  have hSi : ∀ (lo hi : Nat) (dk : Array Sy.Ed) (W : World), dk.size = n → RowE w0 W g dk rest → lo ≤ hi → a + hi ≤ n → Calls Tryz.prog 212 #[.slice (some ⟨g, 0, none⟩) n cap, .int .i64 lo, .int .i64 hi, .int .i64 a, cmpV f] W fun r w' => r = .returned (.tuple #[]) ∧ RowE w0 w' g (Sort.siftDown (ltV vw) hi a lo dk) rest ∧ (Sort.siftDown (ltV vw) hi a lo dk).size = n := fun lo hi dk W hs h h1 h2 => by
    have h9 := sift_any f vw hV g cap lo hi a dk rest w0 W h h1 (by omega) (by omega)
    rw [hs] at h9
    exact h9
  have HS : Hid _ := hSi
  unfold cmpV at HS ⊢
  unfold Sort.heapSort
  have eM : b - a = M + 1 := by omega
  rw [eM, Nat.add_sub_cancel]
  have hbn : a + (M + 1) ≤ n := by omega
  have e0 : (b : Int) - (a : Int) = (M : Int) + 1 := by omega
  have e1 : IntKind.i64.wrap ((b : Int) - (a : Int)) = (M : Int) + 1 := by rw [IntKind.wrap_i64]; omega
  have e2 : IntKind.i64.wrap ((M : Int) + 1 - 1) = (M : Int) := by rw [IntKind.wrap_i64]; omega
  have e3 : IntKind.i64.wrap (M : Int) = (M : Int) := by rw [IntKind.wrap_i64]; omega
  have e4 : IntKind.i64.wrap ((M : Int) / 2) = ((M / 2 : Nat) : Int) := by rw [IntKind.wrap_i64]; omega
  clear hR hn hV hSi eM hbM hab hb
  go_enter Tryz.func189, Tryz.ntmps189
  go_wp2_with fail
  go_loopg [11] (M / 2 + 1) (fun q iv wr => ∃ (k : Nat) (dk : Array Sy.Ed), iv = .int .i64 ((k : Int) - 1) ∧ k ≤ M / 2 + 1 ∧ k ≤ q ∧ dk.size = n ∧ RowE w0 wr g dk rest ∧ Hid (Sort.heapBuild (ltV vw) (M + 1) a k dk = Sort.heapBuild (ltV vw) (M + 1) a (M / 2 + 1) d))
  case atStart => exact ⟨M / 2 + 1, d, by congr 1; omega, Nat.le_refl _, Nat.le_refl _, HR.out.2.1.symm, HR.out.1, rfl⟩
  case round =>
    obtain ⟨k, dk, rfl, hk, hq, hsk, hRk, HO⟩ := hrel
    cases k with
    | succ k =>
      have q3 : ((k + 1 : Nat) : Int) - 1 = (k : Int) := by omega
      have q4 : IntKind.i64.wrap ((k : Int) - 1) = (k : Int) - 1 := by rw [IntKind.wrap_i64]; omega
      have q5 : (0 : Int) ≤ (k : Int) := by omega
      rw [q3]
      have hC := HS.out k (M + 1) dk wr hsk hRk (by omega) (by omega)
      simp only [Int.natCast_add, Int.natCast_one] at hC
      have HC : Hid _ := And.intro hC trivial
      clear hC hRk q3 hsk e1 e2 e3 e4 e0
      go_wp2_with fail
      refine Calls.mono HC.out.1 ?_
      rintro r w3 ⟨rfl, hR3, hs3⟩
      have H3 : Hid _ := And.intro hR3 hs3
      clear hR3 hs3
      go_wp2_with fail
      go_roundg k
      case measure => omega
      case rel => exact ⟨k, _, rfl, by omega, Nat.le_refl _, H3.out.2, H3.out.1, HO.out⟩
    | zero =>
      have q2 : ((0 : Nat) : Int) - 1 = -1 := by omega
      rw [q2]
      have hO := HO.out
      rw [Sort.heapBuild] at hO
      have HO2 : Hid (dk = Sort.heapBuild (ltV vw) (M + 1) a (M / 2 + 1) d) := hO
      have HK : Hid (RowE w0 wr g dk rest ∧ dk.size = n) := ⟨hRk, hsk⟩
      clear hO hRk hsk HO
      go_wp2_with fail
      go_loopg [12] (M + 1) (fun q iv wr => ∃ (k : Nat) (dj : Array Sy.Ed), iv = .int .i64 ((k : Int) - 1) ∧ k ≤ M + 1 ∧ k ≤ q ∧ dj.size = n ∧ RowE w0 wr g dj rest ∧ Hid (Sort.heapPop (ltV vw) a k dj = Sort.heapPop (ltV vw) a (M + 1) dk))
      case atStart => exact ⟨M + 1, dk, by congr 1; omega, Nat.le_refl _, Nat.le_refl _, HK.out.2, HK.out.1, rfl⟩
      case round =>
        obtain ⟨k, dj, rfl, hk, hq, hsj, hRj, HP⟩ := hrel
        cases k with
        | succ k =>
          have q3 : ((k + 1 : Nat) : Int) - 1 = (k : Int) := by omega
          rw [q3]
          rcases Nat.eq_zero_or_pos k with hk0 | hkp
          · subst hk0
            have t5 : (0 : Int) ≤ (a : Int) := by omega
            have t6 : (a : Int) < (n : Int) := by omega
            have f0 := hRj.free (a * 3)
            have f1 := hRj.free (a * 3 + 1)
            have f2 := hRj.free (a * 3 + 2)
            have f3 := hRj.free (a * 3)
            have f4 := hRj.free (a * 3 + 1)
            have f5 := hRj.free (a * 3 + 2)
            obtain ⟨z0, z1, z2⟩ := hRj.cells (j := a) (by omega)
            obtain ⟨z3, z4, z5⟩ := hRj.cells (j := a) (by omega)
            obtain ⟨xe2, hxe2⟩ : ∃ xe, xe = dj[a]! := ⟨_, rfl⟩
            obtain ⟨ye2, hye2⟩ : ∃ ye, ye = dj[a]! := ⟨_, rfl⟩
            rw [← hxe2] at z0 z1 z2
            rw [← hye2] at z3 z4 z5
            have HE2 : Hid _ := And.intro hxe2 hye2
            clear hxe2 hye2
            obtain ⟨sa, sb, sc⟩ := xe2
            obtain ⟨ta, tb, tc⟩ := ye2
            simp only at z0 z1 z2 z3 z4 z5
            have HJ : Hid (RowE w0 wr g dj rest ∧ dj.size = n) := ⟨hRj, hsj⟩
            clear hRj hsj q2 q3
            rw [show ((0 : Nat) : Int) = 0 from rfl]
            go_wp2_with fail
            go_region
            all_goals go_wp2_with fail
            have hRs := HJ.out.1.swapped (i := a) (j := a) (x := (sa, sb, sc)) (y := (sa, sb, sc)) (by have := HJ.out.2; omega) (by have := HJ.out.2; omega) HE2.out.1 HE2.out.1
            have hC := HS.out 0 0 (Sort.swp dj a a) _ (by rw [Sort.size_swp]; exact HJ.out.2) hRs (by omega) (by omega)
            rw [show ((0 : Nat) : Int) = 0 from rfl] at hC
            refine Calls.mono hC ?_
            rintro r w3 ⟨rfl, hR3, hs3⟩
            have H3 : Hid _ := And.intro hR3 hs3
            clear hR3 hs3 hC hRs
            go_wp2_with fail
            go_roundg 0
            case measure => omega
            case rel => exact ⟨0, _, rfl, by omega, Nat.le_refl _, H3.out.2, H3.out.1, HP.out⟩
          · have q4 : IntKind.i64.wrap ((k : Int) - 1) = (k : Int) - 1 := by rw [IntKind.wrap_i64]; omega
            have q5 : (0 : Int) ≤ (k : Int) := by omega
            have t1 : (a : Int) + (k : Int) < (n : Int) := by omega
            have t2 : (0 : Int) ≤ (a : Int) + (k : Int) := by omega
            have t3 : ((a : Int) + (k : Int)).toNat = a + k := by omega
            have t4 : IntKind.i64.wrap ((a : Int) + (k : Int)) = (a : Int) + (k : Int) := by rw [IntKind.wrap_i64]; omega
            have t5 : (0 : Int) ≤ (a : Int) := by omega
            have t6 : (a : Int) < (n : Int) := by omega
            obtain ⟨ak, hak⟩ : ∃ ak, ak = a + k := ⟨_, rfl⟩
            have hne : ¬ a = ak := by omega
            have hne2 : ¬ ak = a := by omega
            rw [← hak] at t3
            have hakn : ak < n := by omega
            have f0 := hRj.free (a * 3)
            have f1 := hRj.free (a * 3 + 1)
            have f2 := hRj.free (a * 3 + 2)
            have f3 := hRj.free (ak * 3)
            have f4 := hRj.free (ak * 3 + 1)
            have f5 := hRj.free (ak * 3 + 2)
            obtain ⟨z0, z1, z2⟩ := hRj.cells (j := a) (by omega)
            obtain ⟨z3, z4, z5⟩ := hRj.cells (j := ak) (by omega)
            obtain ⟨xe2, hxe2⟩ : ∃ xe, xe = dj[a]! := ⟨_, rfl⟩
            obtain ⟨ye2, hye2⟩ : ∃ ye, ye = dj[ak]! := ⟨_, rfl⟩
            rw [← hxe2] at z0 z1 z2
            rw [← hye2] at z3 z4 z5
            have HE2 : Hid _ := And.intro hxe2 hye2
            clear hxe2 hye2
            obtain ⟨sa, sb, sc⟩ := xe2
            obtain ⟨ta, tb, tc⟩ := ye2
            simp only at z0 z1 z2 z3 z4 z5
            have HJ : Hid (RowE w0 wr g dj rest ∧ dj.size = n ∧ ak = a + k) := ⟨hRj, hsj, hak⟩
            clear hRj hsj q2 q3 hak
            go_wp2_with fail
            go_region
            all_goals go_wp2_with fail
            have hRs := HJ.out.1.swapped (i := a) (j := ak) (x := (sa, sb, sc)) (y := (ta, tb, tc)) (by have := HJ.out.2; omega) (by have := HJ.out.2; omega) HE2.out.1 HE2.out.2
            have hC := HS.out 0 k (Sort.swp dj a ak) _ (by rw [Sort.size_swp]; exact HJ.out.2.1) hRs (by omega) (by omega)
            rw [show ((0 : Nat) : Int) = 0 from rfl] at hC
            refine Calls.mono hC ?_
            rintro r w3 ⟨rfl, hR3, hs3⟩
            have H3 : Hid _ := And.intro hR3 hs3
            clear hR3 hs3 hC hRs
            go_wp2_with fail
            go_roundg k
            case measure => omega
            case rel => exact ⟨k, _, rfl, by omega, Nat.le_refl _, H3.out.2, H3.out.1, by rw [HJ.out.2.2]; exact HP.out⟩
        | zero =>
          have q2 : ((0 : Nat) : Int) - 1 = -1 := by omega
          rw [q2]
          go_wp2_with fail
          go_end0
          refine ⟨rfl, ?_⟩
          rw [← HO2.out, ← HP.out, Sort.heapPop]
          exact hRj
end Go.Proofs.YtpmanmoljlhogaaGreatDoor
/- Contract of slices' choosePivot of edges by a view's comparison. -/
namespace Go.Proofs.YtpmanmoljlhogaaGreatDoor
open Go.RowKit Go.Maps
attribute [local go_sem ↓] Go.wp_at_zero Go.wp_at_succ
/-- The hints' numbers. -/
def hintC : Sort.Hint → Int
  | .unknown => 0
  | .increasing => 1
  | .decreasing => 2
def hintS (s : Nat) : Sort.Hint := if s = 0 then .increasing else if s = 12 then .decreasing else .unknown
theorem med_lt {lt : Sy.Ed → Sy.Ed → Bool} {d : Array Sy.Ed} {a b c s n : Nat} (ha : a < n) (hb : b < n) (hc : c < n) : (Sort.median lt d a b c s).1 < n ∧ (Sort.median lt d a b c s).2 ≤ s + 3 := by
  unfold Sort.median
  obtain ⟨l1, l2, l3⟩ := o2_lt (lt := lt) (d := d) (s := s) ha hb
  obtain ⟨l4, l5, l6⟩ := o2_lt (lt := lt) (d := d) (s := (Sort.order2 lt d a b s).2.2) l2 hc
  obtain ⟨l7, l8, l9⟩ := o2_lt (lt := lt) (d := d) (s := (Sort.order2 lt d (Sort.order2 lt d a b s).2.1 c (Sort.order2 lt d a b s).2.2).2.2) l1 l4
  dsimp only
  exact ⟨l8, by omega⟩
theorem adj_lt {lt : Sy.Ed → Sy.Ed → Bool} {d : Array Sy.Ed} {a s n : Nat} (ha : 1 ≤ a) (hb : a + 1 < n) : (Sort.medianAdjacent lt d a s).1 < n ∧ (Sort.medianAdjacent lt d a s).2 ≤ s + 3 := by
  unfold Sort.medianAdjacent
  exact med_lt (by omega) (by omega) hb
set_option maxRecDepth 100000 in
set_option maxHeartbeats 4000000 in
theorem pivot_any (f : Nat) (vw : Sy.Ed → Sy.Ed) (hV : ViewAt f vw) (g cap a b : Nat) (d : Array Sy.Ed) (rest : List Value) (w0 w : World) (hR : RowE w0 w g d rest) (hab : a + 12 < b) (hb : b ≤ d.size) (hsz : d.size ≤ 1000000) :
    Calls Tryz.prog 191 #[.slice (some ⟨g, 0, none⟩) d.size cap, .int .i64 a, .int .i64 b, cmpV f] w fun r w' => r = .returned (.tuple #[.int .i64 (Sort.choosePivot (ltV vw) d a b).1, .int .i64 (hintC (Sort.choosePivot (ltV vw) d a b).2)]) ∧ RowE w0 w' g d rest := by
  obtain ⟨L, hL⟩ : ∃ L, L = b - a := ⟨_, rfl⟩
  obtain ⟨Q, hQ⟩ : ∃ Q, Q = L / 4 := ⟨_, rfl⟩
  obtain ⟨I, hI⟩ : ∃ I, I = a + Q * 1 := ⟨_, rfl⟩
  obtain ⟨J, hJ⟩ : ∃ J, J = a + Q * 2 := ⟨_, rfl⟩
  obtain ⟨K, hK⟩ : ∃ K, K = a + Q * 3 := ⟨_, rfl⟩
  have hCn : CnE w0 (w.alloc (.cells #[.int .i64 0] 3)) g d rest w.heap.size 0 := ⟨hR.below ((Below.refl _ _).alloc (Nat.le_refl _) _), heap_alloc_new w _, hR.bl.size⟩
  have hp : Sort.choosePivot (ltV vw) d a b = (if 50 ≤ L then (fun r : Nat × Nat => (r.1, hintS r.2)) (Sort.median (ltV vw) d (Sort.medianAdjacent (ltV vw) d I 0).1 (Sort.medianAdjacent (ltV vw) d J (Sort.medianAdjacent (ltV vw) d I 0).2).1 (Sort.medianAdjacent (ltV vw) d K (Sort.medianAdjacent (ltV vw) d J (Sort.medianAdjacent (ltV vw) d I 0).2).2).1 (Sort.medianAdjacent (ltV vw) d K (Sort.medianAdjacent (ltV vw) d J (Sort.medianAdjacent (ltV vw) d I 0).2).2).2) else (fun r : Nat × Nat => (r.1, hintS r.2)) (Sort.median (ltV vw) d I J K 0)) := by
    unfold Sort.choosePivot hintS
    simp only [← hL, ← hQ, ← hI, ← hJ, ← hK]
    rw [if_pos (by omega)]
    split <;> rfl
  rw [hp]
  have w1 : IntKind.i64.wrap ((b : Int) - (a : Int)) = (L : Int) := by rw [IntKind.wrap_i64]; omega
  have w1' : (b : Int) - (a : Int) = (L : Int) := by omega
  have w2 : IntKind.i64.wrap ((L : Int) / 4) = (Q : Int) := by rw [IntKind.wrap_i64]; omega
  have w3 : IntKind.i64.wrap ((a : Int) + (Q : Int)) = (I : Int) := by rw [IntKind.wrap_i64]; omega
  have w3' : (a : Int) + (Q : Int) = (I : Int) := by omega
  have w4 : IntKind.i64.wrap ((Q : Int) * 2) = (Q : Int) * 2 := by rw [IntKind.wrap_i64]; omega
  have w5 : IntKind.i64.wrap ((Q : Int) * 3) = (Q : Int) * 3 := by rw [IntKind.wrap_i64]; omega
  have w6 : IntKind.i64.wrap ((a : Int) + (Q : Int) * 2) = (J : Int) := by rw [IntKind.wrap_i64]; omega
  have w6' : (a : Int) + (Q : Int) * 2 = (J : Int) := by omega
  have w7 : IntKind.i64.wrap ((a : Int) + (Q : Int) * 3) = (K : Int) := by rw [IntKind.wrap_i64]; omega
  have w7' : (a : Int) + (Q : Int) * 3 = (K : Int) := by omega
  have w8 : IntKind.i64.wrap (Q : Int) = (Q : Int) := by rw [IntKind.wrap_i64]; omega
  have g8 : (8 : Int) ≤ (L : Int) := by omega
  have hLb : L ≤ 1000000 := by omega
  have hQb : Q ≤ 1000000 := by omega
  have hIb : I ≤ 1000000 := by omega
  have hJb : J ≤ 1000000 := by omega
  have hKb : K ≤ 1000000 := by omega
  have wL : IntKind.i64.wrap (L : Int) = (L : Int) := by rw [IntKind.wrap_i64]; omega
  have wQ : (L : Int) / 4 = (Q : Int) := by omega
  have bI : 1 ≤ I ∧ I + 1 < d.size := by omega
  have bJ : 1 ≤ J ∧ J + 1 < d.size := by omega
  have bK : 1 ≤ K ∧ K + 1 < d.size := by omega
  have hMA := fun (x s : Nat) (W : World) (h : CnE w0 W g d rest w.heap.size s) (h1 : 1 ≤ x) (h2 : x + 1 < d.size) (h3 : s + 3 ≤ 1000000) => medianAdj_any f vw hV g cap x w.heap.size s d rest w0 W h h1 h2 hsz h3
  have hMD := fun (x y z s : Nat) (W : World) (h : CnE w0 W g d rest w.heap.size s) (h1 : x < d.size) (h2 : y < d.size) (h4 : z < d.size) (h3 : s + 3 ≤ 1000000) => median_any f vw hV g cap x y z w.heap.size s d rest w0 W h h1 h2 h4 h3
  have HM : Hid _ := And.intro hMA (And.intro hMD hCn)
  unfold cmpV at HM ⊢
  obtain ⟨n, hn⟩ : ∃ n, n = d.size := ⟨_, rfl⟩
  rw [← hn] at hsz bI bJ bK HM ⊢
  clear hR hV hMA hMD hCn hp hL hQ hI hJ hK hb hab hn
  have fin : ∀ (s : Nat), s ≤ 1000 → (s = 0 ∧ hintC (hintS s) = 1) ∨ (s ≠ 0 ∧ s = 12 ∧ hintC (hintS s) = 2) ∨ (s ≠ 0 ∧ s ≠ 12 ∧ hintC (hintS s) = 0) := fun s _ => by
    unfold hintS
    by_cases h1 : s = 0
    · left; simp [h1, hintC]
    · by_cases h2 : s = 12
      · right; left; simp [h2, hintC]
      · right; right; simp [h1, h2, hintC]
  have HF : Hid _ := fin
  clear fin
  by_cases h50 : 50 ≤ L
  · rw [if_pos h50]
    have g50 : (50 : Int) ≤ (L : Int) := by omega
    have h1 := HM.out.1 I 0 _ HM.out.2.2 (by omega) (by omega) (by omega)
    have l1 := adj_lt (lt := ltV vw) (d := d) (s := 0) (n := n) (a := I) (by omega) (by omega)
    generalize Sort.medianAdjacent (ltV vw) d I 0 = r1 at h1 l1 ⊢
    obtain ⟨I2, s1⟩ := r1
    simp only at h1 l1 ⊢
    have h2 := fun W (h : CnE w0 W g d rest w.heap.size s1) => HM.out.1 J s1 W h (by omega) (by omega) (by omega)
    have l2 := adj_lt (lt := ltV vw) (d := d) (s := s1) (n := n) (a := J) (by omega) (by omega)
    generalize Sort.medianAdjacent (ltV vw) d J s1 = r2 at h2 l2 ⊢
    obtain ⟨J2, s2⟩ := r2
    simp only at h2 l2 ⊢
    have h3 := fun W (h : CnE w0 W g d rest w.heap.size s2) => HM.out.1 K s2 W h (by omega) (by omega) (by omega)
    have l3 := adj_lt (lt := ltV vw) (d := d) (s := s2) (n := n) (a := K) (by omega) (by omega)
    generalize Sort.medianAdjacent (ltV vw) d K s2 = r3 at h3 l3 ⊢
    obtain ⟨K2, s3⟩ := r3
    simp only at h3 l3 ⊢
    have hD := fun W (h : CnE w0 W g d rest w.heap.size s3) => HM.out.2.1 I2 J2 K2 s3 W h (by omega) (by omega) (by omega) (by omega)
    obtain ⟨_, hs3⟩ := med_lt (lt := ltV vw) (d := d) (s := s3) (n := n) (a := I2) (b := J2) (c := K2) (by omega) (by omega) (by omega)
    generalize Sort.median (ltV vw) d I2 J2 K2 s3 = r4 at hD hs3 ⊢
    obtain ⟨p, s⟩ := r4
    simp only at hD hs3 ⊢
    have HD : Hid _ := And.intro h1 (And.intro h2 (And.intro h3 hD))
    have hs9 : s ≤ 100 := by omega
    clear h1 h2 h3 hD l1 l2 l3 hs3
    go_enter Tryz.func191, Tryz.ntmps191
    go_wp2_with fail
    refine Calls.mono HD.out.1 ?_
    rintro r w4 ⟨rfl, hC4⟩
    go_wp2_with fail
    refine Calls.mono (HD.out.2.1 _ hC4) ?_
    rintro r w5 ⟨rfl, hC5⟩
    clear hC4
    go_wp2_with fail
    refine Calls.mono (HD.out.2.2.1 _ hC5) ?_
    rintro r w6 ⟨rfl, hC6⟩
    clear hC5
    go_wp2_with fail
    refine Calls.mono (HD.out.2.2.2 _ hC6) ?_
    rintro r w9 ⟨rfl, hC9⟩
    clear hC6
    have c9 : w9.cell? ⟨w.heap.size, 0, none⟩ = some (.int .i64 s) := cell0_of hC9.cell rfl
    have H9 : Hid _ := And.intro hC9.row trivial
    clear hC9
    rcases HF.out s (by omega) with ⟨h1, h2⟩ | ⟨h1, h2, h3⟩ | ⟨h1, h2, h3⟩
    · have e1 : ((s : Int) == 0) = true := by simp [h1]
      have HH : Hid (hintC (hintS s) = 1) := h2
      clear h1 h2
      go_wp2_with fail
      go_ret2
      exact ⟨by rw [HH.out]; rfl, H9.out.1⟩
    · have e1 : ((s : Int) == 0) = false := by simp; omega
      have e2 : ((s : Int) == 12) = true := by simp; omega
      have HH : Hid (hintC (hintS s) = 2) := h3
      clear h1 h2 h3
      go_wp2_with fail
      go_ret2
      exact ⟨by rw [HH.out]; rfl, H9.out.1⟩
    · have e1 : ((s : Int) == 0) = false := by simp; omega
      have e2 : ((s : Int) == 12) = false := by simp; omega
      have HH : Hid (hintC (hintS s) = 0) := h3
      clear h1 h2 h3
      go_wp2_with fail
      go_ret2
      exact ⟨by rw [HH.out]; rfl, H9.out.1⟩
  · rw [if_neg h50]
    have g50 : ¬ (50 : Int) ≤ (L : Int) := by omega
    have hD := HM.out.2.1 I J K 0 _ HM.out.2.2 (by omega) (by omega) (by omega) (by omega)
    obtain ⟨_, hs3⟩ := med_lt (lt := ltV vw) (d := d) (s := 0) (n := n) (a := I) (b := J) (c := K) (by omega) (by omega) (by omega)
    generalize Sort.median (ltV vw) d I J K 0 = r1 at hD hs3 ⊢
    obtain ⟨p, s⟩ := r1
    simp only at hD hs3 ⊢
    have HD : Hid _ := And.intro hD trivial
    clear hD
    go_enter Tryz.func191, Tryz.ntmps191
    go_wp2_with fail
    refine Calls.mono HD.out.1 ?_
    rintro r w9 ⟨rfl, hC9⟩
    have c9 : w9.cell? ⟨w.heap.size, 0, none⟩ = some (.int .i64 s) := cell0_of hC9.cell rfl
    have H9 : Hid _ := And.intro hC9.row trivial
    clear hC9
    rcases HF.out s (by omega) with ⟨h1, h2⟩ | ⟨h1, h2, h3⟩ | ⟨h1, h2, h3⟩
    · have e1 : ((s : Int) == 0) = true := by simp [h1]
      have HH : Hid (hintC (hintS s) = 1) := h2
      clear h1 h2
      go_wp2_with fail
      go_ret2
      exact ⟨by rw [HH.out]; rfl, H9.out.1⟩
    · have e1 : ((s : Int) == 0) = false := by simp; omega
      have e2 : ((s : Int) == 12) = true := by simp; omega
      have HH : Hid (hintC (hintS s) = 2) := h3
      clear h1 h2 h3
      go_wp2_with fail
      go_ret2
      exact ⟨by rw [HH.out]; rfl, H9.out.1⟩
    · have e1 : ((s : Int) == 0) = false := by simp; omega
      have e2 : ((s : Int) == 12) = false := by simp; omega
      have HH : Hid (hintC (hintS s) = 0) := h3
      clear h1 h2 h3
      go_wp2_with fail
      go_ret2
      exact ⟨by rw [HH.out]; rfl, H9.out.1⟩
end Go.Proofs.YtpmanmoljlhogaaGreatDoor
