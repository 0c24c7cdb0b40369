/- What the listed package variables give: api's errors lie in memory, each at an address of its own, whichever are listed. (Written by mker.py.) -/
import Derived.Test.YthfnikglcpoioaaDoorRows
import Derived.Test.YthfnikglcpoioaaDoorSent
import Derived.Test.YthfnikglcpoioaaDoorErCode
import Derived.ProofKit
import Derived.LaidMore
import Derived.Stop.LaidErr
namespace Go.Proofs.YthfnikglcpoioaaDoor
open Go.ChangeShapes Go.WideShapes Go.ChangeAt Go.WideMaps Go.WideElems Go.RowKit
theorem Tryd.own : ownKnob Tryd.prog.godebug = none := by kernel_rfl
theorem Tryd.laidOut : laidOutB Tryd.prog = true := by kernel_rfl
theorem Tryd.cellsE : Tryd.prog.cellsOf 143 = 1 := by kernel_rfl
theorem Tryd.cellsS : Tryd.prog.cellsOf 9 = 1 := by kernel_rfl
set_option maxRecDepth 100000 in
theorem Tryd.star : "*" ++ "errors.errorString" = "*errors.errorString" := by decide
set_option maxRecDepth 100000 in
theorem Tryd.rowE (u : TypeId) (h : Tryd.prog.typeName? 3 u = some "*errors.errorString") : u = 123 :=
  typeName_ptr_named (nm := "errors.errorString") (by rw [Tryd.star]; kernel_rfl) (by kernel_rfl) (by decide) u (by rw [Tryd.star]; exact h)
set_option maxRecDepth 100000 in
/-- One listed error: its variable's cell, its place; and the rest of the list. -/
theorem laid_step {W : World} {n : String} {g : Nat} {text : List UInt8} {r : List (String × DataW Unit)} {ps : List MemPlace} (hg : Tryd.prog.globalNamed n = some g) (ht : (Tryd.prog.globals[g]?).map (·.type) = some 26)
    (h : DataW.LaidVars Tryd.prog W ((n, .iface "*errors.errorString" (.ptr (.agg [.lit (.string text)]))) :: r) ps)
    (hrows : ∀ b off, MemPlace.cell b off ∈ ps → (∃ c t, W.heap[b]? = some (.cells c t (0, 0))) ∧ ∀ u v, W.cell? ⟨b, off, none⟩ = some (.iface u v) → Value.okWide Tryd.prog W .any 0 u v) :
    ∃ a q, Sent W g a ∧ DataW.LaidVars Tryd.prog W r q ∧ ps = MemPlace.cell g 0 :: MemPlace.cell a.block a.off :: q := by
  obtain ⟨g0, t0, cs0, f0, p0, q0, hg0, ht0, hv0, hd0, hr, e0⟩ := h
  obtain rfl := Option.some.inj (hg.symm.trans hg0)
  obtain rfl := Option.some.inj (ht.symm.trans ht0)
  subst e0
  obtain ⟨l0⟩ := cs0
  have ok0 : ∀ u v, l0 = [.iface u v] → Value.okWide Tryd.prog W .any 0 u v := fun u v e => by
    subst e
    exact (hrows g 0 (by simp [MemPlace.row])).2 u v (by simpa using World.var?_cell hg0 hv0 0)
  obtain ⟨a0, s0, rfl, hc0, hs0, hz0, rfl⟩ := errorString_of_trod Tryd.underlying26 Tryd.rowE Tryd.underlying123 Tryd.underlying143 rfl rfl Tryd.underlying9 Tryd.cellsE Tryd.cellsS hd0 ok0
  refine ⟨a0, q0, ⟨by simpa using World.var?_cell hg0 hv0 0, (hrows a0.block a0.off (by simp [MemPlace.row])).1⟩, hr, ?_⟩
  simp [MemPlace.row]
/-- A listed error: its name, its variable, its text. -/
abbrev LE : Type := String × Nat × List UInt8
def leV (x : LE) : String × DataW Unit := (x.1, .iface "*errors.errorString" (.ptr (.agg [.lit (.string x.2.2)])))
theorem laid_list {W : World} {r : List (String × DataW Unit)} : ∀ (xs : List LE) (ps : List MemPlace), (∀ x ∈ xs, Tryd.prog.globalNamed x.1 = some x.2.1 ∧ (Tryd.prog.globals[x.2.1]?).map (·.type) = some 26) →
    DataW.LaidVars Tryd.prog W (xs.map leV ++ r) ps → (∀ b off, MemPlace.cell b off ∈ ps → (∃ c t, W.heap[b]? = some (.cells c t (0, 0))) ∧ ∀ u v, W.cell? ⟨b, off, none⟩ = some (.iface u v) → Value.okWide Tryd.prog W .any 0 u v) →
    ∃ ads : List Addr, ads.length = xs.length ∧ (∀ (i : Nat) (x : LE) (a : Addr), xs[i]? = some x → ads[i]? = some a → Sent W x.2.1 a) ∧ (∀ a ∈ ads, MemPlace.cell a.block a.off ∈ ps) ∧ (ps.Nodup → ads.Pairwise (· ≠ ·))
  | [], ps, _, _, _ => ⟨[], rfl, fun i x a h => by simp at h, fun a h => by simp at h, fun _ => List.Pairwise.nil⟩
  | x :: xs, ps, hx, h, hr => by
    obtain ⟨a, q, hs, hq, rfl⟩ := laid_step (hx x List.mem_cons_self).1 (hx x List.mem_cons_self).2 h hr
    obtain ⟨ads, h1, h2, h3, h4⟩ := laid_list xs q (fun y hy => hx y (List.mem_cons_of_mem _ hy)) hq (fun b off hb => hr b off (List.mem_cons_of_mem _ (List.mem_cons_of_mem _ hb)))
    refine ⟨a :: ads, by simp [h1], fun i y b hy hb => ?_, fun b hb => ?_, fun hn => ?_⟩
    · cases i with
      | zero => simp at hy hb; subst hy; subst hb; exact hs
      | succ i => exact h2 i y b (by simpa using hy) (by simpa using hb)
    · rcases List.mem_cons.1 hb with rfl | hb
      · exact List.mem_cons_of_mem _ List.mem_cons_self
      · exact List.mem_cons_of_mem _ (List.mem_cons_of_mem _ (h3 b hb))
    · have hn2 := (List.nodup_cons.1 hn).2
      have hn3 := List.nodup_cons.1 hn2
      exact List.Pairwise.cons (fun b hb e => hn3.1 (by rw [e]; exact h3 b hb)) (h4 hn3.2)
theorem Tryd.g1 : Tryd.prog.globalNamed "semblance/api.ErrArg" = some 1 := by kernel_rfl
theorem Tryd.t1 : (Tryd.prog.globals[1]?).map (·.type) = some 26 := by kernel_rfl
theorem Tryd.g2 : Tryd.prog.globalNamed "semblance/api.ErrLong" = some 2 := by kernel_rfl
theorem Tryd.t2 : (Tryd.prog.globals[2]?).map (·.type) = some 26 := by kernel_rfl
theorem Tryd.g3 : Tryd.prog.globalNamed "semblance/api.ErrIndex" = some 0 := by kernel_rfl
theorem Tryd.t3 : (Tryd.prog.globals[0]?).map (·.type) = some 26 := by kernel_rfl
theorem Tryd.g4 : Tryd.prog.globalNamed "semblance/api.ErrWord" = some 3 := by kernel_rfl
theorem Tryd.t4 : (Tryd.prog.globals[3]?).map (·.type) = some 26 := by kernel_rfl
theorem Tryd.g5 : Tryd.prog.globalNamed "semblance/api.ErrSyntax" = some 4 := by kernel_rfl
theorem Tryd.t5 : (Tryd.prog.globals[4]?).map (·.type) = some 26 := by kernel_rfl
theorem Tryd.g6 : Tryd.prog.globalNamed "semblance/api.ErrDeep" = some 5 := by kernel_rfl
theorem Tryd.t6 : (Tryd.prog.globals[5]?).map (·.type) = some 26 := by kernel_rfl
theorem Tryd.g7 : Tryd.prog.globalNamed "semblance/api.ErrTwice" = some 6 := by kernel_rfl
theorem Tryd.t7 : (Tryd.prog.globals[6]?).map (·.type) = some 26 := by kernel_rfl
theorem Tryd.g8 : Tryd.prog.globalNamed "semblance/api.ErrUnknown" = some 7 := by kernel_rfl
theorem Tryd.t8 : (Tryd.prog.globals[7]?).map (·.type) = some 26 := by kernel_rfl
theorem Tryd.g9 : Tryd.prog.globalNamed "semblance/api.ErrSilent" = some 8 := by kernel_rfl
theorem Tryd.t9 : (Tryd.prog.globals[8]?).map (·.type) = some 26 := by kernel_rfl
theorem Tryd.g10 : Tryd.prog.globalNamed "semblance/api.ErrUnguarded" = some 9 := by kernel_rfl
theorem Tryd.t10 : (Tryd.prog.globals[9]?).map (·.type) = some 26 := by kernel_rfl
theorem Tryd.g11 : Tryd.prog.globalNamed "semblance/api.ErrSteps" = some 11 := by kernel_rfl
theorem Tryd.t11 : (Tryd.prog.globals[11]?).map (·.type) = some 26 := by kernel_rfl
theorem Tryd.g12 : Tryd.prog.globalNamed "semblance/api.ErrStates" = some 12 := by kernel_rfl
theorem Tryd.t12 : (Tryd.prog.globals[12]?).map (·.type) = some 26 := by kernel_rfl
theorem Tryd.g13 : Tryd.prog.globalNamed "semblance/api.ErrEdges" = some 13 := by kernel_rfl
theorem Tryd.t13 : (Tryd.prog.globals[13]?).map (·.type) = some 26 := by kernel_rfl
theorem Tryd.g14 : Tryd.prog.globalNamed "semblance/api.ErrSystem" = some 14 := by kernel_rfl
theorem Tryd.t14 : (Tryd.prog.globals[14]?).map (·.type) = some 26 := by kernel_rfl
theorem Tryd.g15 : Tryd.prog.globalNamed "semblance/api.ErrClasses" = some 15 := by kernel_rfl
theorem Tryd.t15 : (Tryd.prog.globals[15]?).map (·.type) = some 26 := by kernel_rfl
theorem Tryd.g16 : Tryd.prog.globalNamed "semblance/api.ErrFormula" = some 16 := by kernel_rfl
theorem Tryd.t16 : (Tryd.prog.globals[16]?).map (·.type) = some 26 := by kernel_rfl
theorem Tryd.g17 : Tryd.prog.globalNamed "semblance/api.ErrLimit" = some 17 := by kernel_rfl
theorem Tryd.t17 : (Tryd.prog.globals[17]?).map (·.type) = some 26 := by kernel_rfl
theorem Tryd.g18 : Tryd.prog.globalNamed "semblance/api.ErrNone" = some 18 := by kernel_rfl
theorem Tryd.t18 : (Tryd.prog.globals[18]?).map (·.type) = some 26 := by kernel_rfl
theorem Tryd.g19 : Tryd.prog.globalNamed "semblance/api.ErrScript" = some 19 := by kernel_rfl
theorem Tryd.t19 : (Tryd.prog.globals[19]?).map (·.type) = some 26 := by kernel_rfl
set_option maxRecDepth 100000 in
theorem er_of {W : World} {x1 x2 x3 x4 x5 x6 x7 x8 x9 x10 x11 x12 x13 x14 x15 x16 x17 x18 x19 : List UInt8} {r : List (String × DataW Unit)} (h : laidMet Tryd.prog (("semblance/api.ErrArg", .iface "*errors.errorString" (.ptr (.agg [.lit (.string x1)]))) :: ("semblance/api.ErrLong", .iface "*errors.errorString" (.ptr (.agg [.lit (.string x2)]))) :: ("semblance/api.ErrIndex", .iface "*errors.errorString" (.ptr (.agg [.lit (.string x3)]))) :: ("semblance/api.ErrWord", .iface "*errors.errorString" (.ptr (.agg [.lit (.string x4)]))) :: ("semblance/api.ErrSyntax", .iface "*errors.errorString" (.ptr (.agg [.lit (.string x5)]))) :: ("semblance/api.ErrDeep", .iface "*errors.errorString" (.ptr (.agg [.lit (.string x6)]))) :: ("semblance/api.ErrTwice", .iface "*errors.errorString" (.ptr (.agg [.lit (.string x7)]))) :: ("semblance/api.ErrUnknown", .iface "*errors.errorString" (.ptr (.agg [.lit (.string x8)]))) :: ("semblance/api.ErrSilent", .iface "*errors.errorString" (.ptr (.agg [.lit (.string x9)]))) :: ("semblance/api.ErrUnguarded", .iface "*errors.errorString" (.ptr (.agg [.lit (.string x10)]))) :: ("semblance/api.ErrSteps", .iface "*errors.errorString" (.ptr (.agg [.lit (.string x11)]))) :: ("semblance/api.ErrStates", .iface "*errors.errorString" (.ptr (.agg [.lit (.string x12)]))) :: ("semblance/api.ErrEdges", .iface "*errors.errorString" (.ptr (.agg [.lit (.string x13)]))) :: ("semblance/api.ErrSystem", .iface "*errors.errorString" (.ptr (.agg [.lit (.string x14)]))) :: ("semblance/api.ErrClasses", .iface "*errors.errorString" (.ptr (.agg [.lit (.string x15)]))) :: ("semblance/api.ErrFormula", .iface "*errors.errorString" (.ptr (.agg [.lit (.string x16)]))) :: ("semblance/api.ErrLimit", .iface "*errors.errorString" (.ptr (.agg [.lit (.string x17)]))) :: ("semblance/api.ErrNone", .iface "*errors.errorString" (.ptr (.agg [.lit (.string x18)]))) :: ("semblance/api.ErrScript", .iface "*errors.errorString" (.ptr (.agg [.lit (.string x19)]))) :: r) W) : ∃ e, Er 19 W e := by
  obtain ⟨ps, h0, hnd, r0⟩ := h
  obtain ⟨ads, h1, h2, _, h4⟩ := laid_list [("semblance/api.ErrArg", 1, x1), ("semblance/api.ErrLong", 2, x2), ("semblance/api.ErrIndex", 0, x3), ("semblance/api.ErrWord", 3, x4), ("semblance/api.ErrSyntax", 4, x5), ("semblance/api.ErrDeep", 5, x6), ("semblance/api.ErrTwice", 6, x7), ("semblance/api.ErrUnknown", 7, x8), ("semblance/api.ErrSilent", 8, x9), ("semblance/api.ErrUnguarded", 9, x10), ("semblance/api.ErrSteps", 11, x11), ("semblance/api.ErrStates", 12, x12), ("semblance/api.ErrEdges", 13, x13), ("semblance/api.ErrSystem", 14, x14), ("semblance/api.ErrClasses", 15, x15), ("semblance/api.ErrFormula", 16, x16), ("semblance/api.ErrLimit", 17, x17), ("semblance/api.ErrNone", 18, x18), ("semblance/api.ErrScript", 19, x19)] ps (fun x hx => by
    simp only [List.mem_cons, List.not_mem_nil, or_false] at hx
    rcases hx with rfl | rfl | rfl | rfl | rfl | rfl | rfl | rfl | rfl | rfl | rfl | rfl | rfl | rfl | rfl | rfl | rfl | rfl | rfl
    · exact ⟨Tryd.g1, Tryd.t1⟩
    · exact ⟨Tryd.g2, Tryd.t2⟩
    · exact ⟨Tryd.g3, Tryd.t3⟩
    · exact ⟨Tryd.g4, Tryd.t4⟩
    · exact ⟨Tryd.g5, Tryd.t5⟩
    · exact ⟨Tryd.g6, Tryd.t6⟩
    · exact ⟨Tryd.g7, Tryd.t7⟩
    · exact ⟨Tryd.g8, Tryd.t8⟩
    · exact ⟨Tryd.g9, Tryd.t9⟩
    · exact ⟨Tryd.g10, Tryd.t10⟩
    · exact ⟨Tryd.g11, Tryd.t11⟩
    · exact ⟨Tryd.g12, Tryd.t12⟩
    · exact ⟨Tryd.g13, Tryd.t13⟩
    · exact ⟨Tryd.g14, Tryd.t14⟩
    · exact ⟨Tryd.g15, Tryd.t15⟩
    · exact ⟨Tryd.g16, Tryd.t16⟩
    · exact ⟨Tryd.g17, Tryd.t17⟩
    · exact ⟨Tryd.g18, Tryd.t18⟩
    · exact ⟨Tryd.g19, Tryd.t19⟩) h0 r0
  have hp := h4 hnd
  have h1' : ads.length = 19 := h1
  have hg : ∀ k, 1 ≤ k → k ≤ 19 → ads[k - 1]? = some (ads.getD (k - 1) ⟨0, 0, none⟩) := fun k _ h19 => by rw [List.getD_eq_getElem?_getD, List.getElem?_eq_getElem (by omega)]; rfl
  refine ⟨fun k => ads.getD (k - 1) ⟨0, 0, none⟩, ⟨fun _ => h2 0 _ _ rfl (hg 1 (by decide) (by decide)), fun _ => h2 1 _ _ rfl (hg 2 (by decide) (by decide)), fun _ => h2 2 _ _ rfl (hg 3 (by decide) (by decide)), fun _ => h2 3 _ _ rfl (hg 4 (by decide) (by decide)), fun _ => h2 4 _ _ rfl (hg 5 (by decide) (by decide)), fun _ => h2 5 _ _ rfl (hg 6 (by decide) (by decide)), fun _ => h2 6 _ _ rfl (hg 7 (by decide) (by decide)), fun _ => h2 7 _ _ rfl (hg 8 (by decide) (by decide)), fun _ => h2 8 _ _ rfl (hg 9 (by decide) (by decide)), fun _ => h2 9 _ _ rfl (hg 10 (by decide) (by decide)), fun _ => h2 10 _ _ rfl (hg 11 (by decide) (by decide)), fun _ => h2 11 _ _ rfl (hg 12 (by decide) (by decide)), fun _ => h2 12 _ _ rfl (hg 13 (by decide) (by decide)), fun _ => h2 13 _ _ rfl (hg 14 (by decide) (by decide)), fun _ => h2 14 _ _ rfl (hg 15 (by decide) (by decide)), fun _ => h2 15 _ _ rfl (hg 16 (by decide) (by decide)), fun _ => h2 16 _ _ rfl (hg 17 (by decide) (by decide)), fun _ => h2 17 _ _ rfl (hg 18 (by decide) (by decide)), fun _ => h2 18 _ _ rfl (hg 19 (by decide) (by decide)), fun i j hi hij hj e => ?_⟩⟩
  have hpi := List.pairwise_iff_getElem.1 hp (i - 1) (j - 1) (by omega) (by omega) (by omega)
  have ei := hg i hi (by omega)
  have ej := hg j (by omega) hj
  rw [List.getElem?_eq_getElem (by omega)] at ei ej
  exact hpi ((Option.some.inj ei).trans (e.symm.trans (Option.some.inj ej).symm))
set_option maxRecDepth 100000 in
theorem system_of {W : World} {x14 : List UInt8} {r : List (String × DataW Unit)} (h : laidMet Tryd.prog (("semblance/api.ErrSystem", .iface "*errors.errorString" (.ptr (.agg [.lit (.string x14)]))) :: r) W) : ∃ a, Sent W 14 a := by
  obtain ⟨ps, h0, hnd, r0⟩ := h
  obtain ⟨ads, h1, h2, _, _⟩ := laid_list [("semblance/api.ErrSystem", 14, x14)] ps (fun x hx => by
    simp only [List.mem_cons, List.not_mem_nil, or_false] at hx
    rcases hx with rfl
    · exact ⟨Tryd.g14, Tryd.t14⟩) h0 r0
  obtain ⟨a, ha⟩ : ∃ a, ads[0]? = some a := ⟨ads[0]'(by rw [h1]; simp), List.getElem?_eq_getElem _⟩
  exact ⟨a, h2 0 _ a rfl ha⟩
end Go.Proofs.YthfnikglcpoioaaDoor
