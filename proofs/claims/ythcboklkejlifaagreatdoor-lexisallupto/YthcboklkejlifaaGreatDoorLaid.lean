/- What the listed package variables give: api's first four errors lie in memory, each at an address of its own. -/
import Derived.Test.YthcboklkejlifaaGreatDoorRows
import Derived.Test.YthcboklkejlifaaGreatDoorCode
import Derived.ProofKit
import Derived.LaidMore
import Derived.Stop.LaidErr
namespace Go.Proofs.YthcboklkejlifaaGreatDoor
open Go.ChangeShapes Go.WideShapes Go.ChangeAt Go.WideMaps Go.WideElems Go.RowKit
theorem Tryz.own : ownKnob Tryz.prog.godebug = none := by kernel_rfl
theorem Tryz.gA : Tryz.prog.globalNamed "semblance/api.ErrArg" = some 2 := by kernel_rfl
theorem Tryz.gL : Tryz.prog.globalNamed "semblance/api.ErrLong" = some 0 := by kernel_rfl
theorem Tryz.gI : Tryz.prog.globalNamed "semblance/api.ErrIndex" = some 3 := by kernel_rfl
theorem Tryz.gW : Tryz.prog.globalNamed "semblance/api.ErrWord" = some 1 := by kernel_rfl
theorem Tryz.tA : (Tryz.prog.globals[2]?).map (·.type) = some 40 := by kernel_rfl
theorem Tryz.tL : (Tryz.prog.globals[0]?).map (·.type) = some 40 := by kernel_rfl
theorem Tryz.tI : (Tryz.prog.globals[3]?).map (·.type) = some 40 := by kernel_rfl
theorem Tryz.tW : (Tryz.prog.globals[1]?).map (·.type) = some 40 := by kernel_rfl
theorem Tryz.cellsE : Tryz.prog.cellsOf 218 = 1 := by kernel_rfl
theorem Tryz.cellsS : Tryz.prog.cellsOf 9 = 1 := by kernel_rfl
set_option maxRecDepth 100000 in
theorem Tryz.star : "*" ++ "errors.errorString" = "*errors.errorString" := by decide
set_option maxRecDepth 100000 in
theorem Tryz.rowE (u : TypeId) (h : Tryz.prog.typeName? 3 u = some "*errors.errorString") : u = 194 :=
  typeName_ptr_named (nm := "errors.errorString") (by rw [Tryz.star]; kernel_rfl) (by kernel_rfl) (by decide) u (by rw [Tryz.star]; exact h)
set_option maxRecDepth 100000 in
/-- One listed error: its variable's cell, its place; and the rest of the list. -/
theorem laid_step {W : World} {n : String} {g : Nat} {text : List UInt8} {r : List (String × DataW Unit)} {ps : List MemPlace} (hg : Tryz.prog.globalNamed n = some g) (ht : (Tryz.prog.globals[g]?).map (·.type) = some 40)
    (h : DataW.LaidVars Tryz.prog W ((n, .iface "*errors.errorString" (.ptr (.agg [.lit (.string text)]))) :: r) ps)
    (hrows : ∀ b off, MemPlace.cell b off ∈ ps → (∃ c t, W.heap[b]? = some (.cells c t (0, 0))) ∧ ∀ u v, W.cell? ⟨b, off, none⟩ = some (.iface u v) → Value.okWide Tryz.prog W .any 0 u v) :
    ∃ a q, Sent W g a ∧ DataW.LaidVars Tryz.prog W r q ∧ ps = MemPlace.cell g 0 :: MemPlace.cell a.block a.off :: q := by
  obtain ⟨g0, t0, cs0, f0, p0, q0, hg0, ht0, hv0, hd0, hr, e0⟩ := h
  obtain rfl := Option.some.inj (hg.symm.trans hg0)
  obtain rfl := Option.some.inj (ht.symm.trans ht0)
  subst e0
  obtain ⟨l0⟩ := cs0
  have ok0 : ∀ u v, l0 = [.iface u v] → Value.okWide Tryz.prog W .any 0 u v := fun u v e => by
    subst e
    exact (hrows g 0 (by simp [MemPlace.row])).2 u v (by simpa using World.var?_cell hg0 hv0 0)
  obtain ⟨a0, s0, rfl, hc0, hs0, hz0, rfl⟩ := errorString_of_trod Tryz.underlying40 Tryz.rowE Tryz.underlying194 Tryz.underlying218 rfl rfl Tryz.underlying9 Tryz.cellsE Tryz.cellsS hd0 ok0
  refine ⟨a0, q0, ⟨by simpa using World.var?_cell hg0 hv0 0, (hrows a0.block a0.off (by simp [MemPlace.row])).1⟩, hr, ?_⟩
  simp [MemPlace.row]
set_option maxRecDepth 100000 in
/-- The first four of api's errors. -/
theorem errs_of {W : World} {x0 x1 x2 x3 : List UInt8} {r : List (String × DataW Unit)} (h : laidMet Tryz.prog (("semblance/api.ErrArg", .iface "*errors.errorString" (.ptr (.agg [.lit (.string x0)]))) :: ("semblance/api.ErrLong", .iface "*errors.errorString" (.ptr (.agg [.lit (.string x1)]))) :: ("semblance/api.ErrIndex", .iface "*errors.errorString" (.ptr (.agg [.lit (.string x2)]))) :: ("semblance/api.ErrWord", .iface "*errors.errorString" (.ptr (.agg [.lit (.string x3)]))) :: r) W) :
    ∃ aA aL aI aW, Errs W aA aL aI aW := by
  obtain ⟨ps, h0, hnd, hrows⟩ := h
  obtain ⟨aA, q0, sA, h1, rfl⟩ := laid_step Tryz.gA Tryz.tA h0 hrows
  obtain ⟨aL, q1, sL, h2, rfl⟩ := laid_step Tryz.gL Tryz.tL h1 (fun b o hb => hrows b o (by simp only [List.mem_cons]; exact .inr (.inr hb)))
  obtain ⟨aI, q2, sI, h3, rfl⟩ := laid_step Tryz.gI Tryz.tI h2 (fun b o hb => hrows b o (by simp only [List.mem_cons]; exact .inr (.inr (.inr (.inr hb)))))
  obtain ⟨aW, q3, sW, h4, rfl⟩ := laid_step Tryz.gW Tryz.tW h3 (fun b o hb => hrows b o (by simp only [List.mem_cons]; exact .inr (.inr (.inr (.inr (.inr (.inr hb)))))))
  refine ⟨aA, aL, aI, aW, sA, sL, sI, sW, ?_, ?_, ?_, ?_⟩ <;> (rintro rfl; simp at hnd)
end Go.Proofs.YthcboklkejlifaaGreatDoor
