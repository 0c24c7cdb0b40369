/- Texts of this claim, joined: RfLaid, SyArgI. -/
import Derived.Test.YtpcndfffljmajaaGreatDoorPart16
import Derived.Test.YtpcndfffljmajaaGreatDoorPart3
import Derived.Deep.SlicePairs
import Derived.OpenShut
import Derived.Test.YtpcndfffljmajaaGreatDoorPart4
import Derived.Lib.SmallJoins
import Derived.Deep.Slices
/- What the listed package variables give refine's statements; a script that came in. -/
namespace Go.Proofs.YtpcndfffljmajaaGreatDoor
open Go.ChangeShapes Go.WideShapes Go.ChangeAt Go.WideMaps Go.WideElems Go.RowKit
theorem Tryz.et : Tryz.prog.globalNamed "errors.errorType" = some 10 := by kernel_rfl
theorem Tryz.rt : (Tryz.prog.cutTypes.find? (·.1 == "internal/reflectlite.rtype")).map (·.2) = some 183 := by kernel_rfl
theorem Tryz.oneRow : ((List.range Tryz.prog.types.size).filter fun t => Tryz.prog.rowNamed t [101, 114, 114, 111, 114]) = [43] := by kernel_rfl
set_option maxRecDepth 100000 in
/-- The handle that errors.As asks. -/
theorem handle_of {W : World} (h : handlesMet Tryz.prog [("errors.errorType", Rows.laid_errors_errorType)] W) : W.cell? ⟨10, 0, none⟩ = some (.iface 183 (.agg #[.pointer (some ⟨20, 43, none⟩)])) := by
  obtain ⟨name, u, ty, e1, e2, e3, e4, e5⟩ := h _ (List.mem_singleton.2 rfl)
  have en : name = [101, 114, 114, 111, 114] := (Option.some.inj e1).symm
  subst en
  obtain rfl := Option.some.inj (Tryz.rt.symm.trans e2)
  have hm : ty ∈ (List.range Tryz.prog.types.size).filter fun t => Tryz.prog.rowNamed t [101, 114, 114, 111, 114] := List.mem_filter.2 ⟨List.mem_range.2 e3, e4⟩
  rw [Tryz.oneRow] at hm
  obtain rfl := List.mem_singleton.1 hm
  have hh : typeHandle Tryz.prog 43 = .pointer (some ⟨20, 43, none⟩) := by kernel_rfl
  rw [hh] at e5
  simpa using World.var?_cell Tryz.et e5 0
theorem two_of {W : World} {x1 x3 : List UInt8} {r : List (String × DataW Unit)} (h : laidMet Tryz.prog (("semblance/api.ErrArg", .iface "*errors.errorString" (.ptr (.agg [.lit (.string x1)]))) :: ("semblance/api.ErrIndex", .iface "*errors.errorString" (.ptr (.agg [.lit (.string x3)]))) :: r) W) : ∃ a1 a3, Sent W 0 a1 ∧ Sent W 2 a3 := by
  obtain ⟨ps, h0, hnd, r0⟩ := h
  obtain ⟨ads, h1, h2, _, _⟩ := laid_list [("semblance/api.ErrArg", 0, x1), ("semblance/api.ErrIndex", 2, x3)] ps (fun x hx => by
    simp only [List.mem_cons, List.not_mem_nil, or_false] at hx
    rcases hx with rfl | rfl
    · exact ⟨by kernel_rfl, by kernel_rfl⟩
    · exact ⟨by kernel_rfl, by kernel_rfl⟩) h0 r0
  obtain ⟨a, ha⟩ : ∃ a, ads[0]? = some a := ⟨ads[0]'(by rw [h1]; simp), List.getElem?_eq_getElem _⟩
  obtain ⟨b, hb⟩ : ∃ a, ads[1]? = some a := ⟨ads[1]'(by rw [h1]; simp), List.getElem?_eq_getElem _⟩
  exact ⟨a, b, h2 0 _ a rfl ha, h2 1 _ b rfl hb⟩
theorem envR_of {W : World} {x1 x3 : List UInt8} (h : laidMet Tryz.prog [("semblance/api.ErrArg", .iface "*errors.errorString" (.ptr (.agg [.lit (.string x1)]))), ("semblance/api.ErrIndex", .iface "*errors.errorString" (.ptr (.agg [.lit (.string x3)])))] W ∧ handlesMet Tryz.prog [("errors.errorType", Rows.laid_errors_errorType)] W) : ∃ a1 a3, EnvR W a1 a3 := by
  obtain ⟨a1, a3, h1, h3⟩ := two_of h.1
  exact ⟨a1, a3, h1, h3, handle_of h.2⟩
theorem Tryz.cellsO8 : Tryz.prog.cellsOf 68 = 2 := by kernel_rfl
theorem Tryz.cellsI8 : Tryz.prog.cellsOf 3 = 1 := by kernel_rfl
set_option maxRecDepth 100000 in
theorem has_ops8 {H : Type} {enc : TypeId × Value → H} {W : World} {base : Nat} {v : Value} {d : DataW H} {ps : List MemPlace} (hok : Value.okWide Tryz.prog W .any base 23 v) (h : DataW.Trod enc Tryz.prog W 0 (fun _ => true) true 23 v d ps) : ∃ l, HasO8 W v l ∧ l.length ≤ maxLen := by
  obtain ⟨a0, len, cap, rfl⟩ := okWide_slice Tryz.underlying23 hok
  obtain ⟨fuel, hf⟩ := h
  rcases Go.Deep.open_slice_pairs Tryz.underlying23 Tryz.underlying68 Tryz.cellsO8 rfl rfl Tryz.cellsI8 Tryz.cellsI8 hf with ⟨hc, _⟩ | ⟨a, len', cap', m, n, V0, V1, D0, D1, P0, P1, hc, _, hl, hm, hmm, _, hx⟩
  · have hc' : [Value.slice a0 len cap] = [Value.slice none 0 0] := hc
    injection hc' with hc' _
    injection hc' with h1 h2 h3
    subst h1; subst h2; subst h3
    exact ⟨[], ⟨none, 0, rfl, fun i s h => by simp at h⟩, by simp⟩
  · have hc' : [Value.slice a0 len cap] = [Value.slice (some a) len' cap'] := hc
    injection hc' with hc' _
    injection hc' with h1 h2 h3
    subst h1; subst h2; subst h3
    have hm' : m = cap := by simpa using hmm
    have each : ∀ i, i < len → ∃ p : Int × Int, W.cell? (a.add (i * 2)) = some (.int .i64 p.1) ∧ W.cell? (a.add (i * 2 + 1)) = some (.int .i64 p.2) := fun i hi => by
      obtain ⟨c0, c1, t0, t1⟩ := hx i (by omega)
      obtain ⟨x0, e0, _⟩ := DataW.trod_int Tryz.underlying3 t0
      obtain ⟨x1, e1, _⟩ := DataW.trod_int Tryz.underlying3 t1
      have e0' : V0 i = .int .i64 x0 := by simpa using e0
      have e1' : V1 i = .int .i64 x1 := by simpa using e1
      exact ⟨(x0, x1), by rw [c0, e0'], by rw [c1, e1']⟩
    obtain ⟨f, hf'⟩ := Go.Deep.choose_lt each
    refine ⟨(List.range len).map f, ⟨some a, cap, by simp, fun i p h => ⟨a, rfl, ?_⟩⟩, by simp; omega⟩
    have hi : i < len := by have := (List.getElem?_eq_some_iff.1 h).1; simpa using this
    have hp : p = f i := by
      rw [List.getElem?_map, List.getElem?_range hi] at h
      simpa using h.symm
    rw [hp]; exact hf' i hi
end Go.Proofs.YtpcndfffljmajaaGreatDoor
/- A list of numbers that came in, as a plain list. -/
namespace Go.Proofs.YtpcndfffljmajaaGreatDoor
open Go.ChangeShapes Go.WideShapes Go.ChangeAt Go.WideMaps Go.WideElems Go.RowKit
theorem Tryz.cIntE : Tryz.prog.cellsOf 3 = 1 := by kernel_rfl
set_option maxRecDepth 100000 in
theorem has_ints {H : Type} {enc : TypeId × Value → H} {W : World} {base : Nat} {v : Value} {d : DataW H} {ps : List MemPlace} (hok : Value.okWide Tryz.prog W .any base 22 v) (h : DataW.Trod enc Tryz.prog W 0 (fun _ => true) true 22 v d ps) : ∃ zs, HasI W v zs ∧ I64s zs := by
  obtain ⟨a0, len0, cap0, rfl⟩ := okWide_slice Tryz.underlying22 hok
  obtain ⟨fuel, hf⟩ := h
  rcases Go.ChangeShapes.open_ints Tryz.underlying22 Tryz.underlying3 Tryz.cIntE hf with ⟨hc, _⟩ | ⟨a, len, cap, zs, hc, _, hl, hm, hlen, _, hcell, hwf⟩
  · have hc' : [Value.slice a0 len0 cap0] = [Value.slice none 0 0] := hc
    injection hc' with hc' _
    injection hc' with h1 h2 h3
    subst h1; subst h2; subst h3
    exact ⟨[], ⟨none, 0, rfl, fun i s h => by simp at h⟩, fun z hz => by simp at hz⟩
  · have hc' : [Value.slice a0 len0 cap0] = [Value.slice (some a) len cap] := hc
    injection hc' with hc' _
    injection hc' with h1 h2 h3
    subst h1; subst h2; subst h3
    have hlen' : zs.length = cap0 := by simpa using hlen
    refine ⟨zs.take len0, ⟨some a, cap0, by simp; omega, fun i z h => ⟨a, rfl, ?_⟩⟩, fun z hz => hwf z (List.mem_of_mem_take hz)⟩
    have hi : i < len0 := by have := (List.getElem?_eq_some_iff.1 h).1; simp at this; omega
    rw [List.getElem?_take_of_lt hi] at h
    rw [hcell i (by omega), List.getD_eq_getElem?_getD, h]; rfl
end Go.Proofs.YtpcndfffljmajaaGreatDoor
