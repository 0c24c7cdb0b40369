/- Texts of this claim, joined: Laid3, OpArg. -/
import Derived.Test.YthcboklkejlifaaGreatDoorRows
import Derived.Test.YthcboklkejlifaaGreatDoorPart3
import Derived.ProofKit
import Derived.LaidMore
import Derived.Stop.LaidErr
import Derived.Test.YthcboklkejlifaaGreatDoorPart18
import Derived.Deep.Slices
/- What the listed package variables give: api's errors lie in memory, each at an address of its own. -/
namespace Go.Proofs.YthcboklkejlifaaGreatDoor
open Go.ChangeShapes Go.WideShapes Go.ChangeAt Go.WideMaps Go.WideElems Go.RowKit
theorem Tryz.own : ownKnob Tryz.prog.godebug = none := by kernel_rfl
theorem Tryz.gA : Tryz.prog.globalNamed "semblance/api.ErrArg" = some 2 := by kernel_rfl
theorem Tryz.tA : (Tryz.prog.globals[2]?).map (·.type) = some 40 := by kernel_rfl
theorem Tryz.gL : Tryz.prog.globalNamed "semblance/api.ErrLong" = some 0 := by kernel_rfl
theorem Tryz.tL : (Tryz.prog.globals[0]?).map (·.type) = some 40 := by kernel_rfl
theorem Tryz.gI : Tryz.prog.globalNamed "semblance/api.ErrIndex" = some 3 := by kernel_rfl
theorem Tryz.tI : (Tryz.prog.globals[3]?).map (·.type) = some 40 := by kernel_rfl
theorem Tryz.gW : Tryz.prog.globalNamed "semblance/api.ErrWord" = some 1 := by kernel_rfl
theorem Tryz.tW : (Tryz.prog.globals[1]?).map (·.type) = some 40 := by kernel_rfl
theorem Tryz.gY : Tryz.prog.globalNamed "semblance/api.ErrSyntax" = some 4 := by kernel_rfl
theorem Tryz.tY : (Tryz.prog.globals[4]?).map (·.type) = some 40 := by kernel_rfl
theorem Tryz.gD : Tryz.prog.globalNamed "semblance/api.ErrDeep" = some 5 := by kernel_rfl
theorem Tryz.tD : (Tryz.prog.globals[5]?).map (·.type) = some 40 := by kernel_rfl
theorem Tryz.gT : Tryz.prog.globalNamed "semblance/api.ErrTwice" = some 6 := by kernel_rfl
theorem Tryz.tT : (Tryz.prog.globals[6]?).map (·.type) = some 40 := by kernel_rfl
theorem Tryz.gU : Tryz.prog.globalNamed "semblance/api.ErrUnknown" = some 7 := by kernel_rfl
theorem Tryz.tU : (Tryz.prog.globals[7]?).map (·.type) = some 40 := by kernel_rfl
theorem Tryz.gS : Tryz.prog.globalNamed "semblance/api.ErrSilent" = some 8 := by kernel_rfl
theorem Tryz.tS : (Tryz.prog.globals[8]?).map (·.type) = some 40 := by kernel_rfl
theorem Tryz.cellsE : Tryz.prog.cellsOf 218 = 1 := by kernel_rfl
theorem Tryz.cellsS : Tryz.prog.cellsOf 9 = 1 := by kernel_rfl
set_option maxRecDepth 100000 in
theorem Tryz.star : "*" ++ "errors.errorString" = "*errors.errorString" := by decide
set_option maxRecDepth 100000 in
theorem Tryz.rowE (u : TypeId) (h : Tryz.prog.typeName? 3 u = some "*errors.errorString") : u = 194 :=
  typeName_ptr_named (nm := "errors.errorString") (by rw [Tryz.star]; kernel_rfl) (by kernel_rfl) (by decide) u (by rw [Tryz.star]; exact h)
set_option maxRecDepth 100000 in
/-- One listed error: its variable's cell, its place; and the rest of the list. -/
theorem laid_step {W : World} {n : String} {g : Nat} {text : List UInt8} {r : List (String × DataW Unit)} {ps : List MemPlace} (hg : Tryz.prog.globalNamed n = some g) (ht : (Tryz.prog.globals[g]?).map (·.type) = some 40)
    (h : DataW.LaidVars Tryz.prog W ((n, .iface "*errors.errorString" (.ptr (.agg [.lit (.string text)]))) :: r) ps)
    (hrows : ∀ b off, MemPlace.cell b off ∈ ps → (∃ c t, W.heap[b]? = some (.cells c t (0, 0))) ∧ ∀ u v, W.cell? ⟨b, off, none⟩ = some (.iface u v) → Value.okWide Tryz.prog W .any 0 u v) :
    ∃ a q, Sent W g a ∧ DataW.LaidVars Tryz.prog W r q ∧ ps = MemPlace.cell g 0 :: MemPlace.cell a.block a.off :: q := by
  obtain ⟨g0, t0, cs0, f0, p0, q0, hg0, ht0, hv0, hd0, hr, e0⟩ := h
  obtain rfl := Option.some.inj (hg.symm.trans hg0)
  obtain rfl := Option.some.inj (ht.symm.trans ht0)
  subst e0
  obtain ⟨l0⟩ := cs0
  have ok0 : ∀ u v, l0 = [.iface u v] → Value.okWide Tryz.prog W .any 0 u v := fun u v e => by
    subst e
    exact (hrows g 0 (by simp [MemPlace.row])).2 u v (by simpa using World.var?_cell hg0 hv0 0)
  obtain ⟨a0, s0, rfl, hc0, hs0, hz0, rfl⟩ := errorString_of_trod Tryz.underlying40 Tryz.rowE Tryz.underlying194 Tryz.underlying218 rfl rfl Tryz.underlying9 Tryz.cellsE Tryz.cellsS hd0 ok0
  refine ⟨a0, q0, ⟨by simpa using World.var?_cell hg0 hv0 0, (hrows a0.block a0.off (by simp [MemPlace.row])).1⟩, hr, ?_⟩
  simp [MemPlace.row]
set_option maxRecDepth 100000 in
theorem nine_of {W : World} {x0 x1 x2 x3 x4 x5 x6 x7 x8 : List UInt8} {r : List (String × DataW Unit)} (h : laidMet Tryz.prog (("semblance/api.ErrArg", .iface "*errors.errorString" (.ptr (.agg [.lit (.string x0)]))) :: ("semblance/api.ErrLong", .iface "*errors.errorString" (.ptr (.agg [.lit (.string x1)]))) :: ("semblance/api.ErrIndex", .iface "*errors.errorString" (.ptr (.agg [.lit (.string x2)]))) :: ("semblance/api.ErrWord", .iface "*errors.errorString" (.ptr (.agg [.lit (.string x3)]))) :: ("semblance/api.ErrSyntax", .iface "*errors.errorString" (.ptr (.agg [.lit (.string x4)]))) :: ("semblance/api.ErrDeep", .iface "*errors.errorString" (.ptr (.agg [.lit (.string x5)]))) :: ("semblance/api.ErrTwice", .iface "*errors.errorString" (.ptr (.agg [.lit (.string x6)]))) :: ("semblance/api.ErrUnknown", .iface "*errors.errorString" (.ptr (.agg [.lit (.string x7)]))) :: ("semblance/api.ErrSilent", .iface "*errors.errorString" (.ptr (.agg [.lit (.string x8)]))) :: r) W) :
    ∃ aA aL aI aW aY aD aT aU aS, Nine W aA aL aI aW aY aD aT aU aS := by
  obtain ⟨ps, h0, hnd, r0⟩ := h
  obtain ⟨aA, q0, sA, h1, rfl⟩ := laid_step Tryz.gA Tryz.tA h0 r0
  have r1 := fun b o hb => r0 b o (by simp only [List.mem_cons]; exact .inr (.inr hb))
  obtain ⟨aL, q1, sL, h2, rfl⟩ := laid_step Tryz.gL Tryz.tL h1 r1
  have r2 := fun b o hb => r1 b o (by simp only [List.mem_cons]; exact .inr (.inr hb))
  obtain ⟨aI, q2, sI, h3, rfl⟩ := laid_step Tryz.gI Tryz.tI h2 r2
  have r3 := fun b o hb => r2 b o (by simp only [List.mem_cons]; exact .inr (.inr hb))
  obtain ⟨aW, q3, sW, h4, rfl⟩ := laid_step Tryz.gW Tryz.tW h3 r3
  have r4 := fun b o hb => r3 b o (by simp only [List.mem_cons]; exact .inr (.inr hb))
  obtain ⟨aY, q4, sY, h5, rfl⟩ := laid_step Tryz.gY Tryz.tY h4 r4
  have r5 := fun b o hb => r4 b o (by simp only [List.mem_cons]; exact .inr (.inr hb))
  obtain ⟨aD, q5, sD, h6, rfl⟩ := laid_step Tryz.gD Tryz.tD h5 r5
  have r6 := fun b o hb => r5 b o (by simp only [List.mem_cons]; exact .inr (.inr hb))
  obtain ⟨aT, q6, sT, h7, rfl⟩ := laid_step Tryz.gT Tryz.tT h6 r6
  have r7 := fun b o hb => r6 b o (by simp only [List.mem_cons]; exact .inr (.inr hb))
  obtain ⟨aU, q7, sU, h8, rfl⟩ := laid_step Tryz.gU Tryz.tU h7 r7
  have r8 := fun b o hb => r7 b o (by simp only [List.mem_cons]; exact .inr (.inr hb))
  obtain ⟨aS, q8, sS, h9, rfl⟩ := laid_step Tryz.gS Tryz.tS h8 r8
  refine ⟨aA, aL, aI, aW, aY, aD, aT, aU, aS, sA, sL, sI, sW, sY, sD, sT, sU, sS, ?_⟩
  simp only [List.pairwise_cons, List.mem_cons, List.not_mem_nil, or_false, forall_eq_or_imp, forall_eq, List.Pairwise.nil, and_true, false_implies, implies_true]
  refine ⟨⟨?_, ?_, ?_, ?_, ?_, ?_, ?_, ?_⟩, ⟨?_, ?_, ?_, ?_, ?_, ?_, ?_⟩, ⟨?_, ?_, ?_, ?_, ?_, ?_⟩, ⟨?_, ?_, ?_, ?_, ?_⟩, ⟨?_, ?_, ?_, ?_⟩, ⟨?_, ?_, ?_⟩, ⟨?_, ?_⟩, ?_⟩ <;> (rintro rfl; simp at hnd)
end Go.Proofs.YthcboklkejlifaaGreatDoor
/- A script that came in, out of its reading. -/
namespace Go.Proofs.YthcboklkejlifaaGreatDoor
open Go.ChangeShapes Go.WideShapes Go.ChangeAt Go.WideMaps Go.WideElems Go.RowKit
theorem Tryz.laidOut : laidOutB Tryz.prog = true := by kernel_rfl
theorem Tryz.cOp : Tryz.prog.cellsOf 107 = 4 := by kernel_rfl
theorem Tryz.cInt' : Tryz.prog.cellsOf 3 = 1 := by kernel_rfl
theorem op_plain {w : World} {a : Addr} {v : Value} (h : w.cell? a = some v) : a = ⟨a.block, a.off, none⟩ := by
  obtain ⟨b, o, s⟩ := a
  cases s with
  | none => rfl
  | some s =>
    simp [World.cell?] at h
    split at h <;> cases h
theorem op_off (g o i : Nat) : (⟨g, o, none⟩ : Addr).add i = ⟨g, o + i, none⟩ := by unfold Addr.add; split <;> simp_all
theorem op_choose {n : Nat} {p : Nat → Opt → Prop} (h : ∀ i, i < n → ∃ x, p i x) : ∃ f : Nat → Opt, ∀ i, i < n → p i (f i) := by
  classical
  refine ⟨fun i => if hi : i < n then Classical.choose (h i hi) else ⟨0, 0, 0, ⟨#[]⟩⟩, fun i hi => ?_⟩
  simp only [hi, dif_pos]
  exact Classical.choose_spec (h i hi)
set_option maxRecDepth 100000 in
theorem op_in {H : Type} {enc : TypeId × Value → H} {W : World} {fuel i g o : Nat} {cs : List Value} {x : DataW H × List MemPlace} (hc : W.cells? 0 ((⟨g, o, none⟩ : Addr).add (i * 4)) 4 = some cs) (h : DataW.trod enc Tryz.prog W 0 (fun _ => true) true fuel 107 cs = some x) :
    ∃ z, OneO W ⟨g, o, none⟩ i z := by
  obtain ⟨_, hlen, hcell⟩ := World.cells?_some hc
  obtain ⟨xs, k, hk, _, _, hxl, hf⟩ := DataW.trod_struct Tryz.underlying107 h
  match xs, hxl, cs, hlen with
  | [y0, y1, y2, y3], _, [v0, v1, v2, v3], _ =>
    have g0 := hf 0 _ rfl
    have g1 := hf 1 _ rfl
    have g2 := hf 2 _ rfl
    have g3 := hf 3 _ rfl
    simp [Tryz.cInt', Tryz.cellsS] at g0 g1 g2 g3
    obtain ⟨z0, e0, _⟩ := DataW.trod_int Tryz.underlying3 g0
    obtain ⟨z1, e1, _⟩ := DataW.trod_int Tryz.underlying3 g1
    obtain ⟨z2, e2, _⟩ := DataW.trod_int Tryz.underlying3 g2
    obtain ⟨z3, e3, _, hz⟩ := DataW.trod_string Tryz.underlying9 g3
    obtain rfl : v0 = .int .i64 z0 := by simpa using e0
    obtain rfl : v1 = .int .i64 z1 := by simpa using e1
    obtain rfl : v2 = .int .i64 z2 := by simpa using e2
    obtain rfl : v3 = .string z3 := by simpa using e3
    have c0 := hcell 0 (by omega)
    have c1 := hcell 1 (by omega)
    have c2 := hcell 2 (by omega)
    have c3 := hcell 3 (by omega)
    rw [Go.Deep.add_add, op_off] at c0 c1 c2 c3
    refine ⟨⟨z0, z1, z2, z3⟩, ?_, ?_, ?_, ?_, hz⟩
    · rw [op_off]; simpa using c0
    · rw [op_off]; simpa [Nat.add_assoc] using c1
    · rw [op_off]; simpa [Nat.add_assoc] using c2
    · rw [op_off]; simpa [Nat.add_assoc] using c3
set_option maxRecDepth 100000 in
theorem has_ops {H : Type} {enc : TypeId × Value → H} {W : World} {base : Nat} {v : Value} {d : DataW H} {ps : List MemPlace} (hok : Value.okWide Tryz.prog W .any base 53 v) (h : DataW.Trod enc Tryz.prog W 0 (fun _ => true) true 53 v d ps) : ∃ l, HasO W v l := by
  obtain ⟨a0, len0, cap0, rfl⟩ := okWide_slice Tryz.underlying53 hok
  obtain ⟨fuel, hf⟩ := h
  rcases Go.Deep.open_slice Tryz.underlying53 hf with ⟨hc, _⟩ | ⟨a, len, cap, m, n, D, Pl, hc, _, hl, hm, hmm, _, hx⟩
  · have hc' : [Value.slice a0 len0 cap0] = [Value.slice none 0 0] := hc
    injection hc' with hc' _
    injection hc' with h1 h2 h3
    subst h1; subst h2; subst h3
    exact ⟨[], none, 0, rfl, fun i s h => by simp at h⟩
  · have hc' : [Value.slice a0 len0 cap0] = [Value.slice (some a) len cap] := hc
    injection hc' with hc' _
    injection hc' with h1 h2 h3
    subst h1; subst h2; subst h3
    have hm' : m = cap0 := by simpa using hmm
    rw [Tryz.cOp] at hx
    have ha : 0 < len0 → a = ⟨a.block, a.off, none⟩ := fun h0 => by
      obtain ⟨cs, h1, _⟩ := hx 0 (by omega)
      obtain ⟨_, hl1, hcell⟩ := World.cells?_some h1
      have c0 := hcell 0 (by omega)
      rw [Go.Deep.add_add] at c0
      obtain ⟨u, hu⟩ : ∃ u, cs[0]? = some u := ⟨cs[0]'(by omega), List.getElem?_eq_getElem _⟩
      rw [hu] at c0
      simpa [Addr.add] using op_plain c0
    have each : ∀ i, i < len0 → ∃ z, OneO W a i z := fun i hi => by
      obtain ⟨cs, h1, h2⟩ := hx i (by omega)
      rw [ha (by omega)] at h1 ⊢
      exact op_in h1 h2
    obtain ⟨f, hf'⟩ := op_choose each
    refine ⟨(List.range len0).map f, some a, cap0, by simp, fun i t h => ⟨a, rfl, ?_⟩⟩
    have hi : i < len0 := by have := (List.getElem?_eq_some_iff.1 h).1; simpa using this
    have hp : t = f i := by
      rw [List.getElem?_map, List.getElem?_range hi] at h
      simpa using h.symm
    rw [hp]; exact hf' i hi
/-- Nine addresses as one map. -/
theorem nn_of {W : World} {a1 a2 a3 a4 a5 a6 a7 a8 a9 : Addr} (h : Nine W a1 a2 a3 a4 a5 a6 a7 a8 a9) : ∃ e, Nn W e :=
  ⟨fun i => match i with | 1 => a1 | 2 => a2 | 3 => a3 | 4 => a4 | 5 => a5 | 6 => a6 | 7 => a7 | 8 => a8 | _ => a9, h⟩
end Go.Proofs.YthcboklkejlifaaGreatDoor
