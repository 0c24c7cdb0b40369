/- A list of words that came in, out of its reading; ErrLong and ErrWord, as the listed package variables lay them. -/
import Derived.Test.YtpefldpmdhajfaaDoorLawLines
import Derived.Test.YtpefldpmdhajfaaDoorLaid
import Derived.Deep.Slices
namespace Go.Proofs.YtpefldpmdhajfaaDoor
open Go.ChangeShapes Go.WideShapes Go.ChangeAt Go.WideMaps Go.WideElems Go.RowKit
theorem Tryd.laidOut : laidOutB Tryd.prog = true := by kernel_rfl
theorem Tryd.cTok : Tryd.prog.cellsOf 38 = 4 := by kernel_rfl
theorem Tryd.cInt : Tryd.prog.cellsOf 3 = 1 := by kernel_rfl
theorem cell_plain {w : World} {a : Addr} {v : Value} (h : w.cell? a = some v) : a = ⟨a.block, a.off, none⟩ := by
  obtain ⟨b, o, s⟩ := a
  cases s with
  | none => rfl
  | some s =>
    simp [World.cell?] at h
    split at h <;> cases h
theorem add_off (g o i : Nat) : (⟨g, o, none⟩ : Addr).add i = ⟨g, o + i, none⟩ := by unfold Addr.add; split <;> simp_all
theorem tok_choose {n : Nat} {p : Nat → ZTok → Prop} (h : ∀ i, i < n → ∃ x, p i x) : ∃ f : Nat → ZTok, ∀ i, i < n → p i (f i) := by
  classical
  refine ⟨fun i => if hi : i < n then Classical.choose (h i hi) else ⟨0, ⟨#[]⟩, 0, 0⟩, fun i hi => ?_⟩
  simp only [hi, dif_pos]
  exact Classical.choose_spec (h i hi)
def OneZ (w : World) (b o k : Nat) (z : ZTok) : Prop :=
  w.cell? ⟨b, o + k * 4, none⟩ = some (.int .i64 z.kind) ∧ w.cell? ⟨b, o + k * 4 + 1, none⟩ = some (.string z.text) ∧ w.cell? ⟨b, o + k * 4 + 2, none⟩ = some (.int .i64 z.line) ∧ w.cell? ⟨b, o + k * 4 + 3, none⟩ = some (.int .i64 z.col)
set_option maxRecDepth 100000 in
theorem tok_in {H : Type} {enc : TypeId × Value → H} {W : World} {fuel i g o : Nat} {cs : List Value} {x : DataW H × List MemPlace} (hc : W.cells? 0 ((⟨g, o, none⟩ : Addr).add (i * 4)) 4 = some cs) (h : DataW.trod enc Tryd.prog W 0 (fun _ => true) true fuel 38 cs = some x) :
    ∃ z, OneZ W g o i z := by
  obtain ⟨_, hlen, hcell⟩ := World.cells?_some hc
  obtain ⟨xs, k, hk, _, _, hxl, hf⟩ := DataW.trod_struct Tryd.underlying38 h
  match xs, hxl, cs, hlen with
  | [y0, y1, y2, y3], _, [v0, v1, v2, v3], _ =>
    have g0 := hf 0 _ rfl
    have g1 := hf 1 _ rfl
    have g2 := hf 2 _ rfl
    have g3 := hf 3 _ rfl
    simp [Tryd.cInt, Tryd.cellsS] at g0 g1 g2 g3
    obtain ⟨z0, e0, _⟩ := DataW.trod_int Tryd.underlying3 g0
    obtain ⟨z1, e1, _⟩ := DataW.trod_string Tryd.underlying9 g1
    obtain ⟨z2, e2, _⟩ := DataW.trod_int Tryd.underlying3 g2
    obtain ⟨z3, e3, _⟩ := DataW.trod_int Tryd.underlying3 g3
    obtain rfl : v0 = .int .i64 z0 := by simpa using e0
    obtain rfl : v1 = .string z1 := by simpa using e1
    obtain rfl : v2 = .int .i64 z2 := by simpa using e2
    obtain rfl : v3 = .int .i64 z3 := by simpa using e3
    have c0 := hcell 0 (by omega)
    have c1 := hcell 1 (by omega)
    have c2 := hcell 2 (by omega)
    have c3 := hcell 3 (by omega)
    rw [Go.Deep.add_add, add_off] at c0 c1 c2 c3
    refine ⟨⟨z0, z1, z2, z3⟩, ?_, ?_, ?_, ?_⟩
    · simpa using c0
    · simpa [Nat.add_assoc] using c1
    · simpa [Nat.add_assoc] using c2
    · simpa [Nat.add_assoc] using c3
set_option maxRecDepth 100000 in
theorem has_toks {H : Type} {enc : TypeId × Value → H} {W : World} {base : Nat} {v : Value} {d : DataW H} {ps : List MemPlace} (hok : Value.okWide Tryd.prog W .any base 22 v) (h : DataW.Trod enc Tryd.prog W 0 (fun _ => true) true 22 v d ps) : ∃ l, HasC W v l ∧ l.length ≤ maxLen := by
  obtain ⟨a0, len0, cap0, rfl⟩ := okWide_slice Tryd.underlying22 hok
  obtain ⟨fuel, hf⟩ := h
  rcases Go.Deep.open_slice Tryd.underlying22 hf with ⟨hc, _⟩ | ⟨a, len, cap, m, n, D, Pl, hc, _, hl, hm, hmm, _, hx⟩
  · have hc' : [Value.slice a0 len0 cap0] = [Value.slice none 0 0] := hc
    injection hc' with hc' _
    injection hc' with h1 h2 h3
    subst h1; subst h2; subst h3
    exact ⟨[], ⟨none, 0, 0, 0, rfl, Nat.le_refl _, fun h => by simp at h, fun i s h => by simp at h⟩, by simp⟩
  · have hc' : [Value.slice a0 len0 cap0] = [Value.slice (some a) len cap] := hc
    injection hc' with hc' _
    injection hc' with h1 h2 h3
    subst h1; subst h2; subst h3
    have hm' : m = cap0 := by simpa using hmm
    rw [Tryd.cTok] at hx
    have ha : 0 < len0 → a = ⟨a.block, a.off, none⟩ := fun h0 => by
      obtain ⟨cs, h1, _⟩ := hx 0 (by omega)
      obtain ⟨_, hl1, hcell⟩ := World.cells?_some h1
      have c0 := hcell 0 (by omega)
      rw [Go.Deep.add_add] at c0
      obtain ⟨u, hu⟩ : ∃ u, cs[0]? = some u := ⟨cs[0]'(by omega), List.getElem?_eq_getElem _⟩
      rw [hu] at c0
      simpa [Addr.add] using cell_plain c0
    have each : ∀ i, i < len0 → ∃ z, OneZ W a.block a.off i z := fun i hi => by
      obtain ⟨cs, h1, h2⟩ := hx i (by omega)
      rw [ha (by omega)] at h1
      exact tok_in h1 h2
    obtain ⟨f, hf'⟩ := tok_choose each
    refine ⟨(List.range len0).map f, ⟨some a, a.block, a.off, cap0, by simp, by simp; omega, fun h0 => by rw [ha (by simpa using h0)], fun i t h => ?_⟩, by simp; omega⟩
    have hi : i < len0 := by have := (List.getElem?_eq_some_iff.1 h).1; simpa using this
    have hp : t = f i := by
      rw [List.getElem?_map, List.getElem?_range hi] at h
      simpa using h.symm
    rw [hp]; exact hf' i hi
/-- ErrLong and ErrWord, side by side. -/
theorem longWord_of {W : World} {x0 x1 : List UInt8} {r : List (String × DataW Unit)} (h : laidMet Tryd.prog (("semblance/api.ErrLong", .iface "*errors.errorString" (.ptr (.agg [.lit (.string x0)]))) :: ("semblance/api.ErrWord", .iface "*errors.errorString" (.ptr (.agg [.lit (.string x1)]))) :: r) W) : ∃ aL aW, Sent W 0 aL ∧ Sent W 1 aW := by
  obtain ⟨ps, h0, hnd, hrows⟩ := h
  obtain ⟨aL, q0, sL, h1, rfl⟩ := laid_step Tryd.gL Tryd.tL h0 hrows
  obtain ⟨aW, q1, sW, h2, rfl⟩ := laid_step Tryd.gW Tryd.tW h1 (fun b o hb => hrows b o (by simp only [List.mem_cons]; exact .inr (.inr hb)))
  exact ⟨aL, aW, sL, sW⟩
end Go.Proofs.YtpefldpmdhajfaaDoor
