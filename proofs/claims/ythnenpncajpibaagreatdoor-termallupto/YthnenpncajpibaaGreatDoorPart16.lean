/- Texts of this claim, joined: TmArg, TmArg2. -/
import Derived.Test.YthnenpncajpibaaGreatDoorPart9
import Derived.Test.YthnenpncajpibaaGreatDoorRows
import Derived.ProofKit
import Derived.LaidMore
import Derived.Stop.LaidErr
import Derived.Deep.SlicePairs
import Derived.SizedLaws
/- A list of terms that came in, out of its reading; what the listed package variables give. -/
namespace Go.Proofs.YthnenpncajpibaaGreatDoor
open Go.ChangeShapes Go.WideShapes Go.ChangeAt Go.WideMaps Go.WideElems Go.RowKit
theorem Tryz.own : ownKnob Tryz.prog.godebug = none := by kernel_rfl
theorem Tryz.laidOut : laidOutB Tryz.prog = true := by kernel_rfl
theorem Tryz.cTerm : Tryz.prog.cellsOf 35 = 6 := by kernel_rfl
theorem Tryz.cInt : Tryz.prog.cellsOf 3 = 1 := by kernel_rfl
theorem Tryz.cPair : Tryz.prog.cellsOf 75 = 2 := by kernel_rfl
theorem Tryz.cInts : Tryz.prog.cellsOf 29 = 1 := by kernel_rfl
theorem Tryz.cPairs : Tryz.prog.cellsOf 33 = 1 := by kernel_rfl
theorem cell_plain {w : World} {a : Addr} {v : Value} (h : w.cell? a = some v) : a = ⟨a.block, a.off, none⟩ := by
  obtain ⟨b, o, s⟩ := a
  cases s with
  | none => rfl
  | some s =>
    simp [World.cell?] at h
    split at h <;> cases h
set_option maxRecDepth 100000 in
theorem ints_in {H : Type} {enc : TypeId × Value → H} {W : World} {fuel : Nat} {v : Value} {x : DataW H × List MemPlace} (h : DataW.trod enc Tryz.prog W 0 (fun _ => true) true fuel 29 [v] = some x) : ∃ zs, HasI W v zs ∧ zs.length ≤ maxLen := by
  rcases Go.ChangeShapes.open_ints Tryz.underlying29 Tryz.underlying3 Tryz.cInt h with ⟨hc, _⟩ | ⟨a, len, cap, zs, hc, _, hl, hm, hlen, _, hcell, _⟩
  · obtain rfl : v = .slice none 0 0 := by injection hc
    exact ⟨[], ⟨none, 0, rfl, fun i s h => by simp at h⟩, by simp⟩
  · obtain rfl : v = .slice (some a) len cap := by injection hc
    have hlen' : zs.length = cap := by simpa using hlen
    refine ⟨zs.take len, ⟨some a, cap, by simp; omega, fun i z h => ⟨a, rfl, ?_⟩⟩, by rw [List.length_take]; omega⟩
    have hi : i < len := by have := (List.getElem?_eq_some_iff.1 h).1; simp at this; omega
    rw [List.getElem?_take_of_lt hi] at h
    rw [hcell i (by omega), List.getD_eq_getElem?_getD, h]; rfl
set_option maxRecDepth 100000 in
theorem pairs_in {H : Type} {enc : TypeId × Value → H} {W : World} {fuel : Nat} {v : Value} {x : DataW H × List MemPlace} (h : DataW.trod enc Tryz.prog W 0 (fun _ => true) true fuel 33 [v] = some x) : ∃ ps, HasP W v ps ∧ ps.length ≤ maxLen := by
  rcases Go.Deep.open_slice_pairs Tryz.underlying33 Tryz.underlying75 Tryz.cPair rfl rfl Tryz.cInt Tryz.cInt h with ⟨hc, _⟩ | ⟨a, len, cap, m, n, V0, V1, D0, D1, P0, P1, hc, _, hl, hm, hmm, _, hx⟩
  · obtain rfl : v = .slice none 0 0 := by injection hc
    exact ⟨[], ⟨none, 0, rfl, fun i s h => by simp at h⟩, by simp⟩
  · obtain rfl : v = .slice (some a) len cap := by injection hc
    have hm' : m = cap := by simpa using hmm
    have each : ∀ i, i < len → ∃ p : Int × Int, W.cell? (a.add (i * 2)) = some (.int .i64 p.1) ∧ W.cell? (a.add (i * 2 + 1)) = some (.int .i64 p.2) := fun i hi => by
      obtain ⟨c0, c1, t0, t1⟩ := hx i (by omega)
      obtain ⟨x0, e0, _⟩ := DataW.trod_int Tryz.underlying3 t0
      obtain ⟨x1, e1, _⟩ := DataW.trod_int Tryz.underlying3 t1
      have e0' : V0 i = .int .i64 x0 := by simpa using e0
      have e1' : V1 i = .int .i64 x1 := by simpa using e1
      exact ⟨(x0, x1), by rw [c0, e0'], by rw [c1, e1']⟩
    obtain ⟨f, hf'⟩ := Go.Deep.choose_lt each
    refine ⟨(List.range len).map f, ⟨some a, cap, by simp, fun i p h => ⟨a, rfl, ?_⟩⟩, by simp; omega⟩
    have hi : i < len := by have := (List.getElem?_eq_some_iff.1 h).1; simpa using this
    have hp : p = f i := by
      rw [List.getElem?_map, List.getElem?_range hi] at h
      simpa using h.symm
    rw [hp]; exact hf' i hi
theorem add_off (g o i : Nat) : (⟨g, o, none⟩ : Addr).add i = ⟨g, o + i, none⟩ := by unfold Addr.add; split <;> simp_all
theorem tm_choose {n : Nat} {p : Nat → Tm → Prop} (h : ∀ i, i < n → ∃ x, p i x) : ∃ f : Nat → Tm, ∀ i, i < n → p i (f i) := by
  classical
  refine ⟨fun i => if hi : i < n then Classical.choose (h i hi) else ⟨0, 0, 0, 0, [], []⟩, fun i hi => ?_⟩
  simp only [hi, dif_pos]
  exact Classical.choose_spec (h i hi)
set_option maxRecDepth 100000 in
/-- One term, out of its six cells. -/
theorem term_in {H : Type} {enc : TypeId × Value → H} {W : World} {fuel i g o : Nat} {cs : List Value} {x : DataW H × List MemPlace} (hc : W.cells? 0 ((⟨g, o, none⟩ : Addr).add (i * 6)) 6 = some cs) (h : DataW.trod enc Tryz.prog W 0 (fun _ => true) true fuel 35 cs = some x) :
    ∃ t vn vp, OneT W (some ⟨g, o, none⟩) i t g o vn vp := by
  obtain ⟨_, hlen, hcell⟩ := World.cells?_some hc
  obtain ⟨xs, k, hk, _, _, hxl, hf⟩ := DataW.trod_struct Tryz.underlying35 h
  match xs, hxl, cs, hlen with
  | [y0, y1, y2, y3, y4, y5], _, [v0, v1, v2, v3, v4, v5], _ =>
    have g0 := hf 0 _ rfl
    have g1 := hf 1 _ rfl
    have g2 := hf 2 _ rfl
    have g3 := hf 3 _ rfl
    have g4 := hf 4 _ rfl
    have g5 := hf 5 _ rfl
    simp [Tryz.cInt, Tryz.cInts, Tryz.cPairs] at g0 g1 g2 g3 g4 g5
    obtain ⟨z0, e0, _⟩ := DataW.trod_int Tryz.underlying3 g0
    obtain ⟨z1, e1, _⟩ := DataW.trod_int Tryz.underlying3 g1
    obtain ⟨z2, e2, _⟩ := DataW.trod_int Tryz.underlying3 g2
    obtain ⟨z3, e3, _⟩ := DataW.trod_int Tryz.underlying3 g3
    obtain rfl : v0 = .int .i64 z0 := by simpa using e0
    obtain rfl : v1 = .int .i64 z1 := by simpa using e1
    obtain rfl : v2 = .int .i64 z2 := by simpa using e2
    obtain rfl : v3 = .int .i64 z3 := by simpa using e3
    obtain ⟨ns, hn, ln⟩ := ints_in g4
    obtain ⟨ps, hp, lp⟩ := pairs_in g5
    have c0 := hcell 0 (by omega)
    have c1 := hcell 1 (by omega)
    have c2 := hcell 2 (by omega)
    have c3 := hcell 3 (by omega)
    have c4 := hcell 4 (by omega)
    have c5 := hcell 5 (by omega)
    rw [Go.Deep.add_add, add_off] at c0 c1 c2 c3 c4 c5
    refine ⟨⟨z0, z1, z2, z3, ns, ps⟩, v4, v5, rfl, ⟨?_, ?_, ?_, ?_, ?_, ?_⟩, hn, hp, ln, lp⟩
    · simpa using c0
    · simpa [Nat.add_assoc] using c1
    · simpa [Nat.add_assoc] using c2
    · simpa [Nat.add_assoc] using c3
    · simpa [Nat.add_assoc] using c4
    · simpa [Nat.add_assoc] using c5
set_option maxRecDepth 100000 in
theorem has_terms {H : Type} {enc : TypeId × Value → H} {W : World} {base : Nat} {v : Value} {d : DataW H} {ps : List MemPlace} (hok : Value.okWide Tryz.prog W .any base 22 v) (h : DataW.Trod enc Tryz.prog W 0 (fun _ => true) true 22 v d ps) : ∃ l, HasT W v l ∧ l.length ≤ maxLen := by
  obtain ⟨a0, len0, cap0, rfl⟩ := okWide_slice Tryz.underlying22 hok
  obtain ⟨fuel, hf⟩ := h
  rcases Go.Deep.open_slice Tryz.underlying22 hf with ⟨hc, _⟩ | ⟨a, len, cap, m, n, D, Pl, hc, _, hl, hm, hmm, _, hx⟩
  · have hc' : [Value.slice a0 len0 cap0] = [Value.slice none 0 0] := hc
    injection hc' with hc' _
    injection hc' with h1 h2 h3
    subst h1; subst h2; subst h3
    exact ⟨[], ⟨none, 0, rfl, fun i s h => by simp at h⟩, by simp⟩
  · have hc' : [Value.slice a0 len0 cap0] = [Value.slice (some a) len cap] := hc
    injection hc' with hc' _
    injection hc' with h1 h2 h3
    subst h1; subst h2; subst h3
    have hm' : m = cap0 := by simpa using hmm
    rw [Tryz.cTerm] at hx
    have ha : 0 < len0 → a = ⟨a.block, a.off, none⟩ := fun h0 => by
      obtain ⟨cs, h1, _⟩ := hx 0 (by omega)
      obtain ⟨_, hl1, hcell⟩ := World.cells?_some h1
      have c0 := hcell 0 (by omega)
      rw [Go.Deep.add_add] at c0
      obtain ⟨u, hu⟩ : ∃ u, cs[0]? = some u := ⟨cs[0]'(by omega), List.getElem?_eq_getElem _⟩
      rw [hu] at c0
      simpa [Addr.add] using cell_plain c0
    have each : ∀ i, i < len0 → ∃ t : Tm, ∃ g o vn vp, OneT W (some a) i t g o vn vp := fun i hi => by
      obtain ⟨cs, h1, h2⟩ := hx i (by omega)
      rw [ha (by omega)] at h1 ⊢
      obtain ⟨t, vn, vp, hT⟩ := term_in h1 h2
      exact ⟨t, _, _, vn, vp, hT⟩
    obtain ⟨f, hf'⟩ := tm_choose each
    refine ⟨(List.range len0).map f, ⟨some a, cap0, by simp, fun i t h => ?_⟩, by simp; omega⟩
    have hi : i < len0 := by have := (List.getElem?_eq_some_iff.1 h).1; simpa using this
    have hp : t = f i := by
      rw [List.getElem?_map, List.getElem?_range hi] at h
      simpa using h.symm
    rw [hp]; exact hf' i hi
theorem Tryz.gA : Tryz.prog.globalNamed "semblance/api.ErrArg" = some 0 := by kernel_rfl
theorem Tryz.tA : (Tryz.prog.globals[0]?).map (·.type) = some 51 := by kernel_rfl
theorem Tryz.gL : Tryz.prog.globalNamed "semblance/api.ErrLong" = some 2 := by kernel_rfl
theorem Tryz.tL : (Tryz.prog.globals[2]?).map (·.type) = some 51 := by kernel_rfl
theorem Tryz.gI : Tryz.prog.globalNamed "semblance/api.ErrIndex" = some 1 := by kernel_rfl
theorem Tryz.tI : (Tryz.prog.globals[1]?).map (·.type) = some 51 := by kernel_rfl
theorem Tryz.cellsE : Tryz.prog.cellsOf 225 = 1 := by kernel_rfl
theorem Tryz.cellsS : Tryz.prog.cellsOf 9 = 1 := by kernel_rfl
set_option maxRecDepth 100000 in
theorem Tryz.star : "*" ++ "errors.errorString" = "*errors.errorString" := by decide
set_option maxRecDepth 100000 in
theorem Tryz.rowE (u : TypeId) (h : Tryz.prog.typeName? 3 u = some "*errors.errorString") : u = 201 :=
  typeName_ptr_named (nm := "errors.errorString") (by rw [Tryz.star]; kernel_rfl) (by kernel_rfl) (by decide) u (by rw [Tryz.star]; exact h)
set_option maxRecDepth 100000 in
/-- One listed error: its variable's cell, its place; and the rest of the list. -/
theorem laid_step {W : World} {n : String} {g : Nat} {text : List UInt8} {r : List (String × DataW Unit)} {ps : List MemPlace} (hg : Tryz.prog.globalNamed n = some g) (ht : (Tryz.prog.globals[g]?).map (·.type) = some 51)
    (h : DataW.LaidVars Tryz.prog W ((n, .iface "*errors.errorString" (.ptr (.agg [.lit (.string text)]))) :: r) ps)
    (hrows : ∀ b off, MemPlace.cell b off ∈ ps → (∃ c t, W.heap[b]? = some (.cells c t (0, 0))) ∧ ∀ u v, W.cell? ⟨b, off, none⟩ = some (.iface u v) → Value.okWide Tryz.prog W .any 0 u v) :
    ∃ a q, Sent W g a ∧ DataW.LaidVars Tryz.prog W r q ∧ ps = MemPlace.cell g 0 :: MemPlace.cell a.block a.off :: q := by
  obtain ⟨g0, t0, cs0, f0, p0, q0, hg0, ht0, hv0, hd0, hr, e0⟩ := h
  obtain rfl := Option.some.inj (hg.symm.trans hg0)
  obtain rfl := Option.some.inj (ht.symm.trans ht0)
  subst e0
  obtain ⟨l0⟩ := cs0
  have ok0 : ∀ u v, l0 = [.iface u v] → Value.okWide Tryz.prog W .any 0 u v := fun u v e => by
    subst e
    exact (hrows g 0 (by simp [MemPlace.row])).2 u v (by simpa using World.var?_cell hg0 hv0 0)
  obtain ⟨a0, s0, rfl, hc0, hs0, hz0, rfl⟩ := errorString_of_trod Tryz.underlying51 Tryz.rowE Tryz.underlying201 Tryz.underlying225 rfl rfl Tryz.underlying9 Tryz.cellsE Tryz.cellsS hd0 ok0
  refine ⟨a0, q0, ⟨by simpa using World.var?_cell hg0 hv0 0, (hrows a0.block a0.off (by simp [MemPlace.row])).1⟩, hr, ?_⟩
  simp [MemPlace.row]
/-- ErrArg, the first of the list. -/
theorem arg_of {W : World} {x0 : List UInt8} {r : List (String × DataW Unit)} (h : laidMet Tryz.prog (("semblance/api.ErrArg", .iface "*errors.errorString" (.ptr (.agg [.lit (.string x0)]))) :: r) W) : ∃ aA, Sent W 0 aA := by
  obtain ⟨ps, h0, hnd, hrows⟩ := h
  obtain ⟨aA, q0, sA, h1, rfl⟩ := laid_step Tryz.gA Tryz.tA h0 hrows
  exact ⟨aA, sA⟩
/-- ErrArg and ErrIndex, side by side. -/
theorem argIndex_of {W : World} {x0 x1 : List UInt8} {r : List (String × DataW Unit)} (h : laidMet Tryz.prog (("semblance/api.ErrArg", .iface "*errors.errorString" (.ptr (.agg [.lit (.string x0)]))) :: ("semblance/api.ErrIndex", .iface "*errors.errorString" (.ptr (.agg [.lit (.string x1)]))) :: r) W) : ∃ aA aI, Sent W 0 aA ∧ Sent W 1 aI := by
  obtain ⟨ps, h0, hnd, hrows⟩ := h
  obtain ⟨aA, q0, sA, h1, rfl⟩ := laid_step Tryz.gA Tryz.tA h0 hrows
  obtain ⟨aI, q1, sI, h2, rfl⟩ := laid_step Tryz.gI Tryz.tI h1 (fun b o hb => hrows b o (by simp only [List.mem_cons]; exact .inr (.inr hb)))
  exact ⟨aA, aI, sA, sI⟩
end Go.Proofs.YthnenpncajpibaaGreatDoor
/- A list of terms that came in, and the reach: the lengths of the names and of the pairs within it. -/
namespace Go.Proofs.YthnenpncajpibaaGreatDoor
open Go.ChangeShapes Go.WideShapes Go.ChangeAt Go.WideMaps Go.WideElems Go.RowKit
theorem Tryz.bInt : Tryz.prog.bytesOf 3 = 8 := by kernel_rfl
theorem Tryz.bPair : Tryz.prog.bytesOf 75 = 16 := by kernel_rfl
theorem weights_in_all {H : Type} {P : Program} {e : TypeId} : ∀ {l : List (DataW H)} {d : DataW H}, d ∈ l → ∀ n ∈ d.weights P e, n ∈ DataW.weightsAll P e l := by
  intro l
  induction l with
  | nil => intro d hd; cases hd
  | cons x r ih =>
    intro d hd n hn
    rw [DataW.weightsAll, List.mem_append]
    rcases List.mem_cons.1 hd with rfl | hd
    · exact .inl hn
    · exact .inr (ih hd n hn)
set_option maxRecDepth 100000 in
theorem ints_in2 {H : Type} {enc : TypeId × Value → H} {W : World} {fuel : Nat} {v : Value} {x : DataW H × List MemPlace} (h : DataW.trod enc Tryz.prog W 0 (fun _ => true) true fuel 29 [v] = some x) (hw : ∀ n ∈ x.1.weights Tryz.prog 29, n ≤ reachBytes) : ∃ zs, HasI W v zs ∧ zs.length ≤ maxLen ∧ zs.length * 8 ≤ 140737488351232 := by
  rcases Go.ChangeShapes.open_ints Tryz.underlying29 Tryz.underlying3 Tryz.cInt h with ⟨hc, _⟩ | ⟨a, len, cap, zs, hc, _, hl, hm, hlen, hx, hcell, _⟩
  · obtain rfl : v = .slice none 0 0 := by injection hc
    exact ⟨[], ⟨none, 0, rfl, fun i s h => by simp at h⟩, by simp, by simp⟩
  · obtain rfl : v = .slice (some a) len cap := by injection hc
    have hlen' : zs.length = cap := by simpa using hlen
    have hb : ((lits .i64 (zs.take len) : List (DataW H)).length + (lits .i64 (zs.drop len) : List (DataW H)).length) * 8 ≤ reachBytes := hw _ (by rw [hx]; simp [DataW.weights, Tryz.underlying29, Tryz.bInt])
    refine ⟨zs.take len, ⟨some a, cap, by simp; omega, fun i z h => ⟨a, rfl, ?_⟩⟩, by rw [List.length_take]; omega, ?_⟩
    · have hi : i < len := by have := (List.getElem?_eq_some_iff.1 h).1; simp at this; omega
      rw [List.getElem?_take_of_lt hi] at h
      rw [hcell i (by omega), List.getD_eq_getElem?_getD, h]; rfl
    · simp [lits, reachBytes] at hb
      rw [List.length_take]; omega
set_option maxRecDepth 100000 in
theorem pairs_in2 {H : Type} {enc : TypeId × Value → H} {W : World} {fuel : Nat} {v : Value} {x : DataW H × List MemPlace} (h : DataW.trod enc Tryz.prog W 0 (fun _ => true) true fuel 33 [v] = some x) (hw : ∀ n ∈ x.1.weights Tryz.prog 33, n ≤ reachBytes) : ∃ ps, HasP W v ps ∧ ps.length ≤ maxLen ∧ ps.length * 16 ≤ 140737488351232 := by
  rcases Go.Deep.open_slice_pairs Tryz.underlying33 Tryz.underlying75 Tryz.cPair rfl rfl Tryz.cInt Tryz.cInt h with ⟨hc, _⟩ | ⟨a, len, cap, m, n, V0, V1, D0, D1, P0, P1, hc, _, hl, hm, hmm, hxx, hx⟩
  · obtain rfl : v = .slice none 0 0 := by injection hc
    exact ⟨[], ⟨none, 0, rfl, fun i s h => by simp at h⟩, by simp, by simp⟩
  · obtain rfl : v = .slice (some a) len cap := by injection hc
    have hm' : m = cap := by simpa using hmm
    have hb : (((List.range len).map fun i => DataW.agg [D0 i, D1 i]).length + ((List.range (m - len)).map fun j => DataW.agg [D0 (len + j), D1 (len + j)]).length) * 16 ≤ reachBytes := hw _ (by rw [hxx]; simp [DataW.weights, Tryz.underlying33, Tryz.bPair])
    have each : ∀ i, i < len → ∃ p : Int × Int, W.cell? (a.add (i * 2)) = some (.int .i64 p.1) ∧ W.cell? (a.add (i * 2 + 1)) = some (.int .i64 p.2) := fun i hi => by
      obtain ⟨c0, c1, t0, t1⟩ := hx i (by omega)
      obtain ⟨x0, e0, _⟩ := DataW.trod_int Tryz.underlying3 t0
      obtain ⟨x1, e1, _⟩ := DataW.trod_int Tryz.underlying3 t1
      have e0' : V0 i = .int .i64 x0 := by simpa using e0
      have e1' : V1 i = .int .i64 x1 := by simpa using e1
      exact ⟨(x0, x1), by rw [c0, e0'], by rw [c1, e1']⟩
    obtain ⟨f, hf'⟩ := Go.Deep.choose_lt each
    refine ⟨(List.range len).map f, ⟨some a, cap, by simp, fun i p h => ⟨a, rfl, ?_⟩⟩, by simp; omega, ?_⟩
    · have hi : i < len := by have := (List.getElem?_eq_some_iff.1 h).1; simpa using this
      have hp : p = f i := by
        rw [List.getElem?_map, List.getElem?_range hi] at h
        simpa using h.symm
      rw [hp]; exact hf' i hi
    · simp [reachBytes] at hb
      rw [List.length_map, List.length_range]; omega
set_option maxRecDepth 100000 in
theorem term_in2 {H : Type} {enc : TypeId × Value → H} {W : World} {fuel i g o : Nat} {cs : List Value} {x : DataW H × List MemPlace} (hc : W.cells? 0 ((⟨g, o, none⟩ : Addr).add (i * 6)) 6 = some cs) (h : DataW.trod enc Tryz.prog W 0 (fun _ => true) true fuel 35 cs = some x) (hw : ∀ n ∈ x.1.weights Tryz.prog 35, n ≤ reachBytes) :
    ∃ t vn vp, OneT W (some ⟨g, o, none⟩) i t g o vn vp ∧ Room t := by
  obtain ⟨_, hlen, hcell⟩ := World.cells?_some hc
  obtain ⟨xs, k, hk, hx, _, hxl, hf⟩ := DataW.trod_struct Tryz.underlying35 h
  match xs, hxl, cs, hlen with
  | [y0, y1, y2, y3, y4, y5], _, [v0, v1, v2, v3, v4, v5], _ =>
    have w4 : ∀ n ∈ y4.1.weights Tryz.prog 29, n ≤ reachBytes := fun n hn => hw n (by rw [hx]; simp [DataW.weights, DataW.weightsEach, Tryz.underlying35, hn])
    have w5 : ∀ n ∈ y5.1.weights Tryz.prog 33, n ≤ reachBytes := fun n hn => hw n (by rw [hx]; simp [DataW.weights, DataW.weightsEach, Tryz.underlying35, hn])
    have g0 := hf 0 _ rfl
    have g1 := hf 1 _ rfl
    have g2 := hf 2 _ rfl
    have g3 := hf 3 _ rfl
    have g4 := hf 4 _ rfl
    have g5 := hf 5 _ rfl
    simp [Tryz.cInt, Tryz.cInts, Tryz.cPairs] at g0 g1 g2 g3 g4 g5
    obtain ⟨z0, e0, _⟩ := DataW.trod_int Tryz.underlying3 g0
    obtain ⟨z1, e1, _⟩ := DataW.trod_int Tryz.underlying3 g1
    obtain ⟨z2, e2, _⟩ := DataW.trod_int Tryz.underlying3 g2
    obtain ⟨z3, e3, _⟩ := DataW.trod_int Tryz.underlying3 g3
    obtain rfl : v0 = .int .i64 z0 := by simpa using e0
    obtain rfl : v1 = .int .i64 z1 := by simpa using e1
    obtain rfl : v2 = .int .i64 z2 := by simpa using e2
    obtain rfl : v3 = .int .i64 z3 := by simpa using e3
    obtain ⟨ns, hn, ln, rn⟩ := ints_in2 g4 w4
    obtain ⟨ps, hp, lp, rp⟩ := pairs_in2 g5 w5
    have c0 := hcell 0 (by omega)
    have c1 := hcell 1 (by omega)
    have c2 := hcell 2 (by omega)
    have c3 := hcell 3 (by omega)
    have c4 := hcell 4 (by omega)
    have c5 := hcell 5 (by omega)
    rw [Go.Deep.add_add, add_off] at c0 c1 c2 c3 c4 c5
    refine ⟨⟨z0, z1, z2, z3, ns, ps⟩, v4, v5, ⟨rfl, ⟨?_, ?_, ?_, ?_, ?_, ?_⟩, hn, hp, ln, lp⟩, rn, rp⟩
    · simpa using c0
    · simpa [Nat.add_assoc] using c1
    · simpa [Nat.add_assoc] using c2
    · simpa [Nat.add_assoc] using c3
    · simpa [Nat.add_assoc] using c4
    · simpa [Nat.add_assoc] using c5
set_option maxRecDepth 100000 in
theorem has_terms2 {H : Type} {enc : TypeId × Value → H} {W : World} {base : Nat} {v : Value} {d : DataW H} {ps : List MemPlace} (hok : Value.okWide Tryz.prog W .any base 22 v) (h : DataW.Trod enc Tryz.prog W 0 (fun _ => true) true 22 v d ps) (hw : ∀ n ∈ d.weights Tryz.prog 22, n ≤ reachBytes) : ∃ l, HasT W v l ∧ l.length ≤ maxLen ∧ ∀ t ∈ l, Room t := by
  obtain ⟨a0, len0, cap0, rfl⟩ := okWide_slice Tryz.underlying22 hok
  obtain ⟨fuel, hf⟩ := h
  rcases Go.Deep.open_slice Tryz.underlying22 hf with ⟨hc, _⟩ | ⟨a, len, cap, m, n, D, Pl, hc, _, hl, hm, hmm, hxx, hx⟩
  · have hc' : [Value.slice a0 len0 cap0] = [Value.slice none 0 0] := hc
    injection hc' with hc' _
    injection hc' with h1 h2 h3
    subst h1; subst h2; subst h3
    exact ⟨[], ⟨none, 0, rfl, fun i s h => by simp at h⟩, by simp, fun t ht => by cases ht⟩
  · have hc' : [Value.slice a0 len0 cap0] = [Value.slice (some a) len cap] := hc
    injection hc' with hc' _
    injection hc' with h1 h2 h3
    subst h1; subst h2; subst h3
    have hm' : m = cap0 := by simpa using hmm
    rw [Tryz.cTerm] at hx
    have hd : d = .slice ((List.range len0).map D) ((List.range (m - len0)).map fun j => D (len0 + j)) := congrArg Prod.fst hxx
    have hwi : ∀ i, i < len0 → ∀ n ∈ (D i).weights Tryz.prog 35, n ≤ reachBytes := fun i hi n hn => hw n (by
      have h1 : n ∈ DataW.weightsAll Tryz.prog 35 ((List.range len0).map D) := weights_in_all (d := D i) (List.mem_map.2 ⟨i, List.mem_range.2 hi, rfl⟩) n hn
      rw [hd]; simp [DataW.weights, Tryz.underlying22, h1])
    have ha : 0 < len0 → a = ⟨a.block, a.off, none⟩ := fun h0 => by
      obtain ⟨cs, h1, _⟩ := hx 0 (by omega)
      obtain ⟨_, hl1, hcell⟩ := World.cells?_some h1
      have c0 := hcell 0 (by omega)
      rw [Go.Deep.add_add] at c0
      obtain ⟨u, hu⟩ : ∃ u, cs[0]? = some u := ⟨cs[0]'(by omega), List.getElem?_eq_getElem _⟩
      rw [hu] at c0
      simpa [Addr.add] using cell_plain c0
    have each : ∀ i, i < len0 → ∃ t : Tm, (∃ g o vn vp, OneT W (some a) i t g o vn vp) ∧ Room t := fun i hi => by
      obtain ⟨cs, h1, h2⟩ := hx i (by omega)
      rw [ha (by omega)] at h1 ⊢
      obtain ⟨t, vn, vp, hT, hR⟩ := term_in2 h1 h2 (hwi i hi)
      exact ⟨t, ⟨_, _, vn, vp, hT⟩, hR⟩
    obtain ⟨f, hf'⟩ := tm_choose each
    refine ⟨(List.range len0).map f, ⟨some a, cap0, by simp, fun i t h => ?_⟩, by simp; omega, fun t ht => ?_⟩
    · have hi : i < len0 := by have := (List.getElem?_eq_some_iff.1 h).1; simpa using this
      have hp : t = f i := by
        rw [List.getElem?_map, List.getElem?_range hi] at h
        simpa using h.symm
      rw [hp]; exact (hf' i hi).1
    · obtain ⟨i, hi, rfl⟩ := List.mem_map.1 ht
      exact (hf' i (List.mem_range.1 hi)).2
/-- ErrArg, ErrLong, ErrIndex, the first of the list. -/
theorem errT_of {W : World} {x0 x1 x2 : List UInt8} {r : List (String × DataW Unit)} (h : laidMet Tryz.prog (("semblance/api.ErrArg", .iface "*errors.errorString" (.ptr (.agg [.lit (.string x0)]))) :: ("semblance/api.ErrLong", .iface "*errors.errorString" (.ptr (.agg [.lit (.string x1)]))) :: ("semblance/api.ErrIndex", .iface "*errors.errorString" (.ptr (.agg [.lit (.string x2)]))) :: r) W) : ∃ aA aI aL, ErrT W aA aI aL := by
  obtain ⟨ps, h0, hnd, hrows⟩ := h
  obtain ⟨aA, q0, sA, h1, rfl⟩ := laid_step Tryz.gA Tryz.tA h0 hrows
  obtain ⟨aL, q1, sL, h2, rfl⟩ := laid_step Tryz.gL Tryz.tL h1 (fun b o hb => hrows b o (by simp only [List.mem_cons]; exact .inr (.inr hb)))
  obtain ⟨aI, q2, sI, h3, rfl⟩ := laid_step Tryz.gI Tryz.tI h2 (fun b o hb => hrows b o (by simp only [List.mem_cons]; exact .inr (.inr (.inr (.inr hb)))))
  refine ⟨aA, aI, aL, sA, sI, sL, fun e => ?_, fun e => ?_⟩
  · subst e; simp at hnd
  · subst e; simp at hnd
end Go.Proofs.YthnenpncajpibaaGreatDoor
