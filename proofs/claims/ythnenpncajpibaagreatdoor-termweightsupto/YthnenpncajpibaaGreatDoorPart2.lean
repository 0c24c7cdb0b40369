/- Texts of this claim, joined: TmStore, TmSto. -/
import Derived.Test.YthnenpncajpibaaGreatDoorPart1
/- Stores in memory: the key's law, what a map of keys tells, what a store holds, what of it stays. -/
namespace Go.Proofs.YthnenpncajpibaaGreatDoor
open Go.RowKit Go.Maps
theorem Tryz.laidOut0 : laidOutB Tryz.prog = true := by kernel_rfl
theorem Tryz.rowKey : (115 : TypeId) < Tryz.prog.types.size := of_decide_eq_true (by kernel_rfl)
theorem Tryz.wideKey : (match Tryz.prog.underlying 115 with | some (.array _ _) | some (.struct _) => true | _ => false) = true := by kernel_rfl
set_option maxRecDepth 100000 in
theorem Tryz.lawK : Keyed Tryz.prog 115 := Keyed.of_law (deep_law_laid Tryz.laidOut0 (m := 3) (by omega) Tryz.rowKey (by kernel_rfl) Tryz.wideKey)
def tkey (t : Tm) : Lit := .string (keyBytes [.int .i64 t.kind, .int .i64 t.label, .int .i64 t.a, .int .i64 t.b, .string t.lists])
/-- The fields fit. -/
structure Tm.Fits (t : Tm) : Prop where
  k : (Lit.int .i64 t.kind).wf = true
  l : (Lit.int .i64 t.label).wf = true
  a : (Lit.int .i64 t.a).wf = true
  b : (Lit.int .i64 t.b).wf = true
  len : t.lists.length ≤ maxLen
theorem Tryz.cellsKey : Tryz.prog.cellsOf 115 = 5 := by kernel_rfl
theorem Tryz.cellsInt : Tryz.prog.cellsOf 3 = 1 := by kernel_rfl
theorem Tryz.cellsStr : Tryz.prog.cellsOf 9 = 1 := by kernel_rfl
theorem Tryz.keyTypeK : Tryz.prog.keyType 115 = true := by kernel_rfl
theorem Tryz.sizeT : ∃ m, Tryz.prog.types.size = m + 1 := ⟨_, (by kernel_rfl : Tryz.prog.types.size = 237)⟩
set_option maxRecDepth 100000 in
theorem keyOf_keyV (t : Tm) (h : t.Fits) : keyOf Tryz.prog 115 (keyV t) = some (tkey t) := by
  obtain ⟨m, hm⟩ := Tryz.sizeT
  have hsz : (⟨t.lists.toArray⟩ : ByteArray).size ≤ maxLen := by
    have := h.len
    simpa [ByteArray.size] using this
  have hform : (keyV t).formed Tryz.prog 115 = true := by simp [keyV, Value.formed, Tryz.underlying115, Tryz.cellsKey]
  unfold keyOf
  rw [Tryz.underlying115]
  simp only [Tryz.keyTypeK, hform, Bool.and_self, if_true]
  rw [hm]
  simp [Program.keyLits, Tryz.underlying115, Tryz.underlying3, Tryz.underlying9, Tryz.cellsKey, Tryz.cellsInt, Tryz.cellsStr, keyV, Value.cells, h.k, h.l, h.a, h.b, hsz, tkey]
/-- A term that may stand in a store: its key tells it. -/
structure Tm.Wf (t : Tm) : Prop where
  fits : t.Fits
  n : t.kind ≠ 5 → t.names = []
  p : t.kind ≠ 6 → t.pairs = []
  nb : ∀ z ∈ t.names, 0 ≤ z ∧ z ≤ 255
  pb : ∀ p ∈ t.pairs, (0 ≤ p.1 ∧ p.1 ≤ 255) ∧ (0 ≤ p.2 ∧ p.2 ≤ 255)
  nl : t.names.length ≤ 100
  pl : t.pairs.length ≤ 100
theorem byteOf_inj {x y : Int} (hx : 0 ≤ x ∧ x ≤ 255) (hy : 0 ≤ y ∧ y ≤ 255) (h : Tm.byteOf x = Tm.byteOf y) : x = y := by
  rw [← byteOf_toNat hx.1 hx.2, ← byteOf_toNat hy.1 hy.2, h]
theorem nB_inj : ∀ (l m : List Int), (∀ z ∈ l, 0 ≤ z ∧ z ≤ 255) → (∀ z ∈ m, 0 ≤ z ∧ z ≤ 255) → Tm.nB l = Tm.nB m → l = m
  | [], [], _, _, _ => rfl
  | [], y :: m, _, _, h => by simp [Tm.nB] at h
  | x :: l, [], _, _, h => by simp [Tm.nB] at h
  | x :: l, y :: m, h1, h2, h => by
    simp only [Tm.nB, List.map_cons, List.cons.injEq] at h
    rw [byteOf_inj (h1 x (by simp)) (h2 y (by simp)) h.1, nB_inj l m (fun z hz => h1 z (by simp [hz])) (fun z hz => h2 z (by simp [hz])) h.2]
theorem pB_inj : ∀ (l m : List (Int × Int)), (∀ p ∈ l, (0 ≤ p.1 ∧ p.1 ≤ 255) ∧ (0 ≤ p.2 ∧ p.2 ≤ 255)) → (∀ p ∈ m, (0 ≤ p.1 ∧ p.1 ≤ 255) ∧ (0 ≤ p.2 ∧ p.2 ≤ 255)) → Tm.pB l = Tm.pB m → l = m
  | [], [], _, _, _ => rfl
  | [], y :: m, _, _, h => by simp [Tm.pB] at h
  | x :: l, [], _, _, h => by simp [Tm.pB] at h
  | x :: l, y :: m, h1, h2, h => by
    simp only [Tm.pB, List.map_cons, List.flatten_cons, List.cons_append, List.nil_append, List.cons.injEq] at h
    have e1 := byteOf_inj (h1 x (by simp)).1 (h2 y (by simp)).1 h.1
    have e2 := byteOf_inj (h1 x (by simp)).2 (h2 y (by simp)).2 h.2.1
    have e3 := pB_inj l m (fun z hz => h1 z (by simp [hz])) (fun z hz => h2 z (by simp [hz])) h.2.2
    obtain ⟨x1, x2⟩ := x
    obtain ⟨y1, y2⟩ := y
    simp only at e1 e2
    rw [e1, e2, e3]
theorem tkey_inj {s t : Tm} (hs : s.Wf) (ht : t.Wf) (h : tkey s = tkey t) : s = t := by
  have h1 := keyOf_keyV s hs.fits
  have h2 := keyOf_keyV t ht.fits
  rw [← h] at h2
  have h3 := Tryz.lawK.inj h1 h2
  unfold keyV at h3
  simp only [Value.agg.injEq, Array.mk.injEq, List.cons.injEq, Value.int.injEq, true_and, Value.string.injEq, ByteArray.mk.injEq, and_true] at h3
  obtain ⟨hk, hl, ha, hb, hx⟩ := h3
  have hx' : s.lists = t.lists := by simpa using hx
  rw [Tm.lists_eq, Tm.lists_eq] at hx'
  obtain ⟨k, l, a, b, ns, ps⟩ := s
  obtain ⟨k', l', a', b', ns', ps'⟩ := t
  simp only at hk hl ha hb hx'
  subst hk; subst hl; subst ha; subst hb
  have w1 := hs.n; have w2 := ht.n; have w3 := hs.p; have w4 := ht.p
  simp only at w1 w2 w3 w4
  by_cases h5 : k = 5
  · have e1 := w3 (by omega)
    have e2 := w4 (by omega)
    subst e1; subst e2
    simp only [Tm.pB, List.map_nil, List.flatten_nil, List.append_nil] at hx'
    have e : ns = ns' := nB_inj _ _ hs.nb ht.nb hx'
    rw [e]
  · have e1 := w1 h5
    have e2 := w2 h5
    subst e1; subst e2
    simp only [Tm.nB, List.map_nil, List.nil_append] at hx'
    have e : ps = ps' := pB_inj _ _ hs.pb ht.pb hx'
    rw [e]
theorem rising_all : ∀ (zs : List Int) (last : Int), -1 ≤ last → Ac.rising last zs = true → (∀ z ∈ zs, 0 ≤ z ∧ z < 100) ∧ (zs = [] ∨ last + zs.length ≤ 99)
  | [], _, _, _ => ⟨fun z hz => by simp at hz, .inl rfl⟩
  | z :: r, last, hl, h => by
    unfold Ac.rising at h
    split at h
    · cases h
    · rename_i hc
      have hz : 0 ≤ z ∧ z < 100 := by
        have : ¬ Ac.isN z = false := fun e => hc (.inr e)
        simpa [Ac.isN] using this
      have hlt : last < z := by
        have : ¬ z ≤ last := fun e => hc (.inl e)
        omega
      obtain ⟨i1, i2⟩ := rising_all r z (by omega) h
      refine ⟨fun y hy => ?_, .inr ?_⟩
      · rcases List.mem_cons.1 hy with rfl | hy
        · exact hz
        · exact i1 y hy
      · rcases i2 with rfl | i2
        · simp; omega
        · simp; omega
theorem pairs_all : ∀ (ps : List (Int × Int)) (last : Int), -1 ≤ last → Ac.pairs last ps = true → (∀ p ∈ ps, (0 ≤ p.1 ∧ p.1 < 100) ∧ (0 ≤ p.2 ∧ p.2 < 100)) ∧ (ps = [] ∨ last + ps.length ≤ 99)
  | [], _, _, _ => ⟨fun z hz => by simp at hz, .inl rfl⟩
  | p :: r, last, hl, h => by
    unfold Ac.pairs at h
    split at h
    · cases h
    · rename_i hc
      have hz : 0 ≤ p.1 ∧ p.1 < 100 := by
        have : ¬ Ac.isN p.1 = false := fun e => hc (.inr (.inl e))
        simpa [Ac.isN] using this
      have hy : 0 ≤ p.2 ∧ p.2 < 100 := by
        have : ¬ Ac.isN p.2 = false := fun e => hc (.inr (.inr e))
        simpa [Ac.isN] using this
      have hlt : last < p.1 := by
        have : ¬ p.1 ≤ last := fun e => hc (.inl e)
        omega
      obtain ⟨i1, i2⟩ := pairs_all r p.1 (by omega) h
      refine ⟨fun y hy => ?_, .inr ?_⟩
      · rcases List.mem_cons.1 hy with rfl | hy
        · exact ⟨hz, by assumption⟩
        · exact i1 y hy
      · rcases i2 with rfl | i2
        · simp; omega
        · simp; omega
theorem wf64 {z : Int} (h0 : -1000000000 ≤ z) (h1 : z ≤ 1000000000) : (Lit.int .i64 z).wf = true := WalkArith.wf_i64 (by omega)
theorem has_iff {n : Nat} {i : Int} : Tm.has n i = true ↔ 0 ≤ i ∧ i < (n : Int) := by simp [Tm.has]
/-- What may be put is told by its key. -/
theorem may_wf {n : Nat} {t : Tm} (hn : n ≤ 1000000) (h : t.may n = true) : t.Wf := by
  obtain ⟨k, l, a, b, ns, ps⟩ := t
  have h' := h
  simp only [Tm.may, Bool.and_eq_true] at h'
  obtain ⟨hr, hz⟩ := h'
  simp only [Tm.rest, Bool.and_eq_true, Bool.or_eq_true, beq_iff_eq, bne_iff_ne, List.length_eq_zero_iff] at hz
  obtain ⟨⟨⟨⟨z1, z2⟩, z3⟩, z4⟩, z5⟩ := hz
  unfold Tm.right at hr
  simp only at hr
  have core : (1 ≤ k ∧ k ≤ 7) ∧ (0 ≤ l ∧ l ≤ 1000) ∧ (0 ≤ a ∧ a ≤ 1000000) ∧ (0 ≤ b ∧ b ≤ 1000000) ∧ (k = 5 → Ac.rising (-1) ns = true) ∧ (k = 6 → Ac.pairs (-1) ps = true) := by
    split at hr
    · rename_i hk; subst hk
      simp at z1 z2 z3
      refine ⟨?_, ?_, ?_, ?_, ?_, ?_⟩ <;> omega
    split at hr
    · rename_i hk; subst hk
      simp at z3
      simp only [Bool.and_eq_true, decide_eq_true_eq, has_iff] at hr
      refine ⟨?_, ?_, ?_, ?_, ?_, ?_⟩ <;> omega
    split at hr
    · rename_i hk
      simp only [Bool.and_eq_true, has_iff] at hr
      refine ⟨?_, ?_, ?_, ?_, ?_, ?_⟩ <;> omega
    split at hr
    · rename_i hk; subst hk
      simp at z1 z3
      simp only [Bool.and_eq_true, has_iff] at hr
      exact ⟨by omega, by omega, by omega, by omega, fun _ => hr.2, fun h => by omega⟩
    split at hr
    · rename_i hk; subst hk
      simp at z1 z3
      simp only [Bool.and_eq_true, has_iff] at hr
      exact ⟨by omega, by omega, by omega, by omega, fun h => by omega, fun _ => hr.2⟩
    split at hr
    · rename_i hk; subst hk
      simp at z1 z3
      simp only [decide_eq_true_eq] at hr
      refine ⟨?_, ?_, ?_, ?_, ?_, ?_⟩ <;> omega
    · cases hr
  obtain ⟨c1, c2, c3, c4, c5, c6⟩ := core
  have hns : (∀ z ∈ ns, 0 ≤ z ∧ z ≤ 255) ∧ ns.length ≤ 100 := by
    rcases z4 with hk | e
    · obtain ⟨i1, i2⟩ := rising_all ns (-1) (by omega) (c5 hk)
      refine ⟨fun z hz => by have := i1 z hz; omega, ?_⟩
      rcases i2 with rfl | i2
      · simp
      · omega
    · subst e; exact ⟨fun z hz => by simp at hz, by simp⟩
  have hps : (∀ p ∈ ps, (0 ≤ p.1 ∧ p.1 ≤ 255) ∧ (0 ≤ p.2 ∧ p.2 ≤ 255)) ∧ ps.length ≤ 100 := by
    rcases z5 with hk | e
    · obtain ⟨i1, i2⟩ := pairs_all ps (-1) (by omega) (c6 hk)
      refine ⟨fun z hz => by have := i1 z hz; omega, ?_⟩
      rcases i2 with rfl | i2
      · simp
      · omega
    · subst e; exact ⟨fun z hz => by simp at hz, by simp⟩
  refine ⟨⟨wf64 ?_ ?_, wf64 ?_ ?_, wf64 ?_ ?_, wf64 ?_ ?_, ?_⟩, fun hk => ?_, fun hk => ?_, hns.1, hps.1, hns.2, hps.2⟩
  any_goals (simp only; omega)
  · rw [Tm.lists_eq, List.length_append, Tm.nB_length, Tm.pB_length]
    have := hns.2; have := hps.2
    simp only; unfold maxLen; omega
  · exact z4.resolve_left hk
  · exact z5.resolve_left hk
end Go.Proofs.YthnenpncajpibaaGreatDoor
/- What a store holds in memory, and what of it stays. -/
namespace Go.Proofs.YthnenpncajpibaaGreatDoor
open Go.RowKit Go.Maps
/-- All blocks but those of F stand. -/
structure Kept (F : Nat → Prop) (w w' : World) : Prop where
  os : w'.os = w.os
  tape : w'.tape = w.tape
  output : w'.output = w.output
  size : w.heap.size ≤ w'.heap.size
  block : ∀ k, k < w.heap.size → ¬ F k → w'.heap[k]? = w.heap[k]?
theorem Kept.refl (F : Nat → Prop) (w : World) : Kept F w w := ⟨rfl, rfl, rfl, Nat.le_refl _, fun _ _ _ => rfl⟩
theorem Kept.trans {F : Nat → Prop} {a b c : World} (h : Kept F a b) (k : Kept F b c) : Kept F a c :=
  ⟨k.os.trans h.os, k.tape.trans h.tape, k.output.trans h.output, Nat.le_trans h.size k.size, fun i hi hf => (k.block i (Nat.lt_of_lt_of_le hi h.size) hf).trans (h.block i hi hf)⟩
theorem Kept.mono {F G : Nat → Prop} {a b : World} (h : Kept F a b) (hs : ∀ k, k < a.heap.size → F k → G k) : Kept G a b := ⟨h.os, h.tape, h.output, h.size, fun i hi hg => h.block i hi fun hf => hg (hs i hi hf)⟩
theorem Kept.of_below {F : Nat → Prop} {a b : World} (h : Below a.heap.size a b) : Kept F a b := ⟨h.os, h.tape, h.output, h.size, fun i hi _ => h.block i hi⟩
theorem Kept.of_grown {a b : World} {row : Option Nat} (h : a.grownBy b row) : Kept (fun i => row = some i) a b := ⟨h.os, h.tape, h.output, h.size, fun i hi hn => h.block i hi fun e => hn e.symm⟩
theorem Kept.below {F : Nat → Prop} {a b : World} (h : Kept F a b) {B : Nat} (hB : B ≤ a.heap.size) (hF : ∀ k, F k → B ≤ k) : Below B a b := ⟨h.os, h.tape, h.output, h.size, fun i hi => h.block i (by omega) fun hf => by have := hF i hf; omega⟩
theorem Kept.setCell (a : World) (b o : Nat) (u : Value) : Kept (fun i => i = b) a (a.setCell ⟨b, o, none⟩ u) := by
  have h : Below b a (a.setCell ⟨b, o, none⟩ u) := Below.setCell (Below.refl b a) (Nat.le_refl _) u
  exact ⟨h.os, h.tape, h.output, h.size, fun i _ hn => set_other _ _ _ _ _ hn⟩
/-- The map tells each term's place. -/
structure MapOf3 (D : DataW Unit) (L : List Tm) : Prop where
  yes : ∀ (i : Nat) (t : Tm), L[i]? = some t → Maps.has D (tkey t) = true ∧ D.atKey (tkey t) (.lit (.int .i64 0)) = .lit (.int .i64 i)
  no : ∀ t : Tm, t.Wf → t ∉ L → Maps.has D (tkey t) = false
theorem tkey_key (t : Tm) : WideAt.IsKeyLit (tkey t) := by unfold tkey; exact trivial
theorem MapOf3.nil : MapOf3 (.map []) [] := ⟨fun i s h => by simp at h, fun s _ _ => rfl⟩
theorem MapOf3.snoc {D : DataW Unit} {L : List Tm} (h : MapOf3 D L) (hD : IsMap D) (hL : ∀ t ∈ L, t.Wf) (t : Tm) (ht : t.Wf) (hn : t ∉ L) : MapOf3 (D.put (tkey t) (.lit (.int .i64 L.length))) (L ++ [t]) := by
  refine ⟨fun i s hs => ?_, fun s hw hs => ?_⟩
  · rcases Nat.lt_or_ge i L.length with hi | hi
    · rw [List.getElem?_append_left hi] at hs
      have hm := List.mem_of_getElem? hs
      have hne : tkey s ≠ tkey t := fun e => hn (tkey_inj (hL s hm) ht e ▸ hm)
      rw [has_put_other hne, atKey_put_other hne]
      exact h.yes i s hs
    · rw [List.getElem?_append_right hi] at hs
      have hi0 : i - L.length = 0 := by
        have := (List.getElem?_eq_some_iff.1 hs).1
        simp at this; omega
      rw [hi0] at hs
      simp at hs
      subst hs
      have : i = L.length := by omega
      subst this
      exact ⟨has_put_same hD (tkey_key _) _, atKey_put_same hD (tkey_key _) _ _⟩
  · have hne : tkey s ≠ tkey t := fun e => hs (by rw [tkey_inj hw ht e]; simp)
    rw [has_put_other hne]
    exact h.no s hw fun hm => hs (by simp [hm])
theorem MapOf3.nodup {D : DataW Unit} {L : List Tm} (h : MapOf3 D L) {i j : Nat} {s : Tm} (hi : L[i]? = some s) (hj : L[j]? = some s) : i = j := by
  have h1 := (h.yes i s hi).2
  rw [(h.yes j s hj).2] at h1
  injection h1 with h1
  injection h1 with _ h1
  omega
/-- The store's map: none yet, or one that tells the terms' places. -/
def MapIn3 (w : World) (vm : Value) (L : List Tm) : Prop := (vm = .map none ∧ L = []) ∨ ∃ bm D, vm = .map (some bm) ∧ w.ownsMap (H := Unit) Tryz.prog 115 (plainElem Tryz.prog 3) bm L.length D ∧ MapOf3 D L
/-- The cells of the terms, one behind the other. -/
def rowC : List Tm → List (Value × Value) → List Value
  | t :: L, v :: vs => tmC t v.1 v.2 ++ rowC L vs
  | _, _ => []
theorem rowC_snoc : ∀ (L : List Tm) (vs : List (Value × Value)), vs.length = L.length → ∀ (t : Tm) (v : Value × Value), rowC (L ++ [t]) (vs ++ [v]) = rowC L vs ++ tmC t v.1 v.2
  | [], [], _, t, v => by simp [rowC]
  | [], _ :: _, h, _, _ => by simp at h
  | _ :: _, [], h, _, _ => by simp at h
  | s :: L, u :: vs, h, t, v => by
    simp only [List.cons_append, rowC, List.append_assoc]
    rw [rowC_snoc L vs (by simpa using h) t v]
theorem rowC_at : ∀ (L : List Tm) (vs : List (Value × Value)), vs.length = L.length → ∀ (i : Nat) (t : Tm) (v : Value × Value), L[i]? = some t → vs[i]? = some v → ∀ k, k < 6 → (rowC L vs)[i * 6 + k]? = (tmC t v.1 v.2)[k]?
  | [], _, _, _, _, _, h, _, _, _ => by simp at h
  | _ :: _, [], h, _, _, _, _, _, _, _ => by simp at h
  | s :: L, u :: vs, h, i, t, v, h1, h2, k, hk => by
    have hl : (tmC s u.1 u.2).length = 6 := rfl
    cases i with
    | zero =>
      simp at h1 h2
      subst h1; subst h2
      rw [rowC, Nat.zero_mul, Nat.zero_add, List.getElem?_append_left (by omega)]
    | succ i =>
      rw [rowC, List.getElem?_append_right (by omega), ← rowC_at L vs (by simpa using h) i t v (by simpa using h1) (by simpa using h2) k hk]
      congr 1
      omega
/-- A store in block b: its terms, its map, the lists of each term. -/
structure Sto (w : World) (b : Nat) (vt vm : Value) (L : List Tm) (vs : List (Value × Value)) : Prop where
  cell : w.heap[b]? = some (.cells #[vt, vm] 71 (0, 0))
  row : w.ownsRow 0 35 6 vt L.length (rowC L vs)
  map : MapIn3 w vm L
  len : vs.length = L.length
  lists : ∀ (i : Nat) (t : Tm) (v : Value × Value), L[i]? = some t → vs[i]? = some v → OwnI w 0 v.1 t.names ∧ OwnP w 0 v.2 t.pairs
  wf : ∀ t ∈ L, t.Wf
  big : L.length ≤ 100000
/-- The blocks of a store. -/
def Foot3 (b : Nat) (vt vm : Value) (vs : List (Value × Value)) (i : Nat) : Prop := i = b ∨ vt.ownBlock = some i ∨ vm = .map (some i) ∨ ∃ v ∈ vs, v.1.ownBlock = some i ∨ v.2.ownBlock = some i
theorem Sto.list_at {w : World} {b : Nat} {vt vm : Value} {L : List Tm} {vs : List (Value × Value)} (h : Sto w b vt vm L vs) {v : Value × Value} (hv : v ∈ vs) : ∃ t ∈ L, OwnI w 0 v.1 t.names ∧ OwnP w 0 v.2 t.pairs := by
  obtain ⟨i, hi, rfl⟩ := List.getElem_of_mem hv
  have hl : i < L.length := by rw [← h.len]; exact hi
  exact ⟨L[i], List.getElem_mem hl, h.lists i _ _ (List.getElem?_eq_getElem hl) (List.getElem?_eq_getElem hi)⟩
theorem Sto.foot_lt {w : World} {b : Nat} {vt vm : Value} {L : List Tm} {vs : List (Value × Value)} (h : Sto w b vt vm L vs) {i : Nat} (hi : Foot3 b vt vm vs i) : i < w.heap.size := by
  rcases hi with rfl | hi | hi | ⟨v, hv, hi | hi⟩
  · exact t_lt h.cell
  · exact (h.row.lt i hi).2
  · rcases h.map with ⟨rfl, _⟩ | ⟨bm, D, rfl, ho, _⟩
    · cases hi
    · injection hi with hi
      injection hi with hi
      exact hi ▸ ho.lt
  · obtain ⟨t, _, h1, _⟩ := h.list_at hv
    exact (h1.lt i hi).2
  · obtain ⟨t, _, _, h1⟩ := h.list_at hv
    exact (h1.lt i hi).2
theorem map_at {w w' : World} {k : TypeId} {R : Value → Option (DataW Unit × List MemPlace)} {b n : Nat} {D : DataW Unit} (h : w.ownsMap Tryz.prog k R b n D) (hb : w'.heap[b]? = w.heap[b]?) : w'.ownsMap Tryz.prog k R b n D := by
  obtain ⟨es, clock, h1, h2⟩ := h
  exact ⟨es, clock, hb.trans h1, h2⟩
theorem MapIn3.at {w w' : World} {vm : Value} {L : List Tm} (h : MapIn3 w vm L) (hb : ∀ i, vm = .map (some i) → w'.heap[i]? = w.heap[i]?) : MapIn3 w' vm L := by
  rcases h with h | ⟨bm, D, rfl, ho, hm⟩
  · exact .inl h
  · exact .inr ⟨bm, D, rfl, map_at ho (hb bm rfl), hm⟩
/-- A store stays where its blocks do. -/
theorem Sto.at {w w' : World} {b : Nat} {vt vm : Value} {L : List Tm} {vs : List (Value × Value)} (h : Sto w b vt vm L vs) (hb : ∀ i, Foot3 b vt vm vs i → w'.heap[i]? = w.heap[i]?) : Sto w' b vt vm L vs :=
  ⟨by rw [hb b (.inl rfl)]; exact h.cell, trow_at h.row fun i hi => hb i (.inr (.inl hi)), h.map.at fun i hi => hb i (.inr (.inr (.inl hi))), h.len,
    fun i t v h1 h2 => ⟨trow_at (h.lists i t v h1 h2).1 fun k hk => hb k (.inr (.inr (.inr ⟨v, List.mem_of_getElem? h2, .inl hk⟩))), trow_at (h.lists i t v h1 h2).2 fun k hk => hb k (.inr (.inr (.inr ⟨v, List.mem_of_getElem? h2, .inr hk⟩)))⟩, h.wf, h.big⟩
theorem Sto.below {w w' : World} {b : Nat} {vt vm : Value} {L : List Tm} {vs : List (Value × Value)} (h : Sto w b vt vm L vs) (hb : Below w.heap.size w w') : Sto w' b vt vm L vs := h.at fun i hi => hb.block i (h.foot_lt hi)
theorem Sto.kept {w w' : World} {b : Nat} {vt vm : Value} {L : List Tm} {vs : List (Value × Value)} {F : Nat → Prop} (h : Sto w b vt vm L vs) (hk : Kept F w w') (hF : ∀ i, Foot3 b vt vm vs i → ¬ F i) : Sto w' b vt vm L vs := h.at fun i hi => hk.block i (h.foot_lt hi) (hF i hi)
/-- Blocks of unlike types are unlike. -/
theorem cells_ne {w : World} {i j : Nat} {c c' : Array Value} {s t : TypeId} {f f' : Nat × Nat} (hi : w.heap[i]? = some (.cells c s f)) (hj : w.heap[j]? = some (.cells c' t f')) (hne : s ≠ t) : i ≠ j := by
  rintro rfl
  rw [hi] at hj
  injection hj with hj
  injection hj with _ h2
  exact hne h2
theorem map_ne {w : World} {i b : Nat} {c : Array Value} {s : TypeId} {f : Nat × Nat} {k : TypeId} {R : Value → Option (DataW Unit × List MemPlace)} {n : Nat} {D : DataW Unit} (hi : w.heap[i]? = some (.cells c s f)) (h : w.ownsMap Tryz.prog k R b n D) : i ≠ b := by
  rintro rfl
  obtain ⟨es, clock, h1, _⟩ := h
  rw [hi] at h1
  cases h1
theorem row_cells {w : World} {base : Nat} {e : TypeId} {size : Nat} {v : Value} {n : Nat} {xs : List Value} (h : w.ownsRow base e size v n xs) {i : Nat} (hi : v.ownBlock = some i) : ∃ c, w.heap[i]? = some (.cells c e (0, 0)) := by
  rcases h.2 with ⟨rfl, _⟩ | ⟨g, cap, cur, rfl, _, hg, _⟩
  · cases hi
  · simp only [Value.ownBlock, Option.some.injEq] at hi
    exact ⟨cur, hi ▸ hg⟩
end Go.Proofs.YthnenpncajpibaaGreatDoor
