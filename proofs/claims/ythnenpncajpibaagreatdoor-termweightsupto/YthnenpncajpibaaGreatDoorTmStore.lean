/- Stores in memory: the key's law, what a map of keys tells, what a store holds, what of it stays. -/
import Derived.Test.YthnenpncajpibaaGreatDoorTmTwin
namespace Go.Proofs.YthnenpncajpibaaGreatDoor
open Go.RowKit Go.Maps
theorem Tryz.laidOut0 : laidOutB Tryz.prog = true := by kernel_rfl
theorem Tryz.rowKey : (115 : TypeId) < Tryz.prog.types.size := of_decide_eq_true (by kernel_rfl)
theorem Tryz.wideKey : (match Tryz.prog.underlying 115 with | some (.array _ _) | some (.struct _) => true | _ => false) = true := by kernel_rfl
set_option maxRecDepth 100000 in
theorem Tryz.lawK : Keyed Tryz.prog 115 := Keyed.of_law (deep_law_laid Tryz.laidOut0 (m := 3) (by omega) Tryz.rowKey (by kernel_rfl) Tryz.wideKey)
def tkey (t : Tm) : Lit := .string (keyBytes [.int .i64 t.kind, .int .i64 t.label, .int .i64 t.a, .int .i64 t.b, .string t.lists])
/-- The fields fit. -/
structure Tm.Fits (t : Tm) : Prop where
  k : (Lit.int .i64 t.kind).wf = true
  l : (Lit.int .i64 t.label).wf = true
  a : (Lit.int .i64 t.a).wf = true
  b : (Lit.int .i64 t.b).wf = true
  len : t.lists.length ≤ maxLen
theorem Tryz.cellsKey : Tryz.prog.cellsOf 115 = 5 := by kernel_rfl
theorem Tryz.cellsInt : Tryz.prog.cellsOf 3 = 1 := by kernel_rfl
theorem Tryz.cellsStr : Tryz.prog.cellsOf 9 = 1 := by kernel_rfl
theorem Tryz.keyTypeK : Tryz.prog.keyType 115 = true := by kernel_rfl
theorem Tryz.sizeT : ∃ m, Tryz.prog.types.size = m + 1 := ⟨_, (by kernel_rfl : Tryz.prog.types.size = 237)⟩
set_option maxRecDepth 100000 in
theorem keyOf_keyV (t : Tm) (h : t.Fits) : keyOf Tryz.prog 115 (keyV t) = some (tkey t) := by
  obtain ⟨m, hm⟩ := Tryz.sizeT
  have hsz : (⟨t.lists.toArray⟩ : ByteArray).size ≤ maxLen := by
    have := h.len
    simpa [ByteArray.size] using this
  have hform : (keyV t).formed Tryz.prog 115 = true := by simp [keyV, Value.formed, Tryz.underlying115, Tryz.cellsKey]
  unfold keyOf
  rw [Tryz.underlying115]
  simp only [Tryz.keyTypeK, hform, Bool.and_self, if_true]
  rw [hm]
  simp [Program.keyLits, Tryz.underlying115, Tryz.underlying3, Tryz.underlying9, Tryz.cellsKey, Tryz.cellsInt, Tryz.cellsStr, keyV, Value.cells, h.k, h.l, h.a, h.b, hsz, tkey]
/-- A term that may stand in a store: its key tells it. -/
structure Tm.Wf (t : Tm) : Prop where
  fits : t.Fits
  n : t.kind ≠ 5 → t.names = []
  p : t.kind ≠ 6 → t.pairs = []
  nb : ∀ z ∈ t.names, 0 ≤ z ∧ z ≤ 255
  pb : ∀ p ∈ t.pairs, (0 ≤ p.1 ∧ p.1 ≤ 255) ∧ (0 ≤ p.2 ∧ p.2 ≤ 255)
  nl : t.names.length ≤ 100
  pl : t.pairs.length ≤ 100
theorem byteOf_inj {x y : Int} (hx : 0 ≤ x ∧ x ≤ 255) (hy : 0 ≤ y ∧ y ≤ 255) (h : Tm.byteOf x = Tm.byteOf y) : x = y := by
  rw [← byteOf_toNat hx.1 hx.2, ← byteOf_toNat hy.1 hy.2, h]
theorem nB_inj : ∀ (l m : List Int), (∀ z ∈ l, 0 ≤ z ∧ z ≤ 255) → (∀ z ∈ m, 0 ≤ z ∧ z ≤ 255) → Tm.nB l = Tm.nB m → l = m
  | [], [], _, _, _ => rfl
  | [], y :: m, _, _, h => by simp [Tm.nB] at h
  | x :: l, [], _, _, h => by simp [Tm.nB] at h
  | x :: l, y :: m, h1, h2, h => by
    simp only [Tm.nB, List.map_cons, List.cons.injEq] at h
    rw [byteOf_inj (h1 x (by simp)) (h2 y (by simp)) h.1, nB_inj l m (fun z hz => h1 z (by simp [hz])) (fun z hz => h2 z (by simp [hz])) h.2]
theorem pB_inj : ∀ (l m : List (Int × Int)), (∀ p ∈ l, (0 ≤ p.1 ∧ p.1 ≤ 255) ∧ (0 ≤ p.2 ∧ p.2 ≤ 255)) → (∀ p ∈ m, (0 ≤ p.1 ∧ p.1 ≤ 255) ∧ (0 ≤ p.2 ∧ p.2 ≤ 255)) → Tm.pB l = Tm.pB m → l = m
  | [], [], _, _, _ => rfl
  | [], y :: m, _, _, h => by simp [Tm.pB] at h
  | x :: l, [], _, _, h => by simp [Tm.pB] at h
  | x :: l, y :: m, h1, h2, h => by
    simp only [Tm.pB, List.map_cons, List.flatten_cons, List.cons_append, List.nil_append, List.cons.injEq] at h
    have e1 := byteOf_inj (h1 x (by simp)).1 (h2 y (by simp)).1 h.1
    have e2 := byteOf_inj (h1 x (by simp)).2 (h2 y (by simp)).2 h.2.1
    have e3 := pB_inj l m (fun z hz => h1 z (by simp [hz])) (fun z hz => h2 z (by simp [hz])) h.2.2
    obtain ⟨x1, x2⟩ := x
    obtain ⟨y1, y2⟩ := y
    simp only at e1 e2
    rw [e1, e2, e3]
theorem tkey_inj {s t : Tm} (hs : s.Wf) (ht : t.Wf) (h : tkey s = tkey t) : s = t := by
  have h1 := keyOf_keyV s hs.fits
  have h2 := keyOf_keyV t ht.fits
  rw [← h] at h2
  have h3 := Tryz.lawK.inj h1 h2
  unfold keyV at h3
  simp only [Value.agg.injEq, Array.mk.injEq, List.cons.injEq, Value.int.injEq, true_and, Value.string.injEq, ByteArray.mk.injEq, and_true] at h3
  obtain ⟨hk, hl, ha, hb, hx⟩ := h3
  have hx' : s.lists = t.lists := by simpa using hx
  rw [Tm.lists_eq, Tm.lists_eq] at hx'
  obtain ⟨k, l, a, b, ns, ps⟩ := s
  obtain ⟨k', l', a', b', ns', ps'⟩ := t
  simp only at hk hl ha hb hx'
  subst hk; subst hl; subst ha; subst hb
  have w1 := hs.n; have w2 := ht.n; have w3 := hs.p; have w4 := ht.p
  simp only at w1 w2 w3 w4
  by_cases h5 : k = 5
  · have e1 := w3 (by omega)
    have e2 := w4 (by omega)
    subst e1; subst e2
    simp only [Tm.pB, List.map_nil, List.flatten_nil, List.append_nil] at hx'
    have e : ns = ns' := nB_inj _ _ hs.nb ht.nb hx'
    rw [e]
  · have e1 := w1 h5
    have e2 := w2 h5
    subst e1; subst e2
    simp only [Tm.nB, List.map_nil, List.nil_append] at hx'
    have e : ps = ps' := pB_inj _ _ hs.pb ht.pb hx'
    rw [e]
theorem rising_all : ∀ (zs : List Int) (last : Int), -1 ≤ last → Ac.rising last zs = true → (∀ z ∈ zs, 0 ≤ z ∧ z < 100) ∧ (zs = [] ∨ last + zs.length ≤ 99)
  | [], _, _, _ => ⟨fun z hz => by simp at hz, .inl rfl⟩
  | z :: r, last, hl, h => by
    unfold Ac.rising at h
    split at h
    · cases h
    · rename_i hc
      have hz : 0 ≤ z ∧ z < 100 := by
        have : ¬ Ac.isN z = false := fun e => hc (.inr e)
        simpa [Ac.isN] using this
      have hlt : last < z := by
        have : ¬ z ≤ last := fun e => hc (.inl e)
        omega
      obtain ⟨i1, i2⟩ := rising_all r z (by omega) h
      refine ⟨fun y hy => ?_, .inr ?_⟩
      · rcases List.mem_cons.1 hy with rfl | hy
        · exact hz
        · exact i1 y hy
      · rcases i2 with rfl | i2
        · simp; omega
        · simp; omega
theorem pairs_all : ∀ (ps : List (Int × Int)) (last : Int), -1 ≤ last → Ac.pairs last ps = true → (∀ p ∈ ps, (0 ≤ p.1 ∧ p.1 < 100) ∧ (0 ≤ p.2 ∧ p.2 < 100)) ∧ (ps = [] ∨ last + ps.length ≤ 99)
  | [], _, _, _ => ⟨fun z hz => by simp at hz, .inl rfl⟩
  | p :: r, last, hl, h => by
    unfold Ac.pairs at h
    split at h
    · cases h
    · rename_i hc
      have hz : 0 ≤ p.1 ∧ p.1 < 100 := by
        have : ¬ Ac.isN p.1 = false := fun e => hc (.inr (.inl e))
        simpa [Ac.isN] using this
      have hy : 0 ≤ p.2 ∧ p.2 < 100 := by
        have : ¬ Ac.isN p.2 = false := fun e => hc (.inr (.inr e))
        simpa [Ac.isN] using this
      have hlt : last < p.1 := by
        have : ¬ p.1 ≤ last := fun e => hc (.inl e)
        omega
      obtain ⟨i1, i2⟩ := pairs_all r p.1 (by omega) h
      refine ⟨fun y hy => ?_, .inr ?_⟩
      · rcases List.mem_cons.1 hy with rfl | hy
        · exact ⟨hz, by assumption⟩
        · exact i1 y hy
      · rcases i2 with rfl | i2
        · simp; omega
        · simp; omega
theorem wf64 {z : Int} (h0 : -1000000000 ≤ z) (h1 : z ≤ 1000000000) : (Lit.int .i64 z).wf = true := WalkArith.wf_i64 (by omega)
theorem has_iff {n : Nat} {i : Int} : Tm.has n i = true ↔ 0 ≤ i ∧ i < (n : Int) := by simp [Tm.has]
/-- What may be put is told by its key. -/
theorem may_wf {n : Nat} {t : Tm} (hn : n ≤ 1000000) (h : t.may n = true) : t.Wf := by
  obtain ⟨k, l, a, b, ns, ps⟩ := t
  have h' := h
  simp only [Tm.may, Bool.and_eq_true] at h'
  obtain ⟨hr, hz⟩ := h'
  simp only [Tm.rest, Bool.and_eq_true, Bool.or_eq_true, beq_iff_eq, bne_iff_ne, List.length_eq_zero_iff] at hz
  obtain ⟨⟨⟨⟨z1, z2⟩, z3⟩, z4⟩, z5⟩ := hz
  unfold Tm.right at hr
  simp only at hr
  have core : (1 ≤ k ∧ k ≤ 7) ∧ (0 ≤ l ∧ l ≤ 1000) ∧ (0 ≤ a ∧ a ≤ 1000000) ∧ (0 ≤ b ∧ b ≤ 1000000) ∧ (k = 5 → Ac.rising (-1) ns = true) ∧ (k = 6 → Ac.pairs (-1) ps = true) := by
    split at hr
    · rename_i hk; subst hk
      simp at z1 z2 z3
      refine ⟨?_, ?_, ?_, ?_, ?_, ?_⟩ <;> omega
    split at hr
    · rename_i hk; subst hk
      simp at z3
      simp only [Bool.and_eq_true, decide_eq_true_eq, has_iff] at hr
      refine ⟨?_, ?_, ?_, ?_, ?_, ?_⟩ <;> omega
    split at hr
    · rename_i hk
      simp only [Bool.and_eq_true, has_iff] at hr
      refine ⟨?_, ?_, ?_, ?_, ?_, ?_⟩ <;> omega
    split at hr
    · rename_i hk; subst hk
      simp at z1 z3
      simp only [Bool.and_eq_true, has_iff] at hr
      exact ⟨by omega, by omega, by omega, by omega, fun _ => hr.2, fun h => by omega⟩
    split at hr
    · rename_i hk; subst hk
      simp at z1 z3
      simp only [Bool.and_eq_true, has_iff] at hr
      exact ⟨by omega, by omega, by omega, by omega, fun h => by omega, fun _ => hr.2⟩
    split at hr
    · rename_i hk; subst hk
      simp at z1 z3
      simp only [decide_eq_true_eq] at hr
      refine ⟨?_, ?_, ?_, ?_, ?_, ?_⟩ <;> omega
    · cases hr
  obtain ⟨c1, c2, c3, c4, c5, c6⟩ := core
  have hns : (∀ z ∈ ns, 0 ≤ z ∧ z ≤ 255) ∧ ns.length ≤ 100 := by
    rcases z4 with hk | e
    · obtain ⟨i1, i2⟩ := rising_all ns (-1) (by omega) (c5 hk)
      refine ⟨fun z hz => by have := i1 z hz; omega, ?_⟩
      rcases i2 with rfl | i2
      · simp
      · omega
    · subst e; exact ⟨fun z hz => by simp at hz, by simp⟩
  have hps : (∀ p ∈ ps, (0 ≤ p.1 ∧ p.1 ≤ 255) ∧ (0 ≤ p.2 ∧ p.2 ≤ 255)) ∧ ps.length ≤ 100 := by
    rcases z5 with hk | e
    · obtain ⟨i1, i2⟩ := pairs_all ps (-1) (by omega) (c6 hk)
      refine ⟨fun z hz => by have := i1 z hz; omega, ?_⟩
      rcases i2 with rfl | i2
      · simp
      · omega
    · subst e; exact ⟨fun z hz => by simp at hz, by simp⟩
  refine ⟨⟨wf64 ?_ ?_, wf64 ?_ ?_, wf64 ?_ ?_, wf64 ?_ ?_, ?_⟩, fun hk => ?_, fun hk => ?_, hns.1, hps.1, hns.2, hps.2⟩
  any_goals (simp only; omega)
  · rw [Tm.lists_eq, List.length_append, Tm.nB_length, Tm.pB_length]
    have := hns.2; have := hps.2
    simp only; unfold maxLen; omega
  · exact z4.resolve_left hk
  · exact z5.resolve_left hk
end Go.Proofs.YthnenpncajpibaaGreatDoor
