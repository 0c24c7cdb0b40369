/- What a store holds in memory, and what of it stays. -/
import Derived.Test.YthnenpncajpibaaGreatDoorTmStore
namespace Go.Proofs.YthnenpncajpibaaGreatDoor
open Go.RowKit Go.Maps
/-- All blocks but those of F stand. -/
structure Kept (F : Nat → Prop) (w w' : World) : Prop where
  os : w'.os = w.os
  tape : w'.tape = w.tape
  output : w'.output = w.output
  size : w.heap.size ≤ w'.heap.size
  block : ∀ k, k < w.heap.size → ¬ F k → w'.heap[k]? = w.heap[k]?
theorem Kept.refl (F : Nat → Prop) (w : World) : Kept F w w := ⟨rfl, rfl, rfl, Nat.le_refl _, fun _ _ _ => rfl⟩
theorem Kept.trans {F : Nat → Prop} {a b c : World} (h : Kept F a b) (k : Kept F b c) : Kept F a c :=
  ⟨k.os.trans h.os, k.tape.trans h.tape, k.output.trans h.output, Nat.le_trans h.size k.size, fun i hi hf => (k.block i (Nat.lt_of_lt_of_le hi h.size) hf).trans (h.block i hi hf)⟩
theorem Kept.mono {F G : Nat → Prop} {a b : World} (h : Kept F a b) (hs : ∀ k, k < a.heap.size → F k → G k) : Kept G a b := ⟨h.os, h.tape, h.output, h.size, fun i hi hg => h.block i hi fun hf => hg (hs i hi hf)⟩
theorem Kept.of_below {F : Nat → Prop} {a b : World} (h : Below a.heap.size a b) : Kept F a b := ⟨h.os, h.tape, h.output, h.size, fun i hi _ => h.block i hi⟩
theorem Kept.of_grown {a b : World} {row : Option Nat} (h : a.grownBy b row) : Kept (fun i => row = some i) a b := ⟨h.os, h.tape, h.output, h.size, fun i hi hn => h.block i hi fun e => hn e.symm⟩
theorem Kept.below {F : Nat → Prop} {a b : World} (h : Kept F a b) {B : Nat} (hB : B ≤ a.heap.size) (hF : ∀ k, F k → B ≤ k) : Below B a b := ⟨h.os, h.tape, h.output, h.size, fun i hi => h.block i (by omega) fun hf => by have := hF i hf; omega⟩
theorem Kept.setCell (a : World) (b o : Nat) (u : Value) : Kept (fun i => i = b) a (a.setCell ⟨b, o, none⟩ u) := by
  have h : Below b a (a.setCell ⟨b, o, none⟩ u) := Below.setCell (Below.refl b a) (Nat.le_refl _) u
  exact ⟨h.os, h.tape, h.output, h.size, fun i _ hn => set_other _ _ _ _ _ hn⟩
/-- The map tells each term's place. -/
structure MapOf3 (D : DataW Unit) (L : List Tm) : Prop where
  yes : ∀ (i : Nat) (t : Tm), L[i]? = some t → Maps.has D (tkey t) = true ∧ D.atKey (tkey t) (.lit (.int .i64 0)) = .lit (.int .i64 i)
  no : ∀ t : Tm, t.Wf → t ∉ L → Maps.has D (tkey t) = false
theorem tkey_key (t : Tm) : WideAt.IsKeyLit (tkey t) := by unfold tkey; exact trivial
theorem MapOf3.nil : MapOf3 (.map []) [] := ⟨fun i s h => by simp at h, fun s _ _ => rfl⟩
theorem MapOf3.snoc {D : DataW Unit} {L : List Tm} (h : MapOf3 D L) (hD : IsMap D) (hL : ∀ t ∈ L, t.Wf) (t : Tm) (ht : t.Wf) (hn : t ∉ L) : MapOf3 (D.put (tkey t) (.lit (.int .i64 L.length))) (L ++ [t]) := by
  refine ⟨fun i s hs => ?_, fun s hw hs => ?_⟩
  · rcases Nat.lt_or_ge i L.length with hi | hi
    · rw [List.getElem?_append_left hi] at hs
      have hm := List.mem_of_getElem? hs
      have hne : tkey s ≠ tkey t := fun e => hn (tkey_inj (hL s hm) ht e ▸ hm)
      rw [has_put_other hne, atKey_put_other hne]
      exact h.yes i s hs
    · rw [List.getElem?_append_right hi] at hs
      have hi0 : i - L.length = 0 := by
        have := (List.getElem?_eq_some_iff.1 hs).1
        simp at this; omega
      rw [hi0] at hs
      simp at hs
      subst hs
      have : i = L.length := by omega
      subst this
      exact ⟨has_put_same hD (tkey_key _) _, atKey_put_same hD (tkey_key _) _ _⟩
  · have hne : tkey s ≠ tkey t := fun e => hs (by rw [tkey_inj hw ht e]; simp)
    rw [has_put_other hne]
    exact h.no s hw fun hm => hs (by simp [hm])
theorem MapOf3.nodup {D : DataW Unit} {L : List Tm} (h : MapOf3 D L) {i j : Nat} {s : Tm} (hi : L[i]? = some s) (hj : L[j]? = some s) : i = j := by
  have h1 := (h.yes i s hi).2
  rw [(h.yes j s hj).2] at h1
  injection h1 with h1
  injection h1 with _ h1
  omega
/-- The store's map: none yet, or one that tells the terms' places. -/
def MapIn3 (w : World) (vm : Value) (L : List Tm) : Prop := (vm = .map none ∧ L = []) ∨ ∃ bm D, vm = .map (some bm) ∧ w.ownsMap (H := Unit) Tryz.prog 115 (plainElem Tryz.prog 3) bm L.length D ∧ MapOf3 D L
/-- The cells of the terms, one behind the other. -/
def rowC : List Tm → List (Value × Value) → List Value
  | t :: L, v :: vs => tmC t v.1 v.2 ++ rowC L vs
  | _, _ => []
theorem rowC_snoc : ∀ (L : List Tm) (vs : List (Value × Value)), vs.length = L.length → ∀ (t : Tm) (v : Value × Value), rowC (L ++ [t]) (vs ++ [v]) = rowC L vs ++ tmC t v.1 v.2
  | [], [], _, t, v => by simp [rowC]
  | [], _ :: _, h, _, _ => by simp at h
  | _ :: _, [], h, _, _ => by simp at h
  | s :: L, u :: vs, h, t, v => by
    simp only [List.cons_append, rowC, List.append_assoc]
    rw [rowC_snoc L vs (by simpa using h) t v]
theorem rowC_at : ∀ (L : List Tm) (vs : List (Value × Value)), vs.length = L.length → ∀ (i : Nat) (t : Tm) (v : Value × Value), L[i]? = some t → vs[i]? = some v → ∀ k, k < 6 → (rowC L vs)[i * 6 + k]? = (tmC t v.1 v.2)[k]?
  | [], _, _, _, _, _, h, _, _, _ => by simp at h
  | _ :: _, [], h, _, _, _, _, _, _, _ => by simp at h
  | s :: L, u :: vs, h, i, t, v, h1, h2, k, hk => by
    have hl : (tmC s u.1 u.2).length = 6 := rfl
    cases i with
    | zero =>
      simp at h1 h2
      subst h1; subst h2
      rw [rowC, Nat.zero_mul, Nat.zero_add, List.getElem?_append_left (by omega)]
    | succ i =>
      rw [rowC, List.getElem?_append_right (by omega), ← rowC_at L vs (by simpa using h) i t v (by simpa using h1) (by simpa using h2) k hk]
      congr 1
      omega
/-- A store in block b: its terms, its map, the lists of each term. -/
structure Sto (w : World) (b : Nat) (vt vm : Value) (L : List Tm) (vs : List (Value × Value)) : Prop where
  cell : w.heap[b]? = some (.cells #[vt, vm] 71 (0, 0))
  row : w.ownsRow 0 35 6 vt L.length (rowC L vs)
  map : MapIn3 w vm L
  len : vs.length = L.length
  lists : ∀ (i : Nat) (t : Tm) (v : Value × Value), L[i]? = some t → vs[i]? = some v → OwnI w 0 v.1 t.names ∧ OwnP w 0 v.2 t.pairs
  wf : ∀ t ∈ L, t.Wf
  big : L.length ≤ 100000
/-- The blocks of a store. -/
def Foot3 (b : Nat) (vt vm : Value) (vs : List (Value × Value)) (i : Nat) : Prop := i = b ∨ vt.ownBlock = some i ∨ vm = .map (some i) ∨ ∃ v ∈ vs, v.1.ownBlock = some i ∨ v.2.ownBlock = some i
theorem Sto.list_at {w : World} {b : Nat} {vt vm : Value} {L : List Tm} {vs : List (Value × Value)} (h : Sto w b vt vm L vs) {v : Value × Value} (hv : v ∈ vs) : ∃ t ∈ L, OwnI w 0 v.1 t.names ∧ OwnP w 0 v.2 t.pairs := by
  obtain ⟨i, hi, rfl⟩ := List.getElem_of_mem hv
  have hl : i < L.length := by rw [← h.len]; exact hi
  exact ⟨L[i], List.getElem_mem hl, h.lists i _ _ (List.getElem?_eq_getElem hl) (List.getElem?_eq_getElem hi)⟩
theorem Sto.foot_lt {w : World} {b : Nat} {vt vm : Value} {L : List Tm} {vs : List (Value × Value)} (h : Sto w b vt vm L vs) {i : Nat} (hi : Foot3 b vt vm vs i) : i < w.heap.size := by
  rcases hi with rfl | hi | hi | ⟨v, hv, hi | hi⟩
  · exact t_lt h.cell
  · exact (h.row.lt i hi).2
  · rcases h.map with ⟨rfl, _⟩ | ⟨bm, D, rfl, ho, _⟩
    · cases hi
    · injection hi with hi
      injection hi with hi
      exact hi ▸ ho.lt
  · obtain ⟨t, _, h1, _⟩ := h.list_at hv
    exact (h1.lt i hi).2
  · obtain ⟨t, _, _, h1⟩ := h.list_at hv
    exact (h1.lt i hi).2
theorem map_at {w w' : World} {k : TypeId} {R : Value → Option (DataW Unit × List MemPlace)} {b n : Nat} {D : DataW Unit} (h : w.ownsMap Tryz.prog k R b n D) (hb : w'.heap[b]? = w.heap[b]?) : w'.ownsMap Tryz.prog k R b n D := by
  obtain ⟨es, clock, h1, h2⟩ := h
  exact ⟨es, clock, hb.trans h1, h2⟩
theorem MapIn3.at {w w' : World} {vm : Value} {L : List Tm} (h : MapIn3 w vm L) (hb : ∀ i, vm = .map (some i) → w'.heap[i]? = w.heap[i]?) : MapIn3 w' vm L := by
  rcases h with h | ⟨bm, D, rfl, ho, hm⟩
  · exact .inl h
  · exact .inr ⟨bm, D, rfl, map_at ho (hb bm rfl), hm⟩
/-- A store stays where its blocks do. -/
theorem Sto.at {w w' : World} {b : Nat} {vt vm : Value} {L : List Tm} {vs : List (Value × Value)} (h : Sto w b vt vm L vs) (hb : ∀ i, Foot3 b vt vm vs i → w'.heap[i]? = w.heap[i]?) : Sto w' b vt vm L vs :=
  ⟨by rw [hb b (.inl rfl)]; exact h.cell, trow_at h.row fun i hi => hb i (.inr (.inl hi)), h.map.at fun i hi => hb i (.inr (.inr (.inl hi))), h.len,
    fun i t v h1 h2 => ⟨trow_at (h.lists i t v h1 h2).1 fun k hk => hb k (.inr (.inr (.inr ⟨v, List.mem_of_getElem? h2, .inl hk⟩))), trow_at (h.lists i t v h1 h2).2 fun k hk => hb k (.inr (.inr (.inr ⟨v, List.mem_of_getElem? h2, .inr hk⟩)))⟩, h.wf, h.big⟩
theorem Sto.below {w w' : World} {b : Nat} {vt vm : Value} {L : List Tm} {vs : List (Value × Value)} (h : Sto w b vt vm L vs) (hb : Below w.heap.size w w') : Sto w' b vt vm L vs := h.at fun i hi => hb.block i (h.foot_lt hi)
theorem Sto.kept {w w' : World} {b : Nat} {vt vm : Value} {L : List Tm} {vs : List (Value × Value)} {F : Nat → Prop} (h : Sto w b vt vm L vs) (hk : Kept F w w') (hF : ∀ i, Foot3 b vt vm vs i → ¬ F i) : Sto w' b vt vm L vs := h.at fun i hi => hk.block i (h.foot_lt hi) (hF i hi)
/-- Blocks of unlike types are unlike. -/
theorem cells_ne {w : World} {i j : Nat} {c c' : Array Value} {s t : TypeId} {f f' : Nat × Nat} (hi : w.heap[i]? = some (.cells c s f)) (hj : w.heap[j]? = some (.cells c' t f')) (hne : s ≠ t) : i ≠ j := by
  rintro rfl
  rw [hi] at hj
  injection hj with hj
  injection hj with _ h2
  exact hne h2
theorem map_ne {w : World} {i b : Nat} {c : Array Value} {s : TypeId} {f : Nat × Nat} {k : TypeId} {R : Value → Option (DataW Unit × List MemPlace)} {n : Nat} {D : DataW Unit} (hi : w.heap[i]? = some (.cells c s f)) (h : w.ownsMap Tryz.prog k R b n D) : i ≠ b := by
  rintro rfl
  obtain ⟨es, clock, h1, _⟩ := h
  rw [hi] at h1
  cases h1
theorem row_cells {w : World} {base : Nat} {e : TypeId} {size : Nat} {v : Value} {n : Nat} {xs : List Value} (h : w.ownsRow base e size v n xs) {i : Nat} (hi : v.ownBlock = some i) : ∃ c, w.heap[i]? = some (.cells c e (0, 0)) := by
  rcases h.2 with ⟨rfl, _⟩ | ⟨g, cap, cur, rfl, _, hg, _⟩
  · cases hi
  · simp only [Value.ownBlock, Option.some.injEq] at hi
    exact ⟨cur, hi ▸ hg⟩
end Go.Proofs.YthnenpncajpibaaGreatDoor
