/- Lemmas on memory that all texts share: rows of one's own, what stands, lists of numbers. -/
import Derived.Test.YthfnikglcpoioaaDoorCopy
import Derived.RowKitTokens
import Derived.WalkSmall
import Derived.ProofKit
import Derived.Maps.OwnSet
import Derived.Maps.Range
import Derived.Maps.AppendAt
import Derived.OneCell
import Derived.DeepKeys4
import Derived.Deep.AppendLies
import Derived.Deep.RegionLaw
import Derived.Deep.RegionHeld3
import Derived.Deep.DrawnRows
import Derived.Deep.DeepCutAuto
import Derived.Deep.LoopGhost
import Derived.Below
namespace Go.Proofs.YthfnikglcpoioaaDoor
open Go.RowKit Go.Maps
theorem t_lt {w : World} {b : Nat} {o : Obj} (h : w.heap[b]? = some o) : b < w.heap.size := (Array.getElem?_eq_some_iff.1 h).1
theorem cell_up {w W : World} {b o : Nat} {v : Value} (hc : w.cell? ⟨b, o, none⟩ = some v) (hb : Below w.heap.size w W) : W.cell? ⟨b, o, none⟩ = some v := (hb.cell (World.block_lt_of_cell? w _ hc)).trans hc
theorem blk_free {w : World} {b : Nat} {cs : Array Value} {t : TypeId} (h : w.heap[b]? = some (.cells cs t (0, 0))) (k : Nat) : w.frozen? ⟨b, k, none⟩ = false := by simp [World.frozen?, h]
theorem cell0_of {w : World} {b : Nat} {cs : Array Value} {ty : TypeId} {v : Value} {k : Nat} (h : w.heap[b]? = some (.cells cs ty (0, 0))) (h0 : cs[k]? = some v) : w.cell? ⟨b, k, none⟩ = some v := by simp [World.cell?, h, h0]
theorem addz (g i : Nat) : (⟨g, 0, none⟩ : Addr).add i = ⟨g, i, none⟩ := by unfold Addr.add; split <;> simp_all
theorem set_other (w : World) (b o i : Nat) (u : Value) (h : i ≠ b) : (w.setCell ⟨b, o, none⟩ u).heap[i]? = w.heap[i]? := by
  simp only [World.setCell]
  rw [Array.getElem?_modify, if_neg (fun e => h e.symm)]
theorem row_shape {w : World} {base : Nat} {e : TypeId} {size : Nat} {v : Value} {n : Nat} {xs : List Value} (h : w.ownsRow base e size v n xs) : ∃ ao cap, v = .slice ao n cap := by
  rcases h.2 with ⟨rfl, h0⟩ | ⟨g, cap, cur, rfl, _⟩
  · exact ⟨none, 0, by rw [h0]⟩
  · exact ⟨_, _, rfl⟩
theorem trow_at {w w' : World} {base : Nat} {e : TypeId} {size : Nat} {v : Value} {n : Nat} {xs : List Value} (h : w.ownsRow base e size v n xs) (hb : ∀ i, v.ownBlock = some i → w'.heap[i]? = w.heap[i]?) : w'.ownsRow base e size v n xs := by
  refine ⟨h.1, ?_⟩
  rcases h.2 with h2 | ⟨g, cap, cur, rfl, h3, hg, h4⟩
  · exact .inl h2
  · exact .inr ⟨g, cap, cur, rfl, h3, by rw [hb g rfl]; exact hg, h4⟩
theorem row_base {w : World} {base base' : Nat} {e : TypeId} {size : Nat} {v : Value} {n : Nat} {xs : List Value} (h : w.ownsRow base e size v n xs) (hb : base' ≤ base) : w.ownsRow base' e size v n xs := by
  refine ⟨h.1, ?_⟩
  rcases h.2 with h2 | ⟨g, cap, cur, rfl, h3, hg, h4⟩
  · exact .inl h2
  · exact .inr ⟨g, cap, cur, rfl, by omega, hg, h4⟩
theorem row0 {w : World} {base : Nat} {e : TypeId} {size : Nat} {v : Value} {n : Nat} {xs : List Value} (h : w.ownsRow base e size v (0 + n) ([] ++ xs)) : w.ownsRow base e size v n xs := by simpa using h
theorem tgrown0 {w w1 : World} (hg : w.grownBy w1 (Value.slice none 0 0).ownBlock) : Below w.heap.size w w1 := ⟨hg.os, hg.tape, hg.output, hg.size, fun k hk => hg.block k hk (by simp [Value.ownBlock])⟩
theorem row_cells {w : World} {base : Nat} {e : TypeId} {size : Nat} {v : Value} {n : Nat} {xs : List Value} (h : w.ownsRow base e size v n xs) {i : Nat} (hi : v.ownBlock = some i) : ∃ c, w.heap[i]? = some (.cells c e (0, 0)) := by
  rcases h.2 with ⟨rfl, _⟩ | ⟨g, cap, cur, rfl, _, hg, _⟩
  · cases hi
  · simp only [Value.ownBlock, Option.some.injEq] at hi
    exact ⟨cur, hi ▸ hg⟩
/-- All blocks but those of F stand. -/
structure Kept (F : Nat → Prop) (w w' : World) : Prop where
  os : w'.os = w.os
  tape : w'.tape = w.tape
  output : w'.output = w.output
  size : w.heap.size ≤ w'.heap.size
  block : ∀ k, k < w.heap.size → ¬ F k → w'.heap[k]? = w.heap[k]?
theorem Kept.refl (F : Nat → Prop) (w : World) : Kept F w w := ⟨rfl, rfl, rfl, Nat.le_refl _, fun _ _ _ => rfl⟩
theorem Kept.trans {F : Nat → Prop} {a b c : World} (h : Kept F a b) (k : Kept F b c) : Kept F a c :=
  ⟨k.os.trans h.os, k.tape.trans h.tape, k.output.trans h.output, Nat.le_trans h.size k.size, fun i hi hf => (k.block i (Nat.lt_of_lt_of_le hi h.size) hf).trans (h.block i hi hf)⟩
theorem Kept.mono {F G : Nat → Prop} {a b : World} (h : Kept F a b) (hs : ∀ k, k < a.heap.size → F k → G k) : Kept G a b := ⟨h.os, h.tape, h.output, h.size, fun i hi hg => h.block i hi fun hf => hg (hs i hi hf)⟩
theorem Kept.of_below {F : Nat → Prop} {a b : World} (h : Below a.heap.size a b) : Kept F a b := ⟨h.os, h.tape, h.output, h.size, fun i hi _ => h.block i hi⟩
theorem Kept.of_grown {a b : World} {row : Option Nat} (h : a.grownBy b row) : Kept (fun i => row = some i) a b := ⟨h.os, h.tape, h.output, h.size, fun i hi hn => h.block i hi fun e => hn e.symm⟩
theorem Kept.below {F : Nat → Prop} {a b : World} (h : Kept F a b) {B : Nat} (hB : B ≤ a.heap.size) (hF : ∀ k, F k → B ≤ k) : Below B a b := ⟨h.os, h.tape, h.output, h.size, fun i hi => h.block i (by omega) fun hf => by have := hF i hf; omega⟩
theorem Kept.setCell (a : World) (b o : Nat) (u : Value) : Kept (fun i => i = b) a (a.setCell ⟨b, o, none⟩ u) := by
  have h : Below b a (a.setCell ⟨b, o, none⟩ u) := Below.setCell (Below.refl b a) (Nat.le_refl _) u
  exact ⟨h.os, h.tape, h.output, h.size, fun i _ hn => set_other _ _ _ _ _ hn⟩
theorem Kept.trans2 {F G : Nat → Prop} {a b c : World} (h : Kept F a b) (k : Kept G b c) (hG : ∀ i, G i → F i ∨ a.heap.size ≤ i) : Kept F a c :=
  ⟨k.os.trans h.os, k.tape.trans h.tape, k.output.trans h.output, Nat.le_trans h.size k.size, fun i hi hf => (k.block i (Nat.lt_of_lt_of_le hi h.size) fun hg => (hG i hg).elim hf fun h => by omega).trans (h.block i hi hf)⟩
theorem add_block (a : Addr) (i : Nat) : (a.add i).block = a.block := by unfold Addr.add; split <;> rfl
theorem cell_same {w w' : World} {a : Addr} {i : Nat} {v : Value} (hb : w'.heap[a.block]? = w.heap[a.block]?) (c : w.cell? (a.add i) = some v) : w'.cell? (a.add i) = some v := (World.cell?_of_block (a := a.add i) (by rw [add_block]; exact hb)).trans c
theorem block_lt3 {w : World} {a : Addr} {i : Nat} {v : Value} (c : w.cell? (a.add i) = some v) : a.block < w.heap.size := by have := World.block_lt_of_cell? w _ c; rw [add_block] at this; exact this
theorem below_of_drew3 {w w1 : World} (h : Below w.drew.heap.size w.drew w1) : Below w.heap.size w w1 := (Below.refl _ w).drew.trans h
/-- The value is a list of these numbers. -/
def HasI (w : World) (v : Value) (zs : List Int) : Prop := ∃ ao cap, v = .slice ao zs.length cap ∧ ∀ (i : Nat) (z : Int), zs[i]? = some z → ∃ a, ao = some a ∧ w.cell? (a.add i) = some (.int .i64 z)
theorem HasI.below {w w' : World} {v : Value} {zs : List Int} (h : HasI w v zs) (hb : Below w.heap.size w w') : HasI w' v zs := by
  obtain ⟨ao, cap, h1, h2⟩ := h
  refine ⟨ao, cap, h1, fun i p hi => ?_⟩
  obtain ⟨a, ha, c0⟩ := h2 i p hi
  exact ⟨a, ha, (hb.cell (World.block_lt_of_cell? w _ c0)).trans c0⟩
/-- The lists stand where other blocks turn. (Where a list has no element nothing is asked.) -/
theorem HasI.kept {w w' : World} {F : Nat → Prop} {v : Value} {zs : List Int} (h : HasI w v zs) (hk : Kept F w w') (hf : zs ≠ [] → ∀ i, v.ownBlock = some i → ¬ F i) : HasI w' v zs := by
  obtain ⟨ao, cap, rfl, h2⟩ := h
  refine ⟨ao, cap, rfl, fun i z hi => ?_⟩
  obtain ⟨a, rfl, c⟩ := h2 i z hi
  exact ⟨a, rfl, cell_same (hk.block _ (block_lt3 c) (hf (by rintro rfl; simp at hi) a.block rfl)) c⟩
theorem made_far {w : World} {v : Value} {zs : List Int} (h : HasI w v zs) (hz : zs ≠ []) {i : Nat} (hi : v.ownBlock = some i) : i < w.heap.size := by
  obtain ⟨ao, cap, rfl, h2⟩ := h
  cases zs with
  | nil => exact absurd rfl hz
  | cons z r =>
    obtain ⟨a, rfl, c⟩ := h2 0 z rfl
    have := block_lt3 c
    simp only [Value.ownBlock, Option.some.injEq] at hi
    omega
def iC (zs : List Int) : List Value := zs.map (Value.int .i64)
theorem iC_length (zs : List Int) : (iC zs).length = zs.length * 1 := by simp [iC]
theorem iC_one (zs : List Int) : ∀ u ∈ iC zs, u.oneCell' = true := fun u hu => by
  obtain ⟨z, _, rfl⟩ := List.mem_map.1 hu; rfl
/-- A row of numbers, a row of pairs: lists of the call's own. -/
def OwnI (w : World) (B : Nat) (v : Value) (zs : List Int) : Prop := w.ownsRow B 3 1 v zs.length (iC zs)
theorem OwnI.has {w : World} {B : Nat} {v : Value} {zs : List Int} (h : OwnI w B v zs) : HasI w v zs := by
  rcases h.2 with ⟨rfl, h0⟩ | ⟨g, cap, cur, rfl, _⟩
  · obtain rfl : zs = [] := List.eq_nil_of_length_eq_zero h0
    exact ⟨none, 0, rfl, fun i z hi => by simp at hi⟩
  · refine ⟨_, cap, rfl, fun i z hi => ⟨_, rfl, ?_⟩⟩
    have hlt := (List.getElem?_eq_some_iff.1 hi).1
    rw [addz, h.cellAt i (by omega)]
    simp [iC, hi]
theorem Tryd.infoI3 : (Tryd.prog.info? 3).map (fun i => (i.zero, i.size, i.bytes)) = some (some (.int .i64 0), 1, 8) := by kernel_rfl
theorem OwnI.cell {w : World} {B g cap n : Nat} {zs : List Int} (h : OwnI w B (.slice (some ⟨g, 0, none⟩) n cap) zs) {i : Nat} {z : Int} (hi : zs[i]? = some z) : w.cell? ⟨g, i, none⟩ = some (.int .i64 z) := by
  have hlt := (List.getElem?_eq_some_iff.1 hi).1
  obtain ⟨ao, cap', e, h2⟩ := h.has
  injection e with e1 e2 e3
  obtain ⟨a, ha, hc⟩ := h2 i z hi
  rw [← e1] at ha
  have := Option.some.inj ha
  rw [← this, addz] at hc
  exact hc
theorem iC_news {w : World} {a : Addr} {zs : List Int} (h : ∀ (i : Nat) (z : Int), zs[i]? = some z → w.cell? (a.add i) = some (.int .i64 z)) : ∀ j u, (iC zs)[j]? = some u → w.cell? (a.add j) = some u := by
  intro j u hu
  unfold iC at hu
  rw [List.getElem?_map] at hu
  cases e : zs[j]? with
  | none => rw [e] at hu; simp at hu
  | some z =>
    rw [e] at hu
    simp at hu
    subst hu
    exact h j z e
theorem HasI.none {w : World} {n cap : Nat} {zs : List Int} (h : HasI w (.slice none n cap) zs) : zs = [] ∧ n = 0 := by
  obtain ⟨ao, cap', h1, h2⟩ := h
  injection h1 with e1 e2 e3
  subst e1
  cases zs with
  | nil => exact ⟨rfl, e2⟩
  | cons z r => obtain ⟨a, h, _⟩ := h2 0 z rfl; cases h
theorem HasI.news {w : World} {a : Addr} {n cap : Nat} {zs : List Int} (h : HasI w (.slice (some a) n cap) zs) : n = zs.length ∧ ∀ j u, (iC zs)[j]? = some u → w.cell? (a.add j) = some u := by
  obtain ⟨ao, cap', h1, h2⟩ := h
  injection h1 with e1 e2 e3
  subst e1
  refine ⟨e2, iC_news fun i z hi => ?_⟩
  obtain ⟨a', ha, hc⟩ := h2 i z hi
  cases ha
  exact hc
theorem hasI_copy {w : World} {ao : Option Addr} {n cap : Nat} {zs : List Int} (h : HasI w (.slice ao n cap) zs) : (ao = none → n = 0) ∧ ∀ ad, ao = some ad → ∀ j u, (iC zs)[j]? = some u → w.cell? (ad.add j) = some u :=
  ⟨fun e => by subst e; exact h.none.2, fun ad e => by subst e; exact h.news.2⟩
theorem iC_snoc (zs : List Int) (z : Int) : iC (zs ++ [z]) = iC zs ++ [.int .i64 z] := by simp [iC]
theorem one_one (z : Int) : ∀ x ∈ [Value.int .i64 z], x.oneCell' = true := fun x hx => by rw [List.mem_singleton.1 hx]; rfl
theorem lines_belowI {w w2 w4 : World} {x : Obj} {v : Value} {n : Nat} {us : List Value} (h1 : w2.ownsRow w.heap.size 3 1 v n us) (hb : Below w.heap.size w w2) (hg : (w2.alloc x).grownBy w4 v.ownBlock) : Below w.heap.size w w4 :=
  (hb.alloc hb.size x).grown hg (by have := hb.size; simp; omega) (fun k hk => (h1.lt k hk).1)
theorem two_alloc (w : World) (o p : Obj) : ((w.alloc o).alloc p).heap[w.heap.size + 1]? = some p := by
  have h := (MapKept.heap_alloc (w.alloc o) p).1
  simpa using h
theorem take_succ_of {α : Type} {l : List α} {j : Nat} {x : α} (h : l[j]? = some x) : l.take (j + 1) = l.take j ++ [x] := by
  obtain ⟨hlt, rfl⟩ := List.getElem?_eq_some_iff.1 h
  exact List.take_succ_eq_append_getElem hlt
/-- The blocks of the lists. -/
def LsF (ls : List Value) (b : Nat) : Prop := ∃ l ∈ ls, l.ownBlock = some b
theorem set_same {α : Type} {l : List α} {i : Nat} {x : α} (h : l[i]? = some x) : l.set i x = l := by
  apply List.ext_getElem?
  intro k
  by_cases e : k = i
  · subst e; rw [List.getElem?_set_self (List.getElem?_eq_some_iff.1 h).1, h]
  · rw [List.getElem?_set_ne (fun e' => e e'.symm)]
theorem one_list (v : Value) (h : ∃ a n c, v = .slice a n c) : ∀ x ∈ [v], x.oneCell' = true := fun x hx => by
  rw [List.mem_singleton.1 hx]
  obtain ⟨a, n, c, rfl⟩ := h
  rfl
/-- 'append(nil, x...)' as one step of a region that draws. -/
theorem step_copy_at {P : Program} {ops : Array Oper} {o : Oper} {a : Act} (w : World) {K : Act → World → Prop} {Q : Exit → Act → World → Prop} {E : Prop}
    (hg : o.guard = none) (s x : Operand) (t : TypeId) (ho : o.op = Op.call { callee := Callee.builtin Builtin.append, args := #[s, x], argTypes := #[t, t] })
    (base : Nat) (e : TypeId) (i : TypeInfo) (z : Value) (size bytes : Nat) (ht : P.underlying t = some (.slice e)) (hi : P.info? e = some i) (hz : i.zero = some z)
    (hsize : i.size = size) (hby : i.bytes = bytes) (hzs : z.cells.size = size) (hsz : 0 < size) (hs : a.eval s = .slice none 0 0)
    (ao : Option Addr) (m c : Nat) (news : List Value) (hx : a.eval x = .slice ao m c) (hao : ao = none → m = 0) (hl : news.length = m * size) (hnews : ∀ ad, ao = some ad → ∀ j u, news[j]? = some u → w.cell? (ad.add j) = some u) (h1 : ∀ u ∈ news, u.oneCell' = true)
    (h63 : m ≤ maxLen) (hbytes : m * bytes ≤ 140737488355328) (hbase : base ≤ w.heap.size)
    (h : ∀ v' w', w'.ownsRow base e size v' m news → w.grownBy w' (Value.slice none 0 0).ownBlock → K (a.put o.dst v') w') :
    if Region.wanted o (yielded ops a.tmps) = true then Oper.wp P o a w K Q else E := by
  have hw : Region.wanted o (yielded ops a.tmps) = true := by simp [Region.wanted, hg]
  rw [if_pos hw]
  obtain ⟨v', w', hr, h2, h3, _⟩ := run_copy_at (P := P) w base t o.type e i z size bytes ht hi hz hsize hby hzs hsz ao m c news hao hl hnews h1 h63 hbytes hbase
  unfold Oper.wp
  simp [execOp, ho, resolve, invoke, builtin, hs, hx, hr, Result.andThen]
  exact h _ _ h2 h3
theorem own_ne {w : World} {B1 B2 : Nat} {e1 e2 : TypeId} {s1 s2 : Nat} {v1 v2 : Value} {n1 n2 : Nat} {x1 x2 : List Value} (h1 : w.ownsRow B1 e1 s1 v1 n1 x1) (h2 : w.ownsRow B2 e2 s2 v2 n2 x2) (hne : e1 ≠ e2) (k : Nat) (hk : v1.ownBlock = some k) : v2.ownBlock ≠ some k := fun h => by
  obtain ⟨c1, hc1⟩ := row_cells h1 hk
  obtain ⟨c2, hc2⟩ := row_cells h2 h
  rw [hc1] at hc2
  injection hc2 with e
  injection e with _ e
  exact hne e
theorem own_bk {w : World} {B : Nat} {e t : TypeId} {s : Nat} {v : Value} {n : Nat} {xs : List Value} {bk : Nat} {cs : Array Value} (h : w.ownsRow B e s v n xs) (hb : w.heap[bk]? = some (.cells cs t (0, 0))) (hne : e ≠ t) : v.ownBlock ≠ some bk := fun hk => by
  obtain ⟨c1, hc1⟩ := row_cells h hk
  rw [hc1] at hb
  injection hb with e
  injection e with _ e
  exact hne e
theorem grown_alloc {w w2 : World} {x : Obj} {r : Option Nat} (hg : (w.alloc x).grownBy w2 r) : Kept (fun b => r = some b) w w2 := (Kept.of_below ((Below.refl _ _).alloc (Nat.le_refl _) _)).trans (Kept.of_grown hg)
theorem own_up {w w' : World} {base : Nat} {e : TypeId} {size : Nat} {v : Value} {n : Nat} {xs : List Value} {F : Nat → Prop} (h : w.ownsRow base e size v n xs) (hk : Kept F w w') (hF : ∀ b, v.ownBlock = some b → ¬ F b) : w'.ownsRow base e size v n xs := trow_at h fun b hb => hk.block b (h.lt b hb).2 (hF b hb)
end Go.Proofs.YthfnikglcpoioaaDoor
