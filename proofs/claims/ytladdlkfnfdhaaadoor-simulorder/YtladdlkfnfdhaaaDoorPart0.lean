/- Texts of this claim, joined: Copy, Base, SyArr, BrPure, BrMem, BrOps. -/
import Derived.Test.YtladdlkfnfdhaaaDoorProg
import Derived.WalkKit
import Derived.Maps.AppendAt
import Derived.RowKitTokens
import Derived.WalkSmall
import Derived.ProofKit
import Derived.Maps.OwnSet
import Derived.Maps.Range
import Derived.OneCell
import Derived.DeepKeys4
import Derived.Deep.AppendLies
import Derived.Deep.RegionLaw
import Derived.Deep.RegionHeld3
import Derived.Deep.DrawnRows
import Derived.Deep.DeepCutAuto
import Derived.Deep.LoopGhost
import Derived.Below
import Derived.Laws.MakeOwn
import GoSem.Claim
import Derived.Laws.Bits64b
import Derived.Lib.TrailingZeros
namespace Go.Proofs.YtladdlkfnfdhaaaDoor
section
open Go.RowKit
theorem run_copy_at {P : Program} (w : World) (base : Nat) (t ty e : TypeId) (i : TypeInfo) (z : Value) (size bytes : Nat) (ht : P.underlying t = some (.slice e)) (hi : P.info? e = some i) (hz : i.zero = some z)
    (hsize : i.size = size) (hby : i.bytes = bytes) (hzs : z.cells.size = size) (hsz : 0 < size) (ao : Option Addr) (m c : Nat) (news : List Value) (hao : ao = none → m = 0) (hl : news.length = m * size)
    (hnews : ∀ ad, ao = some ad → ∀ j u, news[j]? = some u → w.cell? (ad.add j) = some u) (h1 : ∀ u ∈ news, u.oneCell' = true) (h63 : m ≤ maxLen) (hbytes : m * bytes ≤ 140737488355328) (hbase : base ≤ w.heap.size) :
    ∃ v' w', (Builtin.append_ #[t, t] ty #[.slice none 0 0, .slice ao m c]).run P w = .ok v' w' ∧ w'.ownsRow base e size v' m news ∧ w.grownBy w' (Value.slice none 0 0).ownBlock ∧ (v'.ownBlock = none ∨ v'.ownBlock = some w.heap.size) := by
  cases ao with
  | none =>
    obtain rfl := hao rfl
    obtain rfl : news = [] := List.eq_nil_of_length_eq_zero (by simpa using hl)
    refine ⟨.slice none 0 0, w, ?_, World.ownsRow_nil w base e size, ⟨rfl, rfl, rfl, Nat.le_refl _, fun _ _ _ => rfl⟩, Or.inl rfl⟩
    simp [Builtin.append_, run_underlying ht, sizeOf, typeInfo, hi, Builtin.lenOf, Builtin.firstCells]
  | some ad =>
    obtain ⟨v', w', hr, h2, h3, h4, h5⟩ := run_append_own_at (P := P) w base t ty e i z size bytes ht hi hz hsize hby hzs hsz (.slice none 0 0) 0 [] (World.ownsRow_nil _ _ _ _) ad m c news hl (hnews ad rfl) h1 (by simpa using h63) (by simpa using hbytes) hbase
    refine ⟨v', w', hr, by simpa using h2, h3, h5⟩
theorem wpList_copy_at {P : Program} (w : World) {ops : Array Oper} {rest : List Oper} {o : Oper} {a : Act} {Q : Exit → Act → World → Prop} (hgd : o.guard = none) (s x : Operand) (t : TypeId)
    (ho : o.op = .call { callee := .builtin .append, args := #[s, x], argTypes := #[t, t] })
    (base : Nat) (e : TypeId) (i : TypeInfo) (z : Value) (size bytes : Nat) (ht : P.underlying t = some (.slice e)) (hi : P.info? e = some i) (hz : i.zero = some z)
    (hsize : i.size = size) (hby : i.bytes = bytes) (hzs : z.cells.size = size) (hsz : 0 < size) (hs : a.eval s = .slice none 0 0)
    (ao : Option Addr) (m c : Nat) (news : List Value) (hx : a.eval x = .slice ao m c) (hao : ao = none → m = 0) (hl : news.length = m * size) (hnews : ∀ ad, ao = some ad → ∀ j u, news[j]? = some u → w.cell? (ad.add j) = some u) (h1 : ∀ u ∈ news, u.oneCell' = true)
    (h63 : m ≤ maxLen) (hbytes : m * bytes ≤ 140737488355328) (hbase : base ≤ w.heap.size)
    (h : ∀ v' w', w'.ownsRow base e size v' m news → w.grownBy w' (Value.slice none 0 0).ownBlock → (v'.ownBlock = none ∨ v'.ownBlock = some w.heap.size) → wpList P ops Q rest (a.put o.dst v') w') :
    wpList P ops Q (o :: rest) a w := by
  refine wpList_plain hgd fun K hK => ?_
  obtain ⟨v', w', hr, h2, h3, h4⟩ := run_copy_at (P := P) w base t o.type e i z size bytes ht hi hz hsize hby hzs hsz ao m c news hao hl hnews h1 h63 hbytes hbase
  unfold Oper.wp execOp
  simp only [ho, resolve, invoke, builtin, Sem.run_bind, Sem.run_pure, Result.andThen_ok, List.map_toArray, List.map_cons, List.map_nil, hs, hx, hr]
  exact hK _ _ (h v' w' h2 h3 h4)
end
section
open Go.RowKit Go.Maps
theorem t_lt {w : World} {b : Nat} {o : Obj} (h : w.heap[b]? = some o) : b < w.heap.size := (Array.getElem?_eq_some_iff.1 h).1
theorem cell_up {w W : World} {b o : Nat} {v : Value} (hc : w.cell? ⟨b, o, none⟩ = some v) (hb : Below w.heap.size w W) : W.cell? ⟨b, o, none⟩ = some v := (hb.cell (World.block_lt_of_cell? w _ hc)).trans hc
theorem blk_free {w : World} {b : Nat} {cs : Array Value} {t : TypeId} (h : w.heap[b]? = some (.cells cs t (0, 0))) (k : Nat) : w.frozen? ⟨b, k, none⟩ = false := by simp [World.frozen?, h]
theorem cell0_of {w : World} {b : Nat} {cs : Array Value} {ty : TypeId} {v : Value} {k : Nat} (h : w.heap[b]? = some (.cells cs ty (0, 0))) (h0 : cs[k]? = some v) : w.cell? ⟨b, k, none⟩ = some v := by simp [World.cell?, h, h0]
theorem addz (g i : Nat) : (⟨g, 0, none⟩ : Addr).add i = ⟨g, i, none⟩ := by unfold Addr.add; split <;> simp_all
theorem set_other (w : World) (b o i : Nat) (u : Value) (h : i ≠ b) : (w.setCell ⟨b, o, none⟩ u).heap[i]? = w.heap[i]? := by
  simp only [World.setCell]
  rw [Array.getElem?_modify, if_neg (fun e => h e.symm)]
theorem row_shape {w : World} {base : Nat} {e : TypeId} {size : Nat} {v : Value} {n : Nat} {xs : List Value} (h : w.ownsRow base e size v n xs) : ∃ ao cap, v = .slice ao n cap := by
  rcases h.2 with ⟨rfl, h0⟩ | ⟨g, cap, cur, rfl, _⟩
  · exact ⟨none, 0, by rw [h0]⟩
  · exact ⟨_, _, rfl⟩
theorem trow_at {w w' : World} {base : Nat} {e : TypeId} {size : Nat} {v : Value} {n : Nat} {xs : List Value} (h : w.ownsRow base e size v n xs) (hb : ∀ i, v.ownBlock = some i → w'.heap[i]? = w.heap[i]?) : w'.ownsRow base e size v n xs := by
  refine ⟨h.1, ?_⟩
  rcases h.2 with h2 | ⟨g, cap, cur, rfl, h3, hg, h4⟩
  · exact .inl h2
  · exact .inr ⟨g, cap, cur, rfl, h3, by rw [hb g rfl]; exact hg, h4⟩
theorem row_base {w : World} {base base' : Nat} {e : TypeId} {size : Nat} {v : Value} {n : Nat} {xs : List Value} (h : w.ownsRow base e size v n xs) (hb : base' ≤ base) : w.ownsRow base' e size v n xs := by
  refine ⟨h.1, ?_⟩
  rcases h.2 with h2 | ⟨g, cap, cur, rfl, h3, hg, h4⟩
  · exact .inl h2
  · exact .inr ⟨g, cap, cur, rfl, by omega, hg, h4⟩
theorem row0 {w : World} {base : Nat} {e : TypeId} {size : Nat} {v : Value} {n : Nat} {xs : List Value} (h : w.ownsRow base e size v (0 + n) ([] ++ xs)) : w.ownsRow base e size v n xs := by simpa using h
theorem tgrown0 {w w1 : World} (hg : w.grownBy w1 (Value.slice none 0 0).ownBlock) : Below w.heap.size w w1 := ⟨hg.os, hg.tape, hg.output, hg.size, fun k hk => hg.block k hk (by simp [Value.ownBlock])⟩
theorem row_cells {w : World} {base : Nat} {e : TypeId} {size : Nat} {v : Value} {n : Nat} {xs : List Value} (h : w.ownsRow base e size v n xs) {i : Nat} (hi : v.ownBlock = some i) : ∃ c, w.heap[i]? = some (.cells c e (0, 0)) := by
  rcases h.2 with ⟨rfl, _⟩ | ⟨g, cap, cur, rfl, _, hg, _⟩
  · cases hi
  · simp only [Value.ownBlock, Option.some.injEq] at hi
    exact ⟨cur, hi ▸ hg⟩
/-- All blocks but those of F stand. -/
structure Kept (F : Nat → Prop) (w w' : World) : Prop where
  os : w'.os = w.os
  tape : w'.tape = w.tape
  output : w'.output = w.output
  size : w.heap.size ≤ w'.heap.size
  block : ∀ k, k < w.heap.size → ¬ F k → w'.heap[k]? = w.heap[k]?
theorem Kept.refl (F : Nat → Prop) (w : World) : Kept F w w := ⟨rfl, rfl, rfl, Nat.le_refl _, fun _ _ _ => rfl⟩
theorem Kept.trans {F : Nat → Prop} {a b c : World} (h : Kept F a b) (k : Kept F b c) : Kept F a c :=
  ⟨k.os.trans h.os, k.tape.trans h.tape, k.output.trans h.output, Nat.le_trans h.size k.size, fun i hi hf => (k.block i (Nat.lt_of_lt_of_le hi h.size) hf).trans (h.block i hi hf)⟩
theorem Kept.mono {F G : Nat → Prop} {a b : World} (h : Kept F a b) (hs : ∀ k, k < a.heap.size → F k → G k) : Kept G a b := ⟨h.os, h.tape, h.output, h.size, fun i hi hg => h.block i hi fun hf => hg (hs i hi hf)⟩
theorem Kept.of_below {F : Nat → Prop} {a b : World} (h : Below a.heap.size a b) : Kept F a b := ⟨h.os, h.tape, h.output, h.size, fun i hi _ => h.block i hi⟩
theorem Kept.of_grown {a b : World} {row : Option Nat} (h : a.grownBy b row) : Kept (fun i => row = some i) a b := ⟨h.os, h.tape, h.output, h.size, fun i hi hn => h.block i hi fun e => hn e.symm⟩
theorem Kept.below {F : Nat → Prop} {a b : World} (h : Kept F a b) {B : Nat} (hB : B ≤ a.heap.size) (hF : ∀ k, F k → B ≤ k) : Below B a b := ⟨h.os, h.tape, h.output, h.size, fun i hi => h.block i (by omega) fun hf => by have := hF i hf; omega⟩
theorem Kept.setCell (a : World) (b o : Nat) (u : Value) : Kept (fun i => i = b) a (a.setCell ⟨b, o, none⟩ u) := by
  have h : Below b a (a.setCell ⟨b, o, none⟩ u) := Below.setCell (Below.refl b a) (Nat.le_refl _) u
  exact ⟨h.os, h.tape, h.output, h.size, fun i _ hn => set_other _ _ _ _ _ hn⟩
theorem Kept.trans2 {F G : Nat → Prop} {a b c : World} (h : Kept F a b) (k : Kept G b c) (hG : ∀ i, G i → F i ∨ a.heap.size ≤ i) : Kept F a c :=
  ⟨k.os.trans h.os, k.tape.trans h.tape, k.output.trans h.output, Nat.le_trans h.size k.size, fun i hi hf => (k.block i (Nat.lt_of_lt_of_le hi h.size) fun hg => (hG i hg).elim hf fun h => by omega).trans (h.block i hi hf)⟩
theorem add_block (a : Addr) (i : Nat) : (a.add i).block = a.block := by unfold Addr.add; split <;> rfl
theorem cell_same {w w' : World} {a : Addr} {i : Nat} {v : Value} (hb : w'.heap[a.block]? = w.heap[a.block]?) (c : w.cell? (a.add i) = some v) : w'.cell? (a.add i) = some v := (World.cell?_of_block (a := a.add i) (by rw [add_block]; exact hb)).trans c
theorem block_lt3 {w : World} {a : Addr} {i : Nat} {v : Value} (c : w.cell? (a.add i) = some v) : a.block < w.heap.size := by have := World.block_lt_of_cell? w _ c; rw [add_block] at this; exact this
theorem below_of_drew3 {w w1 : World} (h : Below w.drew.heap.size w.drew w1) : Below w.heap.size w w1 := (Below.refl _ w).drew.trans h
/-- The value is a list of these numbers. -/
def HasI (w : World) (v : Value) (zs : List Int) : Prop := ∃ ao cap, v = .slice ao zs.length cap ∧ ∀ (i : Nat) (z : Int), zs[i]? = some z → ∃ a, ao = some a ∧ w.cell? (a.add i) = some (.int .i64 z)
theorem HasI.below {w w' : World} {v : Value} {zs : List Int} (h : HasI w v zs) (hb : Below w.heap.size w w') : HasI w' v zs := by
  obtain ⟨ao, cap, h1, h2⟩ := h
  refine ⟨ao, cap, h1, fun i p hi => ?_⟩
  obtain ⟨a, ha, c0⟩ := h2 i p hi
  exact ⟨a, ha, (hb.cell (World.block_lt_of_cell? w _ c0)).trans c0⟩
/-- The lists stand where other blocks turn. (Where a list has no element nothing is asked.) -/
theorem HasI.kept {w w' : World} {F : Nat → Prop} {v : Value} {zs : List Int} (h : HasI w v zs) (hk : Kept F w w') (hf : zs ≠ [] → ∀ i, v.ownBlock = some i → ¬ F i) : HasI w' v zs := by
  obtain ⟨ao, cap, rfl, h2⟩ := h
  refine ⟨ao, cap, rfl, fun i z hi => ?_⟩
  obtain ⟨a, rfl, c⟩ := h2 i z hi
  exact ⟨a, rfl, cell_same (hk.block _ (block_lt3 c) (hf (by rintro rfl; simp at hi) a.block rfl)) c⟩
theorem made_far {w : World} {v : Value} {zs : List Int} (h : HasI w v zs) (hz : zs ≠ []) {i : Nat} (hi : v.ownBlock = some i) : i < w.heap.size := by
  obtain ⟨ao, cap, rfl, h2⟩ := h
  cases zs with
  | nil => exact absurd rfl hz
  | cons z r =>
    obtain ⟨a, rfl, c⟩ := h2 0 z rfl
    have := block_lt3 c
    simp only [Value.ownBlock, Option.some.injEq] at hi
    omega
def iC (zs : List Int) : List Value := zs.map (Value.int .i64)
theorem iC_length (zs : List Int) : (iC zs).length = zs.length * 1 := by simp [iC]
theorem iC_one (zs : List Int) : ∀ u ∈ iC zs, u.oneCell' = true := fun u hu => by
  obtain ⟨z, _, rfl⟩ := List.mem_map.1 hu; rfl
/-- A row of numbers, a row of pairs: lists of the call's own. -/
def OwnI (w : World) (B : Nat) (v : Value) (zs : List Int) : Prop := w.ownsRow B 3 1 v zs.length (iC zs)
theorem OwnI.has {w : World} {B : Nat} {v : Value} {zs : List Int} (h : OwnI w B v zs) : HasI w v zs := by
  rcases h.2 with ⟨rfl, h0⟩ | ⟨g, cap, cur, rfl, _⟩
  · obtain rfl : zs = [] := List.eq_nil_of_length_eq_zero h0
    exact ⟨none, 0, rfl, fun i z hi => by simp at hi⟩
  · refine ⟨_, cap, rfl, fun i z hi => ⟨_, rfl, ?_⟩⟩
    have hlt := (List.getElem?_eq_some_iff.1 hi).1
    rw [addz, h.cellAt i (by omega)]
    simp [iC, hi]
theorem Tryd.infoI3 : (Tryd.prog.info? 3).map (fun i => (i.zero, i.size, i.bytes)) = some (some (.int .i64 0), 1, 8) := by kernel_rfl
theorem OwnI.cell {w : World} {B g cap n : Nat} {zs : List Int} (h : OwnI w B (.slice (some ⟨g, 0, none⟩) n cap) zs) {i : Nat} {z : Int} (hi : zs[i]? = some z) : w.cell? ⟨g, i, none⟩ = some (.int .i64 z) := by
  have hlt := (List.getElem?_eq_some_iff.1 hi).1
  obtain ⟨ao, cap', e, h2⟩ := h.has
  injection e with e1 e2 e3
  obtain ⟨a, ha, hc⟩ := h2 i z hi
  rw [← e1] at ha
  have := Option.some.inj ha
  rw [← this, addz] at hc
  exact hc
theorem iC_news {w : World} {a : Addr} {zs : List Int} (h : ∀ (i : Nat) (z : Int), zs[i]? = some z → w.cell? (a.add i) = some (.int .i64 z)) : ∀ j u, (iC zs)[j]? = some u → w.cell? (a.add j) = some u := by
  intro j u hu
  unfold iC at hu
  rw [List.getElem?_map] at hu
  cases e : zs[j]? with
  | none => rw [e] at hu; simp at hu
  | some z =>
    rw [e] at hu
    simp at hu
    subst hu
    exact h j z e
theorem HasI.none {w : World} {n cap : Nat} {zs : List Int} (h : HasI w (.slice none n cap) zs) : zs = [] ∧ n = 0 := by
  obtain ⟨ao, cap', h1, h2⟩ := h
  injection h1 with e1 e2 e3
  subst e1
  cases zs with
  | nil => exact ⟨rfl, e2⟩
  | cons z r => obtain ⟨a, h, _⟩ := h2 0 z rfl; cases h
theorem HasI.news {w : World} {a : Addr} {n cap : Nat} {zs : List Int} (h : HasI w (.slice (some a) n cap) zs) : n = zs.length ∧ ∀ j u, (iC zs)[j]? = some u → w.cell? (a.add j) = some u := by
  obtain ⟨ao, cap', h1, h2⟩ := h
  injection h1 with e1 e2 e3
  subst e1
  refine ⟨e2, iC_news fun i z hi => ?_⟩
  obtain ⟨a', ha, hc⟩ := h2 i z hi
  cases ha
  exact hc
theorem hasI_copy {w : World} {ao : Option Addr} {n cap : Nat} {zs : List Int} (h : HasI w (.slice ao n cap) zs) : (ao = none → n = 0) ∧ ∀ ad, ao = some ad → ∀ j u, (iC zs)[j]? = some u → w.cell? (ad.add j) = some u :=
  ⟨fun e => by subst e; exact h.none.2, fun ad e => by subst e; exact h.news.2⟩
theorem iC_snoc (zs : List Int) (z : Int) : iC (zs ++ [z]) = iC zs ++ [.int .i64 z] := by simp [iC]
theorem one_one (z : Int) : ∀ x ∈ [Value.int .i64 z], x.oneCell' = true := fun x hx => by rw [List.mem_singleton.1 hx]; rfl
theorem lines_belowI {w w2 w4 : World} {x : Obj} {v : Value} {n : Nat} {us : List Value} (h1 : w2.ownsRow w.heap.size 3 1 v n us) (hb : Below w.heap.size w w2) (hg : (w2.alloc x).grownBy w4 v.ownBlock) : Below w.heap.size w w4 :=
  (hb.alloc hb.size x).grown hg (by have := hb.size; simp; omega) (fun k hk => (h1.lt k hk).1)
theorem two_alloc (w : World) (o p : Obj) : ((w.alloc o).alloc p).heap[w.heap.size + 1]? = some p := by
  have h := (MapKept.heap_alloc (w.alloc o) p).1
  simpa using h
theorem take_succ_of {α : Type} {l : List α} {j : Nat} {x : α} (h : l[j]? = some x) : l.take (j + 1) = l.take j ++ [x] := by
  obtain ⟨hlt, rfl⟩ := List.getElem?_eq_some_iff.1 h
  exact List.take_succ_eq_append_getElem hlt
/-- The blocks of the lists. -/
def LsF (ls : List Value) (b : Nat) : Prop := ∃ l ∈ ls, l.ownBlock = some b
theorem set_same {α : Type} {l : List α} {i : Nat} {x : α} (h : l[i]? = some x) : l.set i x = l := by
  apply List.ext_getElem?
  intro k
  by_cases e : k = i
  · subst e; rw [List.getElem?_set_self (List.getElem?_eq_some_iff.1 h).1, h]
  · rw [List.getElem?_set_ne (fun e' => e e'.symm)]
theorem one_list (v : Value) (h : ∃ a n c, v = .slice a n c) : ∀ x ∈ [v], x.oneCell' = true := fun x hx => by
  rw [List.mem_singleton.1 hx]
  obtain ⟨a, n, c, rfl⟩ := h
  rfl
/-- 'append(nil, x...)' as one step of a region that draws. -/
theorem step_copy_at {P : Program} {ops : Array Oper} {o : Oper} {a : Act} (w : World) {K : Act → World → Prop} {Q : Exit → Act → World → Prop} {E : Prop}
    (hg : o.guard = none) (s x : Operand) (t : TypeId) (ho : o.op = Op.call { callee := Callee.builtin Builtin.append, args := #[s, x], argTypes := #[t, t] })
    (base : Nat) (e : TypeId) (i : TypeInfo) (z : Value) (size bytes : Nat) (ht : P.underlying t = some (.slice e)) (hi : P.info? e = some i) (hz : i.zero = some z)
    (hsize : i.size = size) (hby : i.bytes = bytes) (hzs : z.cells.size = size) (hsz : 0 < size) (hs : a.eval s = .slice none 0 0)
    (ao : Option Addr) (m c : Nat) (news : List Value) (hx : a.eval x = .slice ao m c) (hao : ao = none → m = 0) (hl : news.length = m * size) (hnews : ∀ ad, ao = some ad → ∀ j u, news[j]? = some u → w.cell? (ad.add j) = some u) (h1 : ∀ u ∈ news, u.oneCell' = true)
    (h63 : m ≤ maxLen) (hbytes : m * bytes ≤ 140737488355328) (hbase : base ≤ w.heap.size)
    (h : ∀ v' w', w'.ownsRow base e size v' m news → w.grownBy w' (Value.slice none 0 0).ownBlock → K (a.put o.dst v') w') :
    if Region.wanted o (yielded ops a.tmps) = true then Oper.wp P o a w K Q else E := by
  have hw : Region.wanted o (yielded ops a.tmps) = true := by simp [Region.wanted, hg]
  rw [if_pos hw]
  obtain ⟨v', w', hr, h2, h3, _⟩ := run_copy_at (P := P) w base t o.type e i z size bytes ht hi hz hsize hby hzs hsz ao m c news hao hl hnews h1 h63 hbytes hbase
  unfold Oper.wp
  simp [execOp, ho, resolve, invoke, builtin, hs, hx, hr, Result.andThen]
  exact h _ _ h2 h3
theorem own_ne {w : World} {B1 B2 : Nat} {e1 e2 : TypeId} {s1 s2 : Nat} {v1 v2 : Value} {n1 n2 : Nat} {x1 x2 : List Value} (h1 : w.ownsRow B1 e1 s1 v1 n1 x1) (h2 : w.ownsRow B2 e2 s2 v2 n2 x2) (hne : e1 ≠ e2) (k : Nat) (hk : v1.ownBlock = some k) : v2.ownBlock ≠ some k := fun h => by
  obtain ⟨c1, hc1⟩ := row_cells h1 hk
  obtain ⟨c2, hc2⟩ := row_cells h2 h
  rw [hc1] at hc2
  injection hc2 with e
  injection e with _ e
  exact hne e
theorem own_bk {w : World} {B : Nat} {e t : TypeId} {s : Nat} {v : Value} {n : Nat} {xs : List Value} {bk : Nat} {cs : Array Value} (h : w.ownsRow B e s v n xs) (hb : w.heap[bk]? = some (.cells cs t (0, 0))) (hne : e ≠ t) : v.ownBlock ≠ some bk := fun hk => by
  obtain ⟨c1, hc1⟩ := row_cells h hk
  rw [hc1] at hb
  injection hb with e
  injection e with _ e
  exact hne e
theorem grown_alloc {w w2 : World} {x : Obj} {r : Option Nat} (hg : (w.alloc x).grownBy w2 r) : Kept (fun b => r = some b) w w2 := (Kept.of_below ((Below.refl _ _).alloc (Nat.le_refl _) _)).trans (Kept.of_grown hg)
theorem own_up {w w' : World} {base : Nat} {e : TypeId} {size : Nat} {v : Value} {n : Nat} {xs : List Value} {F : Nat → Prop} (h : w.ownsRow base e size v n xs) (hk : Kept F w w') (hF : ∀ b, v.ownBlock = some b → ¬ F b) : w'.ownsRow base e size v n xs := trow_at h fun b hb => hk.block b (h.lt b hb).2 (hF b hb)
end
section
open Go.RowKit Go.Maps
/-- A block of one's own, made since w, that holds just these cells. -/
structure Arr (ty : TypeId) (w wr : World) (gi : Nat) (vs : List Value) : Prop where
  bl : Below w.heap.size w wr
  ids : ∃ cs, wr.heap[gi]? = some (.cells cs ty (0, 0)) ∧ cs.toList = vs
  gu : w.heap.size ≤ gi
theorem Arr.lt {ty : TypeId} {w wr : World} {gi : Nat} {vs : List Value} (h : Arr ty w wr gi vs) : gi < wr.heap.size := by
  obtain ⟨cs, hc, _⟩ := h.ids
  exact t_lt hc
theorem Arr.below {ty : TypeId} {w wr w' : World} {gi : Nat} {vs : List Value} (h : Arr ty w wr gi vs) (hb : Below wr.heap.size wr w') : Arr ty w w' gi vs := by
  obtain ⟨cs, hc, hx⟩ := h.ids
  exact ⟨h.bl.trans (hb.mono h.bl.size), ⟨cs, (hb.block _ (t_lt hc)).trans hc, hx⟩, h.gu⟩
/-- Other blocks that are new turn. -/
theorem Arr.kept {ty : TypeId} {w wr w' : World} {gi : Nat} {vs : List Value} {F : Nat → Prop} (h : Arr ty w wr gi vs) (hk : Kept F wr w') (hF : ∀ b, F b → w.heap.size ≤ b ∧ b ≠ gi) : Arr ty w w' gi vs := by
  obtain ⟨cs, hc, hx⟩ := h.ids
  exact ⟨h.bl.trans (hk.below h.bl.size fun b hb => (hF b hb).1), ⟨cs, (hk.block _ (t_lt hc) fun hf => (hF gi hf).2 rfl).trans hc, hx⟩, h.gu⟩
theorem Arr.cell {ty : TypeId} {w wr : World} {gi : Nat} {vs : List Value} (h : Arr ty w wr gi vs) {i : Nat} {x : Value} (hi : vs[i]? = some x) : wr.cell? ⟨gi, i, none⟩ = some x := by
  obtain ⟨cs, hc, hx⟩ := h.ids
  refine cell0_of hc ?_
  rw [← Array.getElem?_toList, hx]
  exact hi
theorem Arr.free {ty : TypeId} {w wr : World} {gi : Nat} {vs : List Value} (h : Arr ty w wr gi vs) (i : Nat) : wr.frozen? ⟨gi, i, none⟩ = false := by
  obtain ⟨cs, hc, hx⟩ := h.ids
  exact blk_free hc i
theorem Arr.set {ty : TypeId} {w wr : World} {gi : Nat} {vs : List Value} (h : Arr ty w wr gi vs) (i : Nat) (x : Value) : Arr ty w (wr.setCell ⟨gi, i, none⟩ x) gi (vs.set i x) := by
  obtain ⟨cs, hc, hx⟩ := h.ids
  refine ⟨h.bl.setCell h.gu _, ⟨_, heap_setCell_same wr gi i cs _ _ hc, ?_⟩, h.gu⟩
  rw [Array.toList_setIfInBounds, hx]
theorem Arr.back {ty : TypeId} {w w1 wr : World} {g : Nat} {vs : List Value} (h : Arr ty w1 wr g vs) (hb : Below w.heap.size w w1) : Arr ty w wr g vs := ⟨hb.trans (h.bl.mono hb.size), h.ids, Nat.le_trans hb.size h.gu⟩
/-- It is a row of one's own. -/
theorem Arr.own {ty : TypeId} {w wr : World} {gi : Nat} {vs : List Value} (h : Arr ty w wr gi vs) (hn : vs.length ≤ maxLen) : wr.ownsRow w.heap.size ty 1 (.slice (some ⟨gi, 0, none⟩) vs.length vs.length) vs.length vs := by
  obtain ⟨cs, hc, hx⟩ := h.ids
  refine ⟨by rw [Nat.mul_one], .inr ⟨gi, vs.length, cs, rfl, h.gu, hc, Nat.le_refl _, hn, ?_, ?_⟩⟩
  · rw [← hx]; simp
  · rw [hx]; simp
/-- The cells of a new list of n noughts. -/
def madeV (z : Value) (n : Nat) : Array Value := madeCells z.cells (n * 1)
theorem madeV_eq (z : Value) (hz : z.cells = #[z]) (n : Nat) : (madeV z n).toList = List.replicate n z := by
  apply List.ext_getElem
  · simp [madeV, madeCells]
  · intro i h1 h2
    simp [madeV, madeCells, hz, Nat.mod_one]
theorem arr_new (ty : TypeId) (z : Value) (hz : z.cells = #[z]) (n : Nat) (w : World) : Arr ty w (w.alloc (.cells (madeV z n) ty)) w.heap.size (List.replicate n z) := ⟨(Below.refl _ _).alloc (Nat.le_refl _) _, ⟨_, (MapKept.heap_alloc w _).1, madeV_eq z hz n⟩, Nat.le_refl _⟩
theorem make_of (t e : TypeId) (z : Value) (by8 : Nat) (ht : Tryd.prog.underlying t = some (.slice e)) (hi : (Tryd.prog.info? e).map (fun i => (i.zero, i.size, i.bytes)) = some (some z, 1, by8)) (n : Nat) (hn : n ≤ 1000000) (hby : by8 ≤ 100) (w : World) : (Instr.makeSlice t (.int .i64 (n : Int)) (.int .i64 (n : Int))).run Tryd.prog w = .ok (.slice (some ⟨w.heap.size, 0, none⟩) n n) (w.alloc (.cells (madeV z n) e)) := by
  obtain ⟨i0, hi0, hz0, hz1, hz2⟩ := info_parts hi
  have hm : n * by8 ≤ 1000000 * 100 := Nat.mul_le_mul hn hby
  have h := run_makeSlice (P := Tryd.prog) w t e i0 z ht hi0 hz0 .i64 .i64 (n : Int) (n : Int) (by omega) (Int.le_refl _) (by rw [hz1]; omega) (by rw [hz2]; have h9 : (by8 : Int) * (n : Int) ≤ 100000000 := (by rw [Int.mul_comm]; exact Int.ofNat_le.2 hm); omega) (by omega)
  rw [h, hz1]
  simp [madeV]
theorem Tryd.infoI4 : (Tryd.prog.info? 3).map (fun i => (i.zero, i.size, i.bytes)) = some (some (.int .i64 0), 1, 8) := by kernel_rfl
theorem makeI (n : Nat) (hn : n ≤ 1000000) (w : World) : (Instr.makeSlice 30 (.int .i64 (n : Int)) (.int .i64 (n : Int))).run Tryd.prog w = .ok (.slice (some ⟨w.heap.size, 0, none⟩) n n) (w.alloc (.cells (madeV (.int .i64 0) n) 3)) := make_of _ _ _ 8 Tryd.underlying30 Tryd.infoI4 n hn (by decide) w
theorem Tryd.infoB4 : (Tryd.prog.info? 4).map (fun i => (i.zero, i.size, i.bytes)) = some (some (.bool false), 1, 1) := by kernel_rfl
theorem makeB (n : Nat) (hn : n ≤ 1000000) (w : World) : (Instr.makeSlice 35 (.int .i64 (n : Int)) (.int .i64 (n : Int))).run Tryd.prog w = .ok (.slice (some ⟨w.heap.size, 0, none⟩) n n) (w.alloc (.cells (madeV (.bool false) n) 4)) := make_of _ _ _ 1 Tryd.underlying35 Tryd.infoB4 n hn (by decide) w
end
namespace Br
def wdF (S : Nat → Bool) (b : Nat) : Nat → Nat
  | 0 => 0
  | k + 1 => wdF S b k ||| (if S (b + k) then 2 ^ k else 0)
/-- The i-th word of a set. -/
def wd (S : Nat → Bool) (i : Nat) : Nat := wdF S (64 * i) 64
theorem wdF_bit (S : Nat → Bool) (b k j : Nat) : (wdF S b k).testBit j = (decide (j < k) && S (b + j)) := by
  induction k with
  | zero => simp [wdF]
  | succ k ih =>
    unfold wdF
    rw [Nat.testBit_or, ih]
    by_cases e : j = k
    · subst e
      cases h : S (b + j) <;> simp
    · have h1 : (if S (b + k) then 2 ^ k else 0).testBit j = false := by
        split
        · rw [Nat.testBit_two_pow]; simp; omega
        · simp
      rw [h1, Bool.or_false]
      congr 1
      simp only [decide_eq_decide]
      omega
theorem wd_bit (S : Nat → Bool) (i j : Nat) : (wd S i).testBit j = (decide (j < 64) && S (64 * i + j)) := wdF_bit S _ 64 j
theorem wd_lt (S : Nat → Bool) (i : Nat) : wd S i < 18446744073709551616 := by
  have h : wd S i < 2 ^ 64 := Nat.lt_pow_two_of_testBit _ fun j hj => by rw [wd_bit]; simp; omega
  exact h
theorem wd_congr {S T : Nat → Bool} {i : Nat} (h : ∀ q, q / 64 = i → S q = T q) : wd S i = wd T i := by
  apply Nat.eq_of_testBit_eq
  intro j
  rw [wd_bit, wd_bit]
  by_cases hj : j < 64
  · rw [h (64 * i + j) (by omega)]
  · simp [hj]
theorem wd_eq {S T : Nat → Bool} {i : Nat} (h : wd S i = wd T i) (q : Nat) (hq : q / 64 = i) : S q = T q := by
  have h1 := congrArg (fun x => x.testBit (q % 64)) h
  simp only [wd_bit] at h1
  have h2 : q % 64 < 64 := Nat.mod_lt _ (by decide)
  have h3 : 64 * i + q % 64 = q := by omega
  rw [h3] at h1
  simpa [h2] using h1
theorem wd_or (S T : Nat → Bool) (i : Nat) : wd S i ||| wd T i = wd (fun q => S q || T q) i := by
  apply Nat.eq_of_testBit_eq
  intro j
  rw [Nat.testBit_or, wd_bit, wd_bit, wd_bit]
  cases decide (j < 64) <;> simp
theorem wd_and (S T : Nat → Bool) (i : Nat) : wd S i &&& wd T i = wd (fun q => S q && T q) i := by
  apply Nat.eq_of_testBit_eq
  intro j
  rw [Nat.testBit_and, wd_bit, wd_bit, wd_bit]
  cases decide (j < 64) <;> simp
theorem wd_zero (S : Nat → Bool) (i : Nat) : wd S i = 0 ↔ ∀ q, q / 64 = i → S q = false := by
  constructor
  · intro h q hq
    have h1 := wd_bit S i (q % 64)
    rw [h] at h1
    have h2 : q % 64 < 64 := Nat.mod_lt _ (by decide)
    have h3 : 64 * i + q % 64 = q := by omega
    rw [h3] at h1
    simpa [h2] using h1.symm
  · intro h
    apply Nat.eq_of_testBit_eq
    intro j
    rw [wd_bit]
    by_cases hj : j < 64
    · rw [h (64 * i + j) (by omega)]; simp
    · simp [hj]
theorem wd_one (S : Nat → Bool) (n : Nat) : wd S (n / 64) ||| 2 ^ (n % 64) = wd (fun q => S q || decide (q = n)) (n / 64) := by
  apply Nat.eq_of_testBit_eq
  intro j
  rw [Nat.testBit_or, wd_bit, wd_bit, Nat.testBit_two_pow]
  have h2 : n % 64 < 64 := Nat.mod_lt _ (by decide)
  by_cases hj : j < 64
  · have : decide (64 * (n / 64) + j = n) = decide (n % 64 = j) := by simp only [decide_eq_decide]; omega
    simp only [hj, decide_true, Bool.true_and, this]
  · have : decide (n % 64 = j) = false := by simp; omega
    simp [hj, this]
theorem wd_has (S : Nat → Bool) (n : Nat) : wd S (n / 64) / 2 ^ (n % 64) &&& 1 = if S n then 1 else 0 := by
  rw [Nat.and_one_is_mod]
  have h1 := wd_bit S (n / 64) (n % 64)
  have h2 : n % 64 < 64 := Nat.mod_lt _ (by decide)
  have h3 : 64 * (n / 64) + n % 64 = n := by omega
  rw [h3] at h1
  rw [Nat.testBit_eq_decide_div_mod_eq] at h1
  simp only [h2, decide_true, Bool.true_and] at h1
  cases hs : S n with
  | true => rw [hs] at h1; simpa using h1
  | false => rw [hs] at h1; simp at h1; simp; omega
/-- andNot over words. -/
theorem wd_andNot (S T : Nat → Bool) (i : Nat) : bits .andNot .u64 (wd S i : Int) (wd T i : Int) = ((wd (fun q => S q && !T q) i : Nat) : Int) := by
  have h1 : (BitVec.ofInt 64 (wd S i : Int)).toNat = wd S i := by
    rw [BitVec.ofInt_natCast, BitVec.toNat_ofNat]; exact Nat.mod_eq_of_lt (wd_lt S i)
  have h2 : (BitVec.ofInt 64 (wd T i : Int)).toNat = wd T i := by
    rw [BitVec.ofInt_natCast, BitVec.toNat_ofNat]; exact Nat.mod_eq_of_lt (wd_lt T i)
  show IntKind.u64.wrap ((BitVec.ofInt 64 (wd S i : Int) &&& ~~~BitVec.ofInt 64 (wd T i : Int)).toNat : Int) = _
  have h3 : (BitVec.ofInt 64 (wd S i : Int) &&& ~~~BitVec.ofInt 64 (wd T i : Int)).toNat = wd (fun q => S q && !T q) i := by
    apply Nat.eq_of_testBit_eq
    intro j
    rw [wd_bit]
    rw [BitVec.testBit_toNat, BitVec.getLsbD_and, BitVec.getLsbD_not, ← BitVec.testBit_toNat, ← BitVec.testBit_toNat, h1, h2, wd_bit, wd_bit]
    by_cases hj : j < 64 <;> simp [hj]
  rw [h3]
  have := wd_lt (fun q => S q && !T q) i
  rw [IntKind.wrap_u64]
  omega
theorem b_and (S T : Nat → Bool) (i : Nat) : bits .and .u64 (wd S i : Int) (wd T i : Int) = ((wd (fun q => S q && T q) i : Nat) : Int) := by
  rw [bits_and_u64_nat _ _ (wd_lt S i) (wd_lt T i), wd_and]
theorem b_or (S T : Nat → Bool) (i : Nat) : bits .or .u64 (wd S i : Int) (wd T i : Int) = ((wd (fun q => S q || T q) i : Nat) : Int) := by
  rw [bits_or_u64_nat _ _ (wd_lt S i) (wd_lt T i), wd_or]
/-- The rest of a set. -/
def frm (S : Nat → Bool) (k : Nat) : Nat → Bool := fun q => S q && decide (k ≤ q)
/-- The lowest bit. -/
theorem low_bit {x : Nat} (h0 : x ≠ 0) (h : x < 2 ^ 64) : Lib.ctz 64 x < 64 ∧ x.testBit (Lib.ctz 64 x) = true ∧ (∀ j, j < Lib.ctz 64 x → x.testBit j = false) ∧ ∀ j, (x &&& (x - 1)).testBit j = (x.testBit j && decide (j ≠ Lib.ctz 64 x)) := by
  obtain ⟨m, hm, hk⟩ := Lib.ctzFrom_spec 64 x (by omega) h
  have e : Lib.ctz 64 x = Lib.ctzFrom 64 x := by simp [Lib.ctz, h0]
  rw [e]
  obtain ⟨k, hkk⟩ : ∃ k, k = Lib.ctzFrom 64 x := ⟨_, rfl⟩
  rw [← hkk] at hm hk ⊢
  have hp : 0 < 2 ^ k := Nat.two_pow_pos k
  have hx : ∀ j, x.testBit j = if j < k then false else (2 * m + 1).testBit (j - k) := fun j => by
    have := Nat.testBit_two_pow_mul_add (2 * m + 1) hp j
    rw [Nat.add_zero, ← hm] at this
    rw [this]
    simp
  have hx1 : x - 1 = 2 ^ k * (2 * m) + (2 ^ k - 1) := by rw [hm, Nat.mul_add]; omega
  have hy : ∀ j, (x - 1).testBit j = if j < k then (2 ^ k - 1).testBit j else (2 * m).testBit (j - k) := fun j => by
    rw [hx1]
    exact Nat.testBit_two_pow_mul_add (2 * m) (Nat.sub_lt hp (by decide)) j
  refine ⟨hk, ?_, fun j hj => ?_, fun j => ?_⟩
  · rw [hx, if_neg (by omega), Nat.sub_self]; simp
  · rw [hx, if_pos hj]
  · rw [Nat.testBit_and, hx, hy]
    by_cases h1 : j < k
    · simp [h1]
    · by_cases h2 : j = k
      · subst h2; simp
      · rw [if_neg h1, if_neg h1]
        obtain ⟨d, hd⟩ : ∃ d, j - k = d + 1 := ⟨j - k - 1, by omega⟩
        rw [hd, Nat.testBit_succ, Nat.testBit_succ, show (2 * m + 1) / 2 = m by omega, show 2 * m / 2 = m by omega]
        simp [h2]
/-- The lowest number of a word, and what is left. -/
theorem wd_low {S : Nat → Bool} {i k : Nat} (h0 : wd (frm S k) i ≠ 0) : ∃ q, q = 64 * i + Lib.ctz 64 (wd (frm S k) i) ∧ q < 64 * (i + 1) ∧ k ≤ q ∧ S q = true ∧ (∀ z, z / 64 = i → k ≤ z → z < q → S z = false) ∧ wd (frm S k) i &&& (wd (frm S k) i - 1) = wd (frm S (q + 1)) i := by
  obtain ⟨h1, h2, h3, h4⟩ := low_bit h0 (wd_lt _ i)
  obtain ⟨c, hc⟩ : ∃ c, c = Lib.ctz 64 (wd (frm S k) i) := ⟨_, rfl⟩
  rw [← hc] at h1 h2 h3 h4 ⊢
  rw [wd_bit] at h2
  unfold frm at h2
  simp only [h1, decide_true, Bool.true_and, Bool.and_eq_true, decide_eq_true_eq] at h2
  refine ⟨_, rfl, (by omega), h2.2, h2.1, fun z hz hkz hzq => ?_, ?_⟩
  · have h5 := h3 (z - 64 * i) (by omega)
    rw [wd_bit] at h5
    unfold frm at h5
    rw [show 64 * i + (z - 64 * i) = z by omega] at h5
    simp only [show z - 64 * i < 64 by omega, decide_true, Bool.true_and, hkz, Bool.and_true] at h5
    exact h5
  · apply Nat.eq_of_testBit_eq
    intro j
    rw [h4, wd_bit, wd_bit]
    by_cases hj : j < 64
    · simp only [hj, decide_true, Bool.true_and]
      unfold frm
      rcases Nat.lt_trichotomy j c with h5 | h5 | h5
      · have h6 := h3 j h5
        rw [wd_bit] at h6
        simp only [hj, decide_true, Bool.true_and] at h6
        unfold frm at h6
        rw [h6]
        have : decide (64 * i + c + 1 ≤ 64 * i + j) = false := by simp; omega
        rw [this]; simp
      · subst h5
        have : decide (64 * i + j + 1 ≤ 64 * i + j) = false := by simp
        rw [this]; simp
      · have e1 : decide (64 * i + c + 1 ≤ 64 * i + j) = true := by simp; omega
        have e2 : decide (k ≤ 64 * i + j) = true := by simp; omega
        have e3 : decide (j ≠ c) = true := by simp; omega
        rw [e1, e2, e3]; simp
    · simp [hj]
/-- The numbers of a set below a bound, rising. -/
def els (S : Nat → Bool) (N : Nat) : List Nat := (List.range N).filter S
theorem els_skip {S : Nat → Bool} {k : Nat} : ∀ {N : Nat}, k ≤ N → (∀ z, k ≤ z → z < N → S z = false) → els S N = els S k
  | 0, h, _ => by rw [show k = 0 by omega]
  | N + 1, h, hz => by
    by_cases e : k = N + 1
    · rw [e]
    · have ih := els_skip (S := S) (k := k) (N := N) (by omega) fun z h1 h2 => hz z h1 (by omega)
      unfold els at ih ⊢
      rw [List.range_succ, List.filter_append, ih]
      simp [hz N (by omega) (by omega)]
theorem els_next {S : Nat → Bool} {k q : Nat} (hk : k ≤ q) (hz : ∀ z, k ≤ z → z < q → S z = false) (hq : S q = true) : els S (q + 1) = els S k ++ [q] := by
  rw [← els_skip hk hz]
  unfold els
  rw [List.range_succ, List.filter_append]
  simp [hq]
theorem els_mem {S : Nat → Bool} {N q : Nat} : q ∈ els S N ↔ q < N ∧ S q = true := by unfold els; rw [List.mem_filter, List.mem_range]
theorem els_len (S : Nat → Bool) (N : Nat) : (els S N).length ≤ N := by
  have := List.length_filter_le S (List.range N)
  rw [List.length_range] at this
  exact this
end Br
section
open Go.RowKit Go.Maps
/-- The words of a set lie from o on in block b. -/
def RowAt (w : World) (b o d : Nat) (S : Nat → Bool) : Prop := ∃ cs : Array Value, w.heap[b]? = some (.cells cs 99 (0, 0)) ∧ ∀ i, i < d → cs[o + i]? = some (.int .u64 (Br.wd S i : Nat))
def rowV (b o d c : Nat) : Value := .slice (some ⟨b, o, none⟩) d c
theorem RowAt.lt {w : World} {b o d : Nat} {S : Nat → Bool} (h : RowAt w b o d S) : b < w.heap.size := by
  obtain ⟨cs, hc, _⟩ := h
  exact t_lt hc
theorem RowAt.cell {w : World} {b o d : Nat} {S : Nat → Bool} (h : RowAt w b o d S) {i : Nat} (hi : i < d) : w.cell? ⟨b, o + i, none⟩ = some (.int .u64 (Br.wd S i : Nat)) := by
  obtain ⟨cs, hc, hx⟩ := h
  exact cell0_of hc (hx i hi)
theorem RowAt.free {w : World} {b o d : Nat} {S : Nat → Bool} (h : RowAt w b o d S) (k : Nat) : w.frozen? ⟨b, k, none⟩ = false := by
  obtain ⟨cs, hc, _⟩ := h
  exact blk_free hc k
theorem RowAt.drew9 {w : World} {b o d : Nat} {S : Nat → Bool} (h : RowAt w b o d S) : RowAt w.drew b o d S := h
theorem RowAt.at {w w' : World} {b o d : Nat} {S : Nat → Bool} (h : RowAt w b o d S) (hb : w'.heap[b]? = w.heap[b]?) : RowAt w' b o d S := by
  obtain ⟨cs, hc, hx⟩ := h
  exact ⟨cs, hb.trans hc, hx⟩
theorem RowAt.below {w w' : World} {b o d : Nat} {S : Nat → Bool} (h : RowAt w b o d S) (hb : Below w.heap.size w w') : RowAt w' b o d S := h.at (hb.block _ h.lt)
theorem RowAt.kept {w w' : World} {b o d : Nat} {S : Nat → Bool} {F : Nat → Prop} (h : RowAt w b o d S) (hk : Kept F w w') (hF : ¬ F b) : RowAt w' b o d S := h.at (hk.block _ h.lt hF)
theorem RowAt.congr {w : World} {b o d : Nat} {S T : Nat → Bool} (h : RowAt w b o d S) (hS : ∀ q, q / 64 < d → S q = T q) : RowAt w b o d T := by
  obtain ⟨cs, hc, hx⟩ := h
  refine ⟨cs, hc, fun i hi => ?_⟩
  rw [hx i hi, Br.wd_congr (T := T) fun q hq => hS q (by omega)]
/-- Only these cells of one block turned. -/
structure Wr (b o d : Nat) (w w' : World) : Prop where
  kp : Kept (fun i => i = b) w w'
  cs : ∀ (cs : Array Value) (t : TypeId), w.heap[b]? = some (.cells cs t (0, 0)) → ∃ cs' : Array Value, w'.heap[b]? = some (.cells cs' t (0, 0)) ∧ cs'.size = cs.size ∧ ∀ j, ¬ (o ≤ j ∧ j < o + d) → cs'[j]? = cs[j]?
theorem Wr.refl (b o d : Nat) (w : World) : Wr b o d w w := ⟨Kept.refl _ _, fun cs _ h => ⟨cs, h, rfl, fun _ _ => rfl⟩⟩
theorem Wr.trans {b o d : Nat} {w w1 w2 : World} (h : Wr b o d w w1) (k : Wr b o d w1 w2) : Wr b o d w w2 :=
  ⟨h.kp.trans k.kp, fun cs t hc => by
    obtain ⟨c1, h1, s1, x1⟩ := h.cs cs t hc
    obtain ⟨c2, h2, s2, x2⟩ := k.cs c1 t h1
    exact ⟨c2, h2, s2.trans s1, fun j hj => (x2 j hj).trans (x1 j hj)⟩⟩
theorem Wr.set (w : World) (b o d : Nat) {i : Nat} (hi : i < d) (v : Value) : Wr b o d w (w.setCell ⟨b, o + i, none⟩ v) :=
  ⟨Kept.setCell w b (o + i) v, fun cs t hc => ⟨_, heap_setCell_same w b (o + i) cs t v hc, by simp, fun j hj => by
    rw [Array.getElem?_setIfInBounds]
    rw [if_neg (by omega)]⟩⟩
theorem Wr.undrew {b o d : Nat} {w w' : World} (h : Wr b o d w.drew w') : Wr b o d w w' := ⟨⟨h.kp.os, h.kp.tape, h.kp.output, h.kp.size, h.kp.block⟩, h.cs⟩
/-- What is made new does not count. -/
theorem Wr.of_below {b o d : Nat} {w w' : World} (hb : b < w.heap.size) (h : Below w.heap.size w w') : Wr b o d w w' :=
  ⟨Kept.of_below h, fun cs _ hc => ⟨cs, (h.block b hb).trans hc, rfl, fun _ _ => rfl⟩⟩
theorem Wr.below {b o d : Nat} {w w' : World} (h : Wr b o d w w') {B : Nat} (hB : B ≤ w.heap.size) (hb : B ≤ b) : Below B w w' := h.kp.below hB fun k hk => by omega
theorem RowAt.wr {w w' : World} {b o d b' o' d' : Nat} {T : Nat → Bool} (h : RowAt w b' o' d' T) (hw : Wr b o d w w') (ha : b' ≠ b ∨ o' + d' ≤ o ∨ o + d ≤ o') : RowAt w' b' o' d' T := by
  by_cases e : b' = b
  · subst e
    obtain ⟨cs, hc, hx⟩ := h
    obtain ⟨c1, h1, _, x1⟩ := hw.cs cs _ hc
    refine ⟨c1, h1, fun i hi => ?_⟩
    rw [x1 (o' + i) (by omega)]
    exact hx i hi
  · exact h.kept hw.kp e
theorem RowAt.put {w : World} {b o d : Nat} {S : Nat → Bool} (h : RowAt w b o d S) {i : Nat} (hi : i < d) (S' : Nat → Bool) (hS : ∀ q, q / 64 ≠ i → S' q = S q) : RowAt (w.setCell ⟨b, o + i, none⟩ (.int .u64 (Br.wd S' i : Nat))) b o d S' := by
  obtain ⟨cs, hc, hx⟩ := h
  refine ⟨_, heap_setCell_same w b (o + i) cs _ _ hc, fun j hj => ?_⟩
  have hl := (Array.getElem?_eq_some_iff.1 (hx i hi)).1
  by_cases e : j = i
  · subst e
    rw [Array.getElem?_setIfInBounds, if_pos rfl, if_pos hl]
  · rw [Array.getElem?_setIfInBounds, if_neg (by omega), hx j hj, Br.wd_congr (S := S) (T := S') fun q hq => (hS q (by omega)).symm]
theorem row_zero (S : Nat → Bool) (i : Nat) (h : ∀ q, S q = false) : Br.wd S i = 0 := (Br.wd_zero S i).2 fun q _ => h q
theorem rowAt_new (w : World) (N d o : Nat) (h : o + d ≤ N) : RowAt (w.alloc (.cells (madeV (.int .u64 0) N) 99)) w.heap.size o d fun _ => false := by
  refine ⟨_, heap_alloc_new w _, fun i hi => ?_⟩
  rw [row_zero _ _ fun _ => rfl, ← Array.getElem?_toList, madeV_eq _ rfl, List.getElem?_replicate, if_pos (by omega)]
  rfl
theorem u64_ne0 (x : Nat) : ((x : Int) != 0) = !decide (x = 0) := by
  by_cases h : x = 0 <;> simp [h]
end
section
open Go.RowKit Go.Maps
attribute [local go_sem ↓] Go.wp_at_zero Go.wp_at_succ
/-- How many words a row has. -/
def Br.wds (n : Nat) : Nat := (n + 63) / 64
theorem quo64 (n : Nat) : Int.tdiv (n : Int) 64 = ((n / 64 : Nat) : Int) := by
  rw [Int.tdiv_eq_ediv_of_nonneg (by omega)]; omega
theorem rem64 (n : Nat) : Int.tmod (n : Int) 64 = ((n % 64 : Nat) : Int) := by
  rw [Int.tmod_eq_emod_of_nonneg (by omega)]; omega
theorem two_lt (q : Nat) : 2 ^ (q % 64) < 18446744073709551616 := by
  have h : 2 ^ (q % 64) < 2 ^ 64 := Nat.pow_lt_pow_right (by decide) (Nat.mod_lt _ (by decide))
  exact h
theorem w64s (n : Nat) (h : n ≤ 10000000) : IntKind.i64.wrap (n : Int) = (n : Int) := by rw [IntKind.wrap_i64]; omega
theorem Tryd.infoU64 : (Tryd.prog.info? 99).map (fun i => (i.zero, i.size, i.bytes)) = some (some (.int .u64 0), 1, 8) := by kernel_rfl
theorem makeU (n : Nat) (hn : n ≤ 1000000) (w : World) : (Instr.makeSlice 72 (.int .i64 (n : Int)) (.int .i64 (n : Int))).run Tryd.prog w = .ok (.slice (some ⟨w.heap.size, 0, none⟩) n n) (w.alloc (.cells (madeV (.int .u64 0) n) 99)) := make_of _ _ _ 8 Tryd.underlying72 Tryd.infoU64 n hn (by decide) w
theorem rowAt_drew {w : World} {b o d : Nat} {S : Nat → Bool} (h : RowAt w b o d S) : RowAt w.drew b o d S := h
theorem Wr.drew {b o d : Nat} {w w' : World} (h : Wr b o d w w') : Wr b o d w w'.drew := ⟨⟨h.kp.os, h.kp.tape, h.kp.output, h.kp.size, h.kp.block⟩, h.cs⟩
set_option maxRecDepth 100000 in
set_option maxHeartbeats 1000000 in
theorem wordsOf_any (n : Nat) (hn : n ≤ 100000) (w : World) : Calls Tryd.prog 62 #[.int .i64 n] w fun r w' => r = .returned (.int .i64 (Br.wds n : Nat)) ∧ w' = w := by
  go_enter Tryd.func62, Tryd.ntmps62
  go_wp2_with fail
  go_ret
  have e1 : ((n : Int) + 64 - 1) / 64 = (Br.wds n : Nat) := by unfold Br.wds; omega
  exact ⟨by rw [← e1]; rfl, rfl⟩
set_option maxRecDepth 100000 in
set_option maxHeartbeats 1000000 in
theorem newRow_any (n : Nat) (hn : n ≤ 100000) (w : World) : Calls Tryd.prog 56 #[.int .i64 n] w fun r w' => r = .returned (rowV w.heap.size 0 (Br.wds n) (Br.wds n)) ∧ w' = w.alloc (.cells (madeV (.int .u64 0) (Br.wds n)) 99) := by
  have hW := wordsOf_any n hn w
  have hd : Br.wds n ≤ 1000000 := by unfold Br.wds; omega
  have mU := makeU (Br.wds n) hd w
  generalize Br.wds n = d at hW mU hd ⊢
  have HW : Hid _ := hW
  clear hW
  go_enter Tryd.func56, Tryd.ntmps56
  go_wp2_with fail
  refine Calls.mono HW.out ?_
  rintro r w1 ⟨rfl, rfl⟩
  go_wp2_with fail
  go_ret
  exact ⟨rfl, rfl⟩
set_option maxRecDepth 100000 in
set_option maxHeartbeats 1000000 in
theorem hasRow_any (b o d c q : Nat) (S : Nat → Bool) (w : World) (hd : d ≤ 10000) (hq : q / 64 < d) (hR : RowAt w b o d S) : Calls Tryd.prog 30 #[rowV b o d c, .int .i64 q] w fun r w' => r = .returned (.bool (S q)) ∧ w' = w := by
  have c0 := hR.cell hq
  have h0 : (0 : Int) ≤ (q : Int) := by omega
  have h1 := Br.wd_has S q
  have hb : Br.wd S (q / 64) / 2 ^ (q % 64) < 18446744073709551616 := Nat.lt_of_le_of_lt (Nat.div_le_self _ _) (Br.wd_lt S _)
  generalize Br.wd S (q / 64) = x at c0 h1 hb
  clear hR
  unfold rowV
  go_enter Tryd.func30, Tryd.ntmps30
  go_wp2_with fail
  go_ret
  have e1 : bits .and .u64 ((x : Int) / 2 ^ (q % 64)) 1 = (if S q then 1 else 0 : Int) := by
    have e2 : (x : Int) / 2 ^ (q % 64) = ((x / 2 ^ (q % 64) : Nat) : Int) := by simp
    rw [e2, show (1 : Int) = ((1 : Nat) : Int) from rfl, bits_and_u64_nat _ _ hb (by decide), h1]
    split <;> rfl
  refine ⟨?_, rfl⟩
  show Ending.returned (.bool (bits .and .u64 ((x : Int) / 2 ^ (q % 64)) 1 == 1)) = _
  rw [e1]
  cases S q <;> rfl
set_option maxRecDepth 100000 in
set_option maxHeartbeats 1000000 in
theorem addRow_any (b o d c q : Nat) (S : Nat → Bool) (w : World) (hd : d ≤ 10000) (hq : q / 64 < d) (hR : RowAt w b o d S) : Calls Tryd.prog 53 #[rowV b o d c, .int .i64 q] w fun r w' => (∃ v, r = .returned v) ∧ RowAt w' b o d (fun z => S z || decide (z = q)) ∧ Wr b o d w w' := by
  have c0 := hR.cell hq
  have hf := hR.free (o + q / 64)
  have h0 : (0 : Int) ≤ (q : Int) := by omega
  have HR : Hid (RowAt w b o d S) := hR
  clear hR
  unfold rowV
  go_enter Tryd.func53, Tryd.ntmps53
  go_region
  all_goals
    go_end0
    have e1 : IntKind.u64.wrap (2 ^ (q % 64)) = ((2 ^ (q % 64) : Nat) : Int) := by
      have h1 := two_lt q
      have h2 : ((2 : Int) ^ (q % 64)) = ((2 ^ (q % 64) : Nat) : Int) := by simp
      rw [h2]
      generalize 2 ^ (q % 64) = m at h1 ⊢
      rw [IntKind.wrap_u64]; omega
    have h1 := two_lt q
    rw [e1, bits_or_u64_nat _ _ (Br.wd_lt _ _) h1, Br.wd_one]
    have hp := HR.out.put hq (fun z => S z || decide (z = q)) fun z hz => by
      have : decide (z = q) = false := by simp; rintro rfl; exact hz rfl
      simp [this]
    exact ⟨⟨_, rfl⟩, rowAt_drew hp, (Wr.set w b o d hq _).drew⟩
/-- The words below i are joined. -/
def mixS (S T : Nat → Bool) (i : Nat) : Nat → Bool := fun q => S q || T q && decide (q / 64 < i)
set_option maxRecDepth 100000 in
set_option maxHeartbeats 2000000 in
theorem joinRow_any (b o d c b2 o2 c2 : Nat) (S T : Nat → Bool) (w : World) (hd : d ≤ 10000) (hR : RowAt w b o d S) (hT : RowAt w b2 o2 d T) (ha : b2 ≠ b ∨ o2 + d ≤ o ∨ o + d ≤ o2) : Calls Tryd.prog 79 #[rowV b o d c, rowV b2 o2 d c2] w fun r w' => (∃ v, r = .returned v) ∧ RowAt w' b o d (fun z => S z || T z) ∧ Wr b o d w w' := by
  have HR : Hid _ := And.intro hR (And.intro hT ha)
  clear hR hT ha
  unfold rowV
  go_enter Tryd.func79, Tryd.ntmps79
  go_wp2_with fail
  go_loopg [8] d (fun k iv wr => ∃ i : Nat, k = d - i ∧ i ≤ d ∧ iv = .int .i64 i ∧ RowAt wr b o d (mixS S T i) ∧ Wr b o d w wr)
  case atStart => exact ⟨0, rfl, Nat.zero_le _, rfl, HR.out.1.congr fun q _ => by simp [mixS], Wr.refl _ _ _ _⟩
  case round =>
    obtain ⟨i, rfl, hi, rfl, hA, hW⟩ := hrel
    by_cases hlt : i < d
    · have hB := HR.out.2.1.wr hW HR.out.2.2
      have c0 := hA.cell hlt
      have c1 := hB.cell hlt
      have f0 := hA.free (o + i)
      have h0 : (0 : Int) ≤ (i : Int) := by omega
      have h1 : (i : Int) < (d : Int) := by omega
      have HA : Hid _ := And.intro hA (And.intro hB hW)
      clear hA hB hW
      go_wp2_with (simp only [Br.b_or])
      go_roundg (d - (i + 1))
      case measure => omega
      case rel =>
        refine ⟨i + 1, rfl, by omega, by go_num, ?_, ?_⟩
        · have hp := HA.out.1.put hlt (mixS S T (i + 1)) fun q hq => by
            have : decide (q / 64 < i + 1) = decide (q / 64 < i) := by simp only [decide_eq_decide]; omega
            simp only [mixS, this]
          have e1 : Br.wd (fun q => mixS S T i q || T q) i = Br.wd (mixS S T (i + 1)) i := Br.wd_congr fun q hq => by
            have e2 : decide (q / 64 < i) = false := by simp; omega
            have e3 : decide (q / 64 < i + 1) = true := by simp; omega
            simp [mixS, e2, e3]
          rw [e1]
          exact hp
        · exact HA.out.2.2.trans (Wr.set wr b o d hlt _)
    · obtain rfl : i = d := by omega
      have h1 : ¬ (i : Int) < (i : Int) := by omega
      have HA : Hid _ := And.intro hA hW
      clear hA hW
      go_wp2_with fail
      go_end0
      refine ⟨⟨_, rfl⟩, HA.out.1.congr fun q hq => ?_, HA.out.2⟩
      simp [mixS, hq]
def meetS (S T : Nat → Bool) (N : Nat) : Bool := (List.range N).any fun q => S q && T q
def withS (S T : Nat → Bool) (N : Nat) : Bool := (List.range N).all fun q => !S q || T q
def nonS (S : Nat → Bool) (N : Nat) : Bool := (List.range N).all fun q => !S q
theorem meetS_no {S T : Nat → Bool} {i : Nat} (h : meetS S T (64 * i) = false) (h2 : Br.wd (fun q => S q && T q) i = 0) : meetS S T (64 * (i + 1)) = false := by
  unfold meetS at h ⊢
  rw [List.any_eq_false] at h ⊢
  intro q hq
  rw [List.mem_range] at hq
  by_cases e : q < 64 * i
  · exact h q (List.mem_range.2 e)
  · simpa using (Br.wd_zero _ _).1 h2 q (by omega)
theorem wd_some {S : Nat → Bool} {i : Nat} (h : Br.wd S i ≠ 0) : ∃ q, q / 64 = i ∧ S q = true := by
  apply Classical.byContradiction
  intro h2
  refine h ((Br.wd_zero _ _).2 fun q hq => ?_)
  cases h3 : S q with
  | false => rfl
  | true => exact absurd ⟨q, hq, h3⟩ h2
set_option maxRecDepth 100000 in
set_option maxHeartbeats 2000000 in
theorem meetsRow_any (b o d c b2 o2 c2 : Nat) (S T : Nat → Bool) (w : World) (hd : d ≤ 10000) (hR : RowAt w b o d S) (hT : RowAt w b2 o2 d T) : Calls Tryd.prog 77 #[rowV b o d c, rowV b2 o2 d c2] w fun r w' => r = .returned (.bool (meetS S T (64 * d))) ∧ w' = w := by
  have HR : Hid (RowAt w b o d S ∧ RowAt w b2 o2 d T) := And.intro hR hT
  clear hR hT
  unfold rowV
  go_enter Tryd.func77, Tryd.ntmps77
  go_wp2_with fail
  go_loopg [9] d (fun k iv wr => ∃ i : Nat, k = d - i ∧ i ≤ d ∧ iv = .int .i64 i ∧ meetS S T (64 * i) = false ∧ wr = w)
  case atStart => exact ⟨0, rfl, Nat.zero_le _, rfl, rfl, rfl⟩
  case round =>
    obtain ⟨i, rfl, hi, rfl, hA, rfl⟩ := hrel
    by_cases hlt : i < d
    · have c0 := HR.out.1.cell hlt
      have c1 := HR.out.2.cell hlt
      have h0 : (0 : Int) ≤ (i : Int) := by omega
      have h1 : (i : Int) < (d : Int) := by omega
      have HA : Hid (meetS S T (64 * i) = false) := hA
      clear hA
      by_cases hz : Br.wd (fun q => S q && T q) i = 0
      · have e1 : (bits .and .u64 (Br.wd S i : Int) (Br.wd T i : Int) != 0) = false := by rw [Br.b_and, hz]; rfl
        have HZ : Hid (Br.wd (fun q => S q && T q) i = 0) := hz
        clear hz
        go_wp2_with (simp only [e1])
        go_roundg (d - (i + 1))
        case measure => omega
        case rel => exact ⟨i + 1, rfl, by omega, by go_num, meetS_no HA.out HZ.out, rfl⟩
      · have e1 : (bits .and .u64 (Br.wd S i : Int) (Br.wd T i : Int) != 0) = true := by rw [Br.b_and, u64_ne0]; simp [hz]
        have HZ : Hid (Br.wd (fun q => S q && T q) i ≠ 0) := hz
        clear hz
        go_wp2_with (simp only [e1])
        go_ret
        refine ⟨?_, rfl⟩
        have h2 : meetS S T (64 * d) = true := by
          obtain ⟨q, hq, hs⟩ := wd_some HZ.out
          exact List.any_eq_true.2 ⟨q, List.mem_range.2 (by omega), hs⟩
        rw [h2]; rfl
    · obtain rfl : i = d := by omega
      have h1 : ¬ (i : Int) < (i : Int) := by omega
      have HA : Hid (meetS S T (64 * i) = false) := hA
      clear hA
      go_wp2_with fail
      go_ret
      refine ⟨?_, rfl⟩
      rw [HA.out]; rfl
theorem withS_on {S T : Nat → Bool} {i : Nat} (h : withS S T (64 * i) = true) (h2 : Br.wd (fun q => S q && !T q) i = 0) : withS S T (64 * (i + 1)) = true := by
  unfold withS at h ⊢
  rw [List.all_eq_true] at h ⊢
  intro q hq
  rw [List.mem_range] at hq
  by_cases e : q < 64 * i
  · exact h q (List.mem_range.2 e)
  · have := (Br.wd_zero _ _).1 h2 q (by omega)
    revert this; cases S q <;> cases T q <;> simp
set_option maxRecDepth 100000 in
set_option maxHeartbeats 2000000 in
theorem withinRow_any (b o d c b2 o2 c2 : Nat) (S T : Nat → Bool) (w : World) (hd : d ≤ 10000) (hR : RowAt w b o d S) (hT : RowAt w b2 o2 d T) : Calls Tryd.prog 54 #[rowV b o d c, rowV b2 o2 d c2] w fun r w' => r = .returned (.bool (withS S T (64 * d))) ∧ w' = w := by
  have HR : Hid (RowAt w b o d S ∧ RowAt w b2 o2 d T) := And.intro hR hT
  clear hR hT
  unfold rowV
  go_enter Tryd.func54, Tryd.ntmps54
  go_wp2_with fail
  go_loopg [9] d (fun k iv wr => ∃ i : Nat, k = d - i ∧ i ≤ d ∧ iv = .int .i64 i ∧ withS S T (64 * i) = true ∧ wr = w)
  case atStart => exact ⟨0, rfl, Nat.zero_le _, rfl, rfl, rfl⟩
  case round =>
    obtain ⟨i, rfl, hi, rfl, hA, rfl⟩ := hrel
    by_cases hlt : i < d
    · have c0 := HR.out.1.cell hlt
      have c1 := HR.out.2.cell hlt
      have h0 : (0 : Int) ≤ (i : Int) := by omega
      have h1 : (i : Int) < (d : Int) := by omega
      have HA : Hid (withS S T (64 * i) = true) := hA
      clear hA
      by_cases hz : Br.wd (fun q => S q && !T q) i = 0
      · have e1 : (bits .andNot .u64 (Br.wd S i : Int) (Br.wd T i : Int) != 0) = false := by rw [Br.wd_andNot, hz]; rfl
        have HZ : Hid (Br.wd (fun q => S q && !T q) i = 0) := hz
        clear hz
        go_wp2_with (simp only [e1])
        go_roundg (d - (i + 1))
        case measure => omega
        case rel => exact ⟨i + 1, rfl, by omega, by go_num, withS_on HA.out HZ.out, rfl⟩
      · have e1 : (bits .andNot .u64 (Br.wd S i : Int) (Br.wd T i : Int) != 0) = true := by rw [Br.wd_andNot, u64_ne0]; simp [hz]
        have HZ : Hid (Br.wd (fun q => S q && !T q) i ≠ 0) := hz
        clear hz
        go_wp2_with (simp only [e1])
        go_ret
        refine ⟨?_, rfl⟩
        have h2 : withS S T (64 * d) = false := by
          obtain ⟨q, hq, hs⟩ := wd_some HZ.out
          refine List.all_eq_false.2 ⟨q, List.mem_range.2 (by omega), ?_⟩
          revert hs; cases S q <;> cases T q <;> simp
        rw [h2]; rfl
    · obtain rfl : i = d := by omega
      have h1 : ¬ (i : Int) < (i : Int) := by omega
      have HA : Hid (withS S T (64 * i) = true) := hA
      clear hA
      go_wp2_with fail
      go_ret
      refine ⟨?_, rfl⟩
      rw [HA.out]; rfl
theorem nonS_on {S : Nat → Bool} {i : Nat} (h : nonS S (64 * i) = true) (h2 : Br.wd S i = 0) : nonS S (64 * (i + 1)) = true := by
  unfold nonS at h ⊢
  rw [List.all_eq_true] at h ⊢
  intro q hq
  rw [List.mem_range] at hq
  by_cases e : q < 64 * i
  · exact h q (List.mem_range.2 e)
  · rw [(Br.wd_zero _ _).1 h2 q (by omega)]; rfl
set_option maxRecDepth 100000 in
set_option maxHeartbeats 2000000 in
theorem emptyRow_any (b o d c : Nat) (S : Nat → Bool) (w : World) (hd : d ≤ 10000) (hR : RowAt w b o d S) : Calls Tryd.prog 55 #[rowV b o d c] w fun r w' => r = .returned (.bool (nonS S (64 * d))) ∧ w' = w := by
  have HR : Hid (RowAt w b o d S) := hR
  clear hR
  unfold rowV
  go_enter Tryd.func55, Tryd.ntmps55
  go_wp2_with fail
  go_loopg [7] d (fun k iv wr => ∃ i : Nat, k = d - i ∧ i ≤ d ∧ iv = .int .i64 i ∧ nonS S (64 * i) = true ∧ wr = w)
  case atStart => exact ⟨0, rfl, Nat.zero_le _, rfl, rfl, rfl⟩
  case round =>
    obtain ⟨i, rfl, hi, rfl, hA, rfl⟩ := hrel
    by_cases hlt : i < d
    · have c0 := HR.out.cell hlt
      have h0 : (0 : Int) ≤ (i : Int) := by omega
      have h1 : (i : Int) < (d : Int) := by omega
      have HA : Hid (nonS S (64 * i) = true) := hA
      clear hA
      by_cases hz : Br.wd S i = 0
      · rw [hz] at c0
        have HZ : Hid (Br.wd S i = 0) := hz
        clear hz
        go_wp2_with fail
        go_roundg (d - (i + 1))
        case measure => omega
        case rel => exact ⟨i + 1, rfl, by omega, by go_num, nonS_on HA.out HZ.out, rfl⟩
      · have e1 : ((Br.wd S i : Int) != 0) = true := by rw [u64_ne0]; simp [hz]
        have HZ : Hid (Br.wd S i ≠ 0) := hz
        clear hz
        go_wp2_with (simp only [e1])
        go_ret
        refine ⟨?_, rfl⟩
        have h2 : nonS S (64 * d) = false := by
          obtain ⟨q, hq, hs⟩ := wd_some HZ.out
          exact List.all_eq_false.2 ⟨q, List.mem_range.2 (by omega), by rw [hs]; simp⟩
        rw [h2]; rfl
    · obtain rfl : i = d := by omega
      have h1 : ¬ (i : Int) < (i : Int) := by omega
      have HA : Hid (nonS S (64 * i) = true) := hA
      clear hA
      go_wp2_with fail
      go_ret
      refine ⟨?_, rfl⟩
      rw [HA.out]; rfl
end
end Go.Proofs.YtladdlkfnfdhaaaDoor
