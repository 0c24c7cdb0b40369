/- Texts of this claim, joined: Copy, Base, SgQue, SgMem, TsQue, RoPure. -/
import Derived.Test.YtplofbabfkkimaaDoorProg
import Derived.WalkKit
import Derived.Maps.AppendAt
import Derived.RowKitTokens
import Derived.WalkSmall
import Derived.ProofKit
import Derived.Maps.OwnSet
import Derived.Maps.Range
import Derived.OneCell
import Derived.DeepKeys4
import Derived.Deep.AppendLies
import Derived.Deep.RegionLaw
import Derived.Deep.RegionHeld3
import Derived.Deep.DrawnRows
import Derived.Deep.DeepCutAuto
import Derived.Deep.LoopGhost
import Derived.Below
import Derived.Laws.AppendOwn
import Derived.Deep.AppendSrc
import GoSem.Claim
/- 'append(nil, x...)' of any list, nil too: a row of one's own. (A law of my own, over the library's own laws on append.) -/
namespace Go.Proofs.YtplofbabfkkimaaDoor
open Go.RowKit
theorem run_copy_at {P : Program} (w : World) (base : Nat) (t ty e : TypeId) (i : TypeInfo) (z : Value) (size bytes : Nat) (ht : P.underlying t = some (.slice e)) (hi : P.info? e = some i) (hz : i.zero = some z)
    (hsize : i.size = size) (hby : i.bytes = bytes) (hzs : z.cells.size = size) (hsz : 0 < size) (ao : Option Addr) (m c : Nat) (news : List Value) (hao : ao = none → m = 0) (hl : news.length = m * size)
    (hnews : ∀ ad, ao = some ad → ∀ j u, news[j]? = some u → w.cell? (ad.add j) = some u) (h1 : ∀ u ∈ news, u.oneCell' = true) (h63 : m ≤ maxLen) (hbytes : m * bytes ≤ 140737488355328) (hbase : base ≤ w.heap.size) :
    ∃ v' w', (Builtin.append_ #[t, t] ty #[.slice none 0 0, .slice ao m c]).run P w = .ok v' w' ∧ w'.ownsRow base e size v' m news ∧ w.grownBy w' (Value.slice none 0 0).ownBlock ∧ (v'.ownBlock = none ∨ v'.ownBlock = some w.heap.size) := by
  cases ao with
  | none =>
    obtain rfl := hao rfl
    obtain rfl : news = [] := List.eq_nil_of_length_eq_zero (by simpa using hl)
    refine ⟨.slice none 0 0, w, ?_, World.ownsRow_nil w base e size, ⟨rfl, rfl, rfl, Nat.le_refl _, fun _ _ _ => rfl⟩, Or.inl rfl⟩
    simp [Builtin.append_, run_underlying ht, sizeOf, typeInfo, hi, Builtin.lenOf, Builtin.firstCells]
  | some ad =>
    obtain ⟨v', w', hr, h2, h3, h4, h5⟩ := run_append_own_at (P := P) w base t ty e i z size bytes ht hi hz hsize hby hzs hsz (.slice none 0 0) 0 [] (World.ownsRow_nil _ _ _ _) ad m c news hl (hnews ad rfl) h1 (by simpa using h63) (by simpa using hbytes) hbase
    refine ⟨v', w', hr, by simpa using h2, h3, h5⟩
theorem wpList_copy_at {P : Program} (w : World) {ops : Array Oper} {rest : List Oper} {o : Oper} {a : Act} {Q : Exit → Act → World → Prop} (hgd : o.guard = none) (s x : Operand) (t : TypeId)
    (ho : o.op = .call { callee := .builtin .append, args := #[s, x], argTypes := #[t, t] })
    (base : Nat) (e : TypeId) (i : TypeInfo) (z : Value) (size bytes : Nat) (ht : P.underlying t = some (.slice e)) (hi : P.info? e = some i) (hz : i.zero = some z)
    (hsize : i.size = size) (hby : i.bytes = bytes) (hzs : z.cells.size = size) (hsz : 0 < size) (hs : a.eval s = .slice none 0 0)
    (ao : Option Addr) (m c : Nat) (news : List Value) (hx : a.eval x = .slice ao m c) (hao : ao = none → m = 0) (hl : news.length = m * size) (hnews : ∀ ad, ao = some ad → ∀ j u, news[j]? = some u → w.cell? (ad.add j) = some u) (h1 : ∀ u ∈ news, u.oneCell' = true)
    (h63 : m ≤ maxLen) (hbytes : m * bytes ≤ 140737488355328) (hbase : base ≤ w.heap.size)
    (h : ∀ v' w', w'.ownsRow base e size v' m news → w.grownBy w' (Value.slice none 0 0).ownBlock → (v'.ownBlock = none ∨ v'.ownBlock = some w.heap.size) → wpList P ops Q rest (a.put o.dst v') w') :
    wpList P ops Q (o :: rest) a w := by
  refine wpList_plain hgd fun K hK => ?_
  obtain ⟨v', w', hr, h2, h3, h4⟩ := run_copy_at (P := P) w base t o.type e i z size bytes ht hi hz hsize hby hzs hsz ao m c news hao hl hnews h1 h63 hbytes hbase
  unfold Oper.wp execOp
  simp only [ho, resolve, invoke, builtin, Sem.run_bind, Sem.run_pure, Result.andThen_ok, List.map_toArray, List.map_cons, List.map_nil, hs, hx, hr]
  exact hK _ _ (h v' w' h2 h3 h4)
end Go.Proofs.YtplofbabfkkimaaDoor
/- Lemmas on memory that all texts share: rows of one's own, what stands, lists of numbers. -/
namespace Go.Proofs.YtplofbabfkkimaaDoor
open Go.RowKit Go.Maps
theorem t_lt {w : World} {b : Nat} {o : Obj} (h : w.heap[b]? = some o) : b < w.heap.size := (Array.getElem?_eq_some_iff.1 h).1
theorem cell_up {w W : World} {b o : Nat} {v : Value} (hc : w.cell? ⟨b, o, none⟩ = some v) (hb : Below w.heap.size w W) : W.cell? ⟨b, o, none⟩ = some v := (hb.cell (World.block_lt_of_cell? w _ hc)).trans hc
theorem blk_free {w : World} {b : Nat} {cs : Array Value} {t : TypeId} (h : w.heap[b]? = some (.cells cs t (0, 0))) (k : Nat) : w.frozen? ⟨b, k, none⟩ = false := by simp [World.frozen?, h]
theorem cell0_of {w : World} {b : Nat} {cs : Array Value} {ty : TypeId} {v : Value} {k : Nat} (h : w.heap[b]? = some (.cells cs ty (0, 0))) (h0 : cs[k]? = some v) : w.cell? ⟨b, k, none⟩ = some v := by simp [World.cell?, h, h0]
theorem addz (g i : Nat) : (⟨g, 0, none⟩ : Addr).add i = ⟨g, i, none⟩ := by unfold Addr.add; split <;> simp_all
theorem set_other (w : World) (b o i : Nat) (u : Value) (h : i ≠ b) : (w.setCell ⟨b, o, none⟩ u).heap[i]? = w.heap[i]? := by
  simp only [World.setCell]
  rw [Array.getElem?_modify, if_neg (fun e => h e.symm)]
theorem row_shape {w : World} {base : Nat} {e : TypeId} {size : Nat} {v : Value} {n : Nat} {xs : List Value} (h : w.ownsRow base e size v n xs) : ∃ ao cap, v = .slice ao n cap := by
  rcases h.2 with ⟨rfl, h0⟩ | ⟨g, cap, cur, rfl, _⟩
  · exact ⟨none, 0, by rw [h0]⟩
  · exact ⟨_, _, rfl⟩
theorem trow_at {w w' : World} {base : Nat} {e : TypeId} {size : Nat} {v : Value} {n : Nat} {xs : List Value} (h : w.ownsRow base e size v n xs) (hb : ∀ i, v.ownBlock = some i → w'.heap[i]? = w.heap[i]?) : w'.ownsRow base e size v n xs := by
  refine ⟨h.1, ?_⟩
  rcases h.2 with h2 | ⟨g, cap, cur, rfl, h3, hg, h4⟩
  · exact .inl h2
  · exact .inr ⟨g, cap, cur, rfl, h3, by rw [hb g rfl]; exact hg, h4⟩
theorem row_base {w : World} {base base' : Nat} {e : TypeId} {size : Nat} {v : Value} {n : Nat} {xs : List Value} (h : w.ownsRow base e size v n xs) (hb : base' ≤ base) : w.ownsRow base' e size v n xs := by
  refine ⟨h.1, ?_⟩
  rcases h.2 with h2 | ⟨g, cap, cur, rfl, h3, hg, h4⟩
  · exact .inl h2
  · exact .inr ⟨g, cap, cur, rfl, by omega, hg, h4⟩
theorem row0 {w : World} {base : Nat} {e : TypeId} {size : Nat} {v : Value} {n : Nat} {xs : List Value} (h : w.ownsRow base e size v (0 + n) ([] ++ xs)) : w.ownsRow base e size v n xs := by simpa using h
theorem tgrown0 {w w1 : World} (hg : w.grownBy w1 (Value.slice none 0 0).ownBlock) : Below w.heap.size w w1 := ⟨hg.os, hg.tape, hg.output, hg.size, fun k hk => hg.block k hk (by simp [Value.ownBlock])⟩
theorem row_cells {w : World} {base : Nat} {e : TypeId} {size : Nat} {v : Value} {n : Nat} {xs : List Value} (h : w.ownsRow base e size v n xs) {i : Nat} (hi : v.ownBlock = some i) : ∃ c, w.heap[i]? = some (.cells c e (0, 0)) := by
  rcases h.2 with ⟨rfl, _⟩ | ⟨g, cap, cur, rfl, _, hg, _⟩
  · cases hi
  · simp only [Value.ownBlock, Option.some.injEq] at hi
    exact ⟨cur, hi ▸ hg⟩
/-- All blocks but those of F stand. -/
structure Kept (F : Nat → Prop) (w w' : World) : Prop where
  os : w'.os = w.os
  tape : w'.tape = w.tape
  output : w'.output = w.output
  size : w.heap.size ≤ w'.heap.size
  block : ∀ k, k < w.heap.size → ¬ F k → w'.heap[k]? = w.heap[k]?
theorem Kept.refl (F : Nat → Prop) (w : World) : Kept F w w := ⟨rfl, rfl, rfl, Nat.le_refl _, fun _ _ _ => rfl⟩
theorem Kept.trans {F : Nat → Prop} {a b c : World} (h : Kept F a b) (k : Kept F b c) : Kept F a c :=
  ⟨k.os.trans h.os, k.tape.trans h.tape, k.output.trans h.output, Nat.le_trans h.size k.size, fun i hi hf => (k.block i (Nat.lt_of_lt_of_le hi h.size) hf).trans (h.block i hi hf)⟩
theorem Kept.mono {F G : Nat → Prop} {a b : World} (h : Kept F a b) (hs : ∀ k, k < a.heap.size → F k → G k) : Kept G a b := ⟨h.os, h.tape, h.output, h.size, fun i hi hg => h.block i hi fun hf => hg (hs i hi hf)⟩
theorem Kept.of_below {F : Nat → Prop} {a b : World} (h : Below a.heap.size a b) : Kept F a b := ⟨h.os, h.tape, h.output, h.size, fun i hi _ => h.block i hi⟩
theorem Kept.of_grown {a b : World} {row : Option Nat} (h : a.grownBy b row) : Kept (fun i => row = some i) a b := ⟨h.os, h.tape, h.output, h.size, fun i hi hn => h.block i hi fun e => hn e.symm⟩
theorem Kept.below {F : Nat → Prop} {a b : World} (h : Kept F a b) {B : Nat} (hB : B ≤ a.heap.size) (hF : ∀ k, F k → B ≤ k) : Below B a b := ⟨h.os, h.tape, h.output, h.size, fun i hi => h.block i (by omega) fun hf => by have := hF i hf; omega⟩
theorem Kept.setCell (a : World) (b o : Nat) (u : Value) : Kept (fun i => i = b) a (a.setCell ⟨b, o, none⟩ u) := by
  have h : Below b a (a.setCell ⟨b, o, none⟩ u) := Below.setCell (Below.refl b a) (Nat.le_refl _) u
  exact ⟨h.os, h.tape, h.output, h.size, fun i _ hn => set_other _ _ _ _ _ hn⟩
theorem Kept.trans2 {F G : Nat → Prop} {a b c : World} (h : Kept F a b) (k : Kept G b c) (hG : ∀ i, G i → F i ∨ a.heap.size ≤ i) : Kept F a c :=
  ⟨k.os.trans h.os, k.tape.trans h.tape, k.output.trans h.output, Nat.le_trans h.size k.size, fun i hi hf => (k.block i (Nat.lt_of_lt_of_le hi h.size) fun hg => (hG i hg).elim hf fun h => by omega).trans (h.block i hi hf)⟩
theorem add_block (a : Addr) (i : Nat) : (a.add i).block = a.block := by unfold Addr.add; split <;> rfl
theorem cell_same {w w' : World} {a : Addr} {i : Nat} {v : Value} (hb : w'.heap[a.block]? = w.heap[a.block]?) (c : w.cell? (a.add i) = some v) : w'.cell? (a.add i) = some v := (World.cell?_of_block (a := a.add i) (by rw [add_block]; exact hb)).trans c
theorem block_lt3 {w : World} {a : Addr} {i : Nat} {v : Value} (c : w.cell? (a.add i) = some v) : a.block < w.heap.size := by have := World.block_lt_of_cell? w _ c; rw [add_block] at this; exact this
theorem below_of_drew3 {w w1 : World} (h : Below w.drew.heap.size w.drew w1) : Below w.heap.size w w1 := (Below.refl _ w).drew.trans h
/-- The value is a list of these numbers. -/
def HasI (w : World) (v : Value) (zs : List Int) : Prop := ∃ ao cap, v = .slice ao zs.length cap ∧ ∀ (i : Nat) (z : Int), zs[i]? = some z → ∃ a, ao = some a ∧ w.cell? (a.add i) = some (.int .i64 z)
theorem HasI.below {w w' : World} {v : Value} {zs : List Int} (h : HasI w v zs) (hb : Below w.heap.size w w') : HasI w' v zs := by
  obtain ⟨ao, cap, h1, h2⟩ := h
  refine ⟨ao, cap, h1, fun i p hi => ?_⟩
  obtain ⟨a, ha, c0⟩ := h2 i p hi
  exact ⟨a, ha, (hb.cell (World.block_lt_of_cell? w _ c0)).trans c0⟩
/-- The lists stand where other blocks turn. (Where a list has no element nothing is asked.) -/
theorem HasI.kept {w w' : World} {F : Nat → Prop} {v : Value} {zs : List Int} (h : HasI w v zs) (hk : Kept F w w') (hf : zs ≠ [] → ∀ i, v.ownBlock = some i → ¬ F i) : HasI w' v zs := by
  obtain ⟨ao, cap, rfl, h2⟩ := h
  refine ⟨ao, cap, rfl, fun i z hi => ?_⟩
  obtain ⟨a, rfl, c⟩ := h2 i z hi
  exact ⟨a, rfl, cell_same (hk.block _ (block_lt3 c) (hf (by rintro rfl; simp at hi) a.block rfl)) c⟩
theorem made_far {w : World} {v : Value} {zs : List Int} (h : HasI w v zs) (hz : zs ≠ []) {i : Nat} (hi : v.ownBlock = some i) : i < w.heap.size := by
  obtain ⟨ao, cap, rfl, h2⟩ := h
  cases zs with
  | nil => exact absurd rfl hz
  | cons z r =>
    obtain ⟨a, rfl, c⟩ := h2 0 z rfl
    have := block_lt3 c
    simp only [Value.ownBlock, Option.some.injEq] at hi
    omega
def iC (zs : List Int) : List Value := zs.map (Value.int .i64)
theorem iC_length (zs : List Int) : (iC zs).length = zs.length * 1 := by simp [iC]
theorem iC_one (zs : List Int) : ∀ u ∈ iC zs, u.oneCell' = true := fun u hu => by
  obtain ⟨z, _, rfl⟩ := List.mem_map.1 hu; rfl
/-- A row of numbers, a row of pairs: lists of the call's own. -/
def OwnI (w : World) (B : Nat) (v : Value) (zs : List Int) : Prop := w.ownsRow B 3 1 v zs.length (iC zs)
theorem OwnI.has {w : World} {B : Nat} {v : Value} {zs : List Int} (h : OwnI w B v zs) : HasI w v zs := by
  rcases h.2 with ⟨rfl, h0⟩ | ⟨g, cap, cur, rfl, _⟩
  · obtain rfl : zs = [] := List.eq_nil_of_length_eq_zero h0
    exact ⟨none, 0, rfl, fun i z hi => by simp at hi⟩
  · refine ⟨_, cap, rfl, fun i z hi => ⟨_, rfl, ?_⟩⟩
    have hlt := (List.getElem?_eq_some_iff.1 hi).1
    rw [addz, h.cellAt i (by omega)]
    simp [iC, hi]
theorem Tryd.infoI3 : (Tryd.prog.info? 3).map (fun i => (i.zero, i.size, i.bytes)) = some (some (.int .i64 0), 1, 8) := by kernel_rfl
theorem OwnI.cell {w : World} {B g cap n : Nat} {zs : List Int} (h : OwnI w B (.slice (some ⟨g, 0, none⟩) n cap) zs) {i : Nat} {z : Int} (hi : zs[i]? = some z) : w.cell? ⟨g, i, none⟩ = some (.int .i64 z) := by
  have hlt := (List.getElem?_eq_some_iff.1 hi).1
  obtain ⟨ao, cap', e, h2⟩ := h.has
  injection e with e1 e2 e3
  obtain ⟨a, ha, hc⟩ := h2 i z hi
  rw [← e1] at ha
  have := Option.some.inj ha
  rw [← this, addz] at hc
  exact hc
theorem iC_news {w : World} {a : Addr} {zs : List Int} (h : ∀ (i : Nat) (z : Int), zs[i]? = some z → w.cell? (a.add i) = some (.int .i64 z)) : ∀ j u, (iC zs)[j]? = some u → w.cell? (a.add j) = some u := by
  intro j u hu
  unfold iC at hu
  rw [List.getElem?_map] at hu
  cases e : zs[j]? with
  | none => rw [e] at hu; simp at hu
  | some z =>
    rw [e] at hu
    simp at hu
    subst hu
    exact h j z e
theorem HasI.none {w : World} {n cap : Nat} {zs : List Int} (h : HasI w (.slice none n cap) zs) : zs = [] ∧ n = 0 := by
  obtain ⟨ao, cap', h1, h2⟩ := h
  injection h1 with e1 e2 e3
  subst e1
  cases zs with
  | nil => exact ⟨rfl, e2⟩
  | cons z r => obtain ⟨a, h, _⟩ := h2 0 z rfl; cases h
theorem HasI.news {w : World} {a : Addr} {n cap : Nat} {zs : List Int} (h : HasI w (.slice (some a) n cap) zs) : n = zs.length ∧ ∀ j u, (iC zs)[j]? = some u → w.cell? (a.add j) = some u := by
  obtain ⟨ao, cap', h1, h2⟩ := h
  injection h1 with e1 e2 e3
  subst e1
  refine ⟨e2, iC_news fun i z hi => ?_⟩
  obtain ⟨a', ha, hc⟩ := h2 i z hi
  cases ha
  exact hc
theorem hasI_copy {w : World} {ao : Option Addr} {n cap : Nat} {zs : List Int} (h : HasI w (.slice ao n cap) zs) : (ao = none → n = 0) ∧ ∀ ad, ao = some ad → ∀ j u, (iC zs)[j]? = some u → w.cell? (ad.add j) = some u :=
  ⟨fun e => by subst e; exact h.none.2, fun ad e => by subst e; exact h.news.2⟩
theorem iC_snoc (zs : List Int) (z : Int) : iC (zs ++ [z]) = iC zs ++ [.int .i64 z] := by simp [iC]
theorem one_one (z : Int) : ∀ x ∈ [Value.int .i64 z], x.oneCell' = true := fun x hx => by rw [List.mem_singleton.1 hx]; rfl
theorem lines_belowI {w w2 w4 : World} {x : Obj} {v : Value} {n : Nat} {us : List Value} (h1 : w2.ownsRow w.heap.size 3 1 v n us) (hb : Below w.heap.size w w2) (hg : (w2.alloc x).grownBy w4 v.ownBlock) : Below w.heap.size w w4 :=
  (hb.alloc hb.size x).grown hg (by have := hb.size; simp; omega) (fun k hk => (h1.lt k hk).1)
theorem two_alloc (w : World) (o p : Obj) : ((w.alloc o).alloc p).heap[w.heap.size + 1]? = some p := by
  have h := (MapKept.heap_alloc (w.alloc o) p).1
  simpa using h
theorem take_succ_of {α : Type} {l : List α} {j : Nat} {x : α} (h : l[j]? = some x) : l.take (j + 1) = l.take j ++ [x] := by
  obtain ⟨hlt, rfl⟩ := List.getElem?_eq_some_iff.1 h
  exact List.take_succ_eq_append_getElem hlt
/-- The blocks of the lists. -/
def LsF (ls : List Value) (b : Nat) : Prop := ∃ l ∈ ls, l.ownBlock = some b
theorem set_same {α : Type} {l : List α} {i : Nat} {x : α} (h : l[i]? = some x) : l.set i x = l := by
  apply List.ext_getElem?
  intro k
  by_cases e : k = i
  · subst e; rw [List.getElem?_set_self (List.getElem?_eq_some_iff.1 h).1, h]
  · rw [List.getElem?_set_ne (fun e' => e e'.symm)]
theorem one_list (v : Value) (h : ∃ a n c, v = .slice a n c) : ∀ x ∈ [v], x.oneCell' = true := fun x hx => by
  rw [List.mem_singleton.1 hx]
  obtain ⟨a, n, c, rfl⟩ := h
  rfl
/-- 'append(nil, x...)' as one step of a region that draws. -/
theorem step_copy_at {P : Program} {ops : Array Oper} {o : Oper} {a : Act} (w : World) {K : Act → World → Prop} {Q : Exit → Act → World → Prop} {E : Prop}
    (hg : o.guard = none) (s x : Operand) (t : TypeId) (ho : o.op = Op.call { callee := Callee.builtin Builtin.append, args := #[s, x], argTypes := #[t, t] })
    (base : Nat) (e : TypeId) (i : TypeInfo) (z : Value) (size bytes : Nat) (ht : P.underlying t = some (.slice e)) (hi : P.info? e = some i) (hz : i.zero = some z)
    (hsize : i.size = size) (hby : i.bytes = bytes) (hzs : z.cells.size = size) (hsz : 0 < size) (hs : a.eval s = .slice none 0 0)
    (ao : Option Addr) (m c : Nat) (news : List Value) (hx : a.eval x = .slice ao m c) (hao : ao = none → m = 0) (hl : news.length = m * size) (hnews : ∀ ad, ao = some ad → ∀ j u, news[j]? = some u → w.cell? (ad.add j) = some u) (h1 : ∀ u ∈ news, u.oneCell' = true)
    (h63 : m ≤ maxLen) (hbytes : m * bytes ≤ 140737488355328) (hbase : base ≤ w.heap.size)
    (h : ∀ v' w', w'.ownsRow base e size v' m news → w.grownBy w' (Value.slice none 0 0).ownBlock → K (a.put o.dst v') w') :
    if Region.wanted o (yielded ops a.tmps) = true then Oper.wp P o a w K Q else E := by
  have hw : Region.wanted o (yielded ops a.tmps) = true := by simp [Region.wanted, hg]
  rw [if_pos hw]
  obtain ⟨v', w', hr, h2, h3, _⟩ := run_copy_at (P := P) w base t o.type e i z size bytes ht hi hz hsize hby hzs hsz ao m c news hao hl hnews h1 h63 hbytes hbase
  unfold Oper.wp
  simp [execOp, ho, resolve, invoke, builtin, hs, hx, hr, Result.andThen]
  exact h _ _ h2 h3
theorem own_ne {w : World} {B1 B2 : Nat} {e1 e2 : TypeId} {s1 s2 : Nat} {v1 v2 : Value} {n1 n2 : Nat} {x1 x2 : List Value} (h1 : w.ownsRow B1 e1 s1 v1 n1 x1) (h2 : w.ownsRow B2 e2 s2 v2 n2 x2) (hne : e1 ≠ e2) (k : Nat) (hk : v1.ownBlock = some k) : v2.ownBlock ≠ some k := fun h => by
  obtain ⟨c1, hc1⟩ := row_cells h1 hk
  obtain ⟨c2, hc2⟩ := row_cells h2 h
  rw [hc1] at hc2
  injection hc2 with e
  injection e with _ e
  exact hne e
theorem own_bk {w : World} {B : Nat} {e t : TypeId} {s : Nat} {v : Value} {n : Nat} {xs : List Value} {bk : Nat} {cs : Array Value} (h : w.ownsRow B e s v n xs) (hb : w.heap[bk]? = some (.cells cs t (0, 0))) (hne : e ≠ t) : v.ownBlock ≠ some bk := fun hk => by
  obtain ⟨c1, hc1⟩ := row_cells h hk
  rw [hc1] at hb
  injection hb with e
  injection e with _ e
  exact hne e
theorem grown_alloc {w w2 : World} {x : Obj} {r : Option Nat} (hg : (w.alloc x).grownBy w2 r) : Kept (fun b => r = some b) w w2 := (Kept.of_below ((Below.refl _ _).alloc (Nat.le_refl _) _)).trans (Kept.of_grown hg)
theorem own_up {w w' : World} {base : Nat} {e : TypeId} {size : Nat} {v : Value} {n : Nat} {xs : List Value} {F : Nat → Prop} (h : w.ownsRow base e size v n xs) (hk : Kept F w w') (hF : ∀ b, v.ownBlock = some b → ¬ F b) : w'.ownsRow base e size v n xs := trow_at h fun b hb => hk.block b (h.lt b hb).2 (hF b hb)
end Go.Proofs.YtplofbabfkkimaaDoor
/- A queue of numbers in memory: a list that begins anywhere in its block; one more number goes behind it, the first one goes. -/
namespace Go.Proofs.YtplofbabfkkimaaDoor
open Go.RowKit Go.Maps
/-- The value is a list of these numbers, all its room its own, from B on. -/
def Que (w : World) (B : Nat) (v : Value) (zs : List Int) : Prop :=
  (v = .slice none 0 0 ∧ zs = []) ∨ ∃ g off cap cur, v = .slice (some ⟨g, off, none⟩) zs.length cap ∧ B ≤ g ∧ w.heap[g]? = some (.cells cur 3 (0, 0)) ∧ zs.length ≤ cap ∧ off + cap ≤ maxLen ∧ (off + cap = cur.size ∨ cap = 0 ∧ off ≤ cur.size) ∧ (cur.toList.drop off).take zs.length = iC zs
/-- A list that begins where its block begins. -/
def At0 (v : Value) : Prop := ∀ g off n cap, v = .slice (some ⟨g, off, none⟩) n cap → off = 0
theorem at0_of (g n cap : Nat) : At0 (.slice (some ⟨g, 0, none⟩) n cap) := fun _ _ _ _ e => by cases e; rfl
theorem at0_nil (n cap : Nat) : At0 (.slice none n cap) := fun _ _ _ _ e => by cases e
theorem Que.own {w : World} {B : Nat} {v : Value} {zs : List Int} (h : Que w B v zs) (h0 : At0 v) (h1 : 0 < zs.length) : OwnI w B v zs := by
  rcases h with ⟨rfl, rfl⟩ | ⟨g, off, cap, cur, rfl, hB, hg, hn, hm, hs, ht⟩
  · exact ⟨rfl, .inl ⟨rfl, rfl⟩⟩
  · obtain rfl := h0 _ _ _ _ rfl
    exact ⟨by simp [iC], .inr ⟨g, cap, cur, rfl, hB, hg, hn, by omega, by omega, by rw [Nat.mul_one]; rw [List.drop_zero] at ht; exact ht⟩⟩
theorem OwnI.at0 {w : World} {B : Nat} {v : Value} {zs : List Int} (h : OwnI w B v zs) : At0 v := by
  rcases h.2 with ⟨rfl, _⟩ | ⟨g, cap, cur, rfl, _⟩
  · exact at0_nil _ _
  · exact at0_of _ _ _
theorem Que.nil (w : World) (B : Nat) : Que w B (.slice none 0 0) [] := .inl ⟨rfl, rfl⟩
theorem Que.of_own {w : World} {B : Nat} {v : Value} {zs : List Int} (h : OwnI w B v zs) : Que w B v zs := by
  rcases h.2 with ⟨rfl, h0⟩ | ⟨g, cap, cur, rfl, hB, hg, hn, hm, hs, ht⟩
  · exact .inl ⟨rfl, List.length_eq_zero_iff.1 h0⟩
  · exact .inr ⟨g, 0, cap, cur, rfl, hB, hg, hn, by omega, by omega, by rw [List.drop_zero, ← ht, Nat.mul_one]⟩
theorem Que.lt {w : World} {B : Nat} {v : Value} {zs : List Int} (h : Que w B v zs) : ∀ b, v.ownBlock = some b → B ≤ b ∧ b < w.heap.size := by
  rcases h with ⟨rfl, _⟩ | ⟨g, off, cap, cur, rfl, hB, hg, _⟩
  · intro b hb; cases hb
  · intro b hb; cases hb; exact ⟨hB, t_lt hg⟩
theorem Que.at {w w' : World} {B : Nat} {v : Value} {zs : List Int} (h : Que w B v zs) (hb : ∀ b, v.ownBlock = some b → w'.heap[b]? = w.heap[b]?) : Que w' B v zs := by
  rcases h with h | ⟨g, off, cap, cur, rfl, hB, hg, h⟩
  · exact .inl h
  · exact .inr ⟨g, off, cap, cur, rfl, hB, (hb g rfl).trans hg, h⟩
theorem Que.typed {w : World} {B : Nat} {v : Value} {zs : List Int} (h : Que w B v zs) {b : Nat} (hb : v.ownBlock = some b) : ∃ cs, w.heap[b]? = some (.cells cs 3 (0, 0)) := by
  rcases h with ⟨rfl, _⟩ | ⟨g, off, cap, cur, rfl, hB, hg, _⟩
  · cases hb
  · cases hb; exact ⟨cur, hg⟩
theorem Que.shape {w : World} {B : Nat} {v : Value} {zs : List Int} (h : Que w B v zs) : ∃ ao cap, v = .slice ao zs.length cap ∧ zs.length ≤ cap := by
  rcases h with ⟨rfl, rfl⟩ | ⟨g, off, cap, cur, rfl, hB, hg, hn, _⟩
  · exact ⟨none, 0, rfl, Nat.le_refl _⟩
  · exact ⟨_, cap, rfl, hn⟩
/-- The first number, and the rest of the queue. -/
theorem Que.first {w : World} {B : Nat} {ao : Option Addr} {n cap : Nat} {z : Int} {zs : List Int} (h : Que w B (.slice ao n cap) (z :: zs)) : ∃ g off, ao = some ⟨g, off, none⟩ ∧ n = zs.length + 1 ∧ w.cell? ⟨g, off, none⟩ = some (.int .i64 z) ∧ (0 < cap - 1 → Que w B (.slice (some ⟨g, off + 1, none⟩) zs.length (cap - 1)) zs) ∧ (cap - 1 = 0 → zs = [] ∧ Que w B (.slice (some ⟨g, off, none⟩) 0 0) []) := by
  rcases h with ⟨e, h⟩ | ⟨g, off, cap', cur, e, hB, hg, hn, hm, hs, ht⟩
  · cases h
  · injection e with e1 e2 e3
    subst e1; subst e2; subst e3
    simp only [List.length_cons] at hn ht
    refine ⟨g, off, rfl, rfl, ?_, fun hc => .inr ⟨g, off + 1, cap - 1, cur, rfl, hB, hg, by omega, by omega, by omega, ?_⟩, fun hc => ?_⟩
    · refine cell0_of hg ?_
      rw [← Array.getElem?_toList]
      have h1 : ((cur.toList.drop off).take (zs.length + 1))[0]? = some (.int .i64 z) := by rw [ht]; rfl
      rw [List.getElem?_take_of_lt (by omega), List.getElem?_drop] at h1
      exact h1
    · have h1 : ((cur.toList.drop off).take (zs.length + 1)).drop 1 = (iC (z :: zs)).drop 1 := by rw [ht]
      rw [List.drop_take, List.drop_drop] at h1
      simpa [iC] using h1
    · have h0 : zs = [] := List.length_eq_zero_iff.1 (by omega)
      exact ⟨h0, .inr ⟨g, off, 0, cur, rfl, hB, hg, by simp, by omega, by omega, by simp [iC]⟩⟩
/-- One more number goes behind. -/
theorem que_append (ty : TypeId) (x : Int) (ad : Addr) (c : Nat) (v : Value) (zs : List Int) (B : Nat) (w : World) (h : Que w B v zs) (hx : w.cell? (ad.add 0) = some (.int .i64 x)) (hn : zs.length ≤ 1000000) (hB : B ≤ w.heap.size) :
    ∃ v' w', (Builtin.append_ #[26, 26] ty #[v, .slice (some ad) 1 c]).run Tryd.prog w = .ok v' w' ∧ Que w' B v' (zs ++ [x]) ∧ w.grownBy w' v.ownBlock ∧ (v'.ownBlock = v.ownBlock ∨ v'.ownBlock = some w.heap.size) ∧ (At0 v → At0 v') := by
  obtain ⟨i0, hi0, hz0, hz1, hz2⟩ := info_parts Tryd.infoI3
  have hnews : ∀ j u, [Value.int .i64 x][j]? = some u → w.cell? (ad.add j) = some u := fun j u hu => by
    rcases j with _ | j
    · cases hu; exact hx
    · simp at hu
  by_cases hroom : ∃ g off cap cur, v = .slice (some ⟨g, off, none⟩) zs.length cap ∧ B ≤ g ∧ w.heap[g]? = some (.cells cur 3 (0, 0)) ∧ zs.length + 1 ≤ cap ∧ off + cap ≤ maxLen ∧ (off + cap = cur.size ∨ cap = 0 ∧ off ≤ cur.size) ∧ (cur.toList.drop off).take zs.length = iC zs
  · obtain ⟨g, off, cap, cur, rfl, hg, hc, hl, hm, hs, ht⟩ := hroom
    have hS := Src.ofSlice (P := Tryd.prog) w (size := i0.size) (tx := 26) Tryd.underlying26 ad 1 c [.int .i64 x] (by rw [hz1]; rfl) hnews (by simp [Value.oneCell'])
    have hcell : w.cell? ⟨g, off + zs.length, none⟩ = some (cur[off + zs.length]'(by omega)) := cell0_of hc (Array.getElem?_eq_getElem _)
    have hr := run_append_room_src (P := Tryd.prog) w 26 26 ty 3 i0 Tryd.underlying26 hi0 g off zs.length cap _ 1 _ hS (by omega) (fun j hj => by
      obtain rfl : j = 0 := by simp at hj; omega
      rw [hz1, Nat.mul_one, Nat.add_zero, hcell]; rfl) (fun j _ => blk_free hc _)
    have e1 : w.setCells g (off + zs.length * i0.size) [.int .i64 x] = w.setCell ⟨g, off + zs.length, none⟩ (.int .i64 x) := by rw [hz1, Nat.mul_one]; simp [World.setCells]
    rw [e1] at hr
    refine ⟨_, _, hr, .inr ⟨g, off, cap, cur.setIfInBounds (off + zs.length) (.int .i64 x), by simp, hg, heap_setCell_same w g _ cur _ _ hc, by simp; omega, hm, by simp; omega, ?_⟩, ⟨rfl, rfl, rfl, by simp, fun k _ hk => set_other _ _ _ _ _ (fun e => hk (by rw [e]; rfl))⟩, .inl rfl, fun h0 _ _ _ _ e => by cases e; exact h0 _ _ _ _ rfl⟩
    rw [Array.toList_setIfInBounds]
    apply List.ext_getElem?
    intro j
    simp only [List.length_append, List.length_cons, List.length_nil]
    rcases Nat.lt_or_ge j zs.length with hj | hj
    · rw [List.getElem?_take_of_lt (by omega), List.getElem?_drop, List.getElem?_set_ne (by omega)]
      have h9 : ((cur.toList.drop off).take zs.length)[j]? = (iC zs)[j]? := by rw [ht]
      rw [List.getElem?_take_of_lt hj, List.getElem?_drop] at h9
      rw [h9]
      simp [iC, List.getElem?_append_left, hj]
    · rcases Nat.lt_or_ge j (zs.length + 1) with hj2 | hj2
      · obtain rfl : j = zs.length := by omega
        rw [List.getElem?_take_of_lt (by omega), List.getElem?_drop, List.getElem?_set_self (by simp; omega)]
        simp [iC]
      · rw [List.getElem?_eq_none (by simp; omega), List.getElem?_eq_none (by simp [iC]; omega)]
  · have hO : ∃ base cap, v = .slice base zs.length cap ∧ cap < zs.length + 1 ∧ ∀ j u, (iC zs)[j]? = some u → ∃ a, base = some a ∧ w.cell? (a.add j) = some u := by
      rcases h with ⟨rfl, rfl⟩ | ⟨g, off, cap, cur, rfl, hg, hc, hl, hm, hs, ht⟩
      · exact ⟨none, 0, rfl, by simp, fun j u hu => by simp [iC] at hu⟩
      · refine ⟨_, cap, rfl, ?_, fun j u hu => ⟨_, rfl, ?_⟩⟩
        · rcases Nat.lt_or_ge cap (zs.length + 1) with h1 | h1
          · exact h1
          · exact absurd ⟨g, off, cap, cur, rfl, hg, hc, h1, hm, hs, ht⟩ hroom
        · have hj : j < zs.length := by have := (List.getElem?_eq_some_iff.1 hu).1; simp [iC] at this; exact this
          rw [Addr.add_lit]
          refine cell0_of hc ?_
          rw [← Array.getElem?_toList]
          rw [← ht, List.getElem?_take_of_lt hj, List.getElem?_drop] at hu
          exact hu
    obtain ⟨base, cap, rfl, hcap, hold⟩ := hO
    have hS := Src.ofSlice (P := Tryd.prog) w (size := i0.size) (tx := 26) Tryd.underlying26 ad 1 c [.int .i64 x] (by rw [hz1]; rfl) hnews (by simp [Value.oneCell'])
    have hfc : (Builtin.firstCells i0.size zs.length (.slice base zs.length cap)).run Tryd.prog w.drew = .ok (iC zs).toArray w.drew := by
      cases base with
      | none =>
        have h0 : zs = [] := by
          cases zs with
          | nil => rfl
          | cons z r => obtain ⟨a, ha, _⟩ := hold 0 _ rfl; cases ha
        subst h0
        exact run_firstCells_none (P := Tryd.prog) w.drew i0.size 0 0 cap
      | some a => exact run_firstCells_some (P := Tryd.prog) w.drew i0.size zs.length a zs.length cap (iC zs) (by rw [hz1, iC_length]) (fun j u hu => by obtain ⟨a', ha, hc⟩ := hold j u hu; cases ha; simpa using hc)
    have hr := run_append_grow_src (P := Tryd.prog) w 26 26 ty 3 i0 _ Tryd.underlying26 hi0 hz0 base zs.length cap (iC zs) hfc _ 1 _ hS hcap (by omega) (growslice_fits hcap (by rw [hz2]; omega))
    have hge := grownCap_ge w (zs.length + 1) cap 3
    have hle := grownCap_le_maxLen w (zs.length + 1) cap 3 (by unfold maxLen; omega)
    refine ⟨_, _, hr, .inr ⟨w.heap.size, 0, grownCap w (zs.length + 1) cap 3, _, by simp, hB, heap_alloc_new w.drew _, by simp; omega, by omega, ?_, ?_⟩, ⟨rfl, rfl, rfl, by simp, fun k hk _ => (heap_alloc_old w.drew _ hk : _)⟩, .inr rfl, fun _ => at0_of _ _ _⟩
    · have hc1 : (Value.int .i64 0).cells.size = 1 := rfl
      simp [size_zeroCells, iC, hc1]
      omega
    · rw [List.drop_zero, Array.toList_append, List.toList_toArray]
      have e2 : iC zs ++ [Value.int .i64 x] = iC (zs ++ [x]) := by simp [iC]
      rw [e2]
      have e3 : (iC (zs ++ [x])).length = (zs ++ [x]).length := by simp [iC]
      rw [← e3]
      exact List.take_left
end Go.Proofs.YtplofbabfkkimaaDoor
/- The lists of numbers that an object owns, no two in one block; the cells of a run's heaps. -/
namespace Go.Proofs.YtplofbabfkkimaaDoor
open Go.RowKit Go.Maps
/-- Lists of numbers, each with all its room its own, no two in one block. -/
structure QueAll (w : World) (B : Nat) (L : List (Value × List Int)) : Prop where
  q : ∀ (i : Nat) (z : Value × List Int), L[i]? = some z → Que w B z.1 z.2
  ap : ∀ (i j : Nat) (z y : Value × List Int) (b : Nat), L[i]? = some z → L[j]? = some y → i ≠ j → z.1.ownBlock = some b → y.1.ownBlock ≠ some b
/-- The blocks of these lists. -/
def Foot (L : List (Value × List Int)) (b : Nat) : Prop := ∃ z ∈ L, z.1.ownBlock = some b
theorem QueAll.lt {w : World} {B : Nat} {L : List (Value × List Int)} (h : QueAll w B L) {b : Nat} (hb : Foot L b) : B ≤ b ∧ b < w.heap.size := by
  obtain ⟨z, hz, e⟩ := hb
  obtain ⟨i, hi⟩ := List.mem_iff_getElem?.1 hz
  exact (h.q i z hi).lt b e
theorem QueAll.typed {w : World} {B : Nat} {L : List (Value × List Int)} (h : QueAll w B L) {b : Nat} (hb : Foot L b) : ∃ cs, w.heap[b]? = some (.cells cs 3 (0, 0)) := by
  obtain ⟨z, hz, e⟩ := hb
  obtain ⟨i, hi⟩ := List.mem_iff_getElem?.1 hz
  exact (h.q i z hi).typed e
theorem QueAll.kept {w w' : World} {B : Nat} {L : List (Value × List Int)} {F : Nat → Prop} (h : QueAll w B L) (hk : Kept F w w') (hF : ∀ b, Foot L b → ¬ F b) : QueAll w' B L :=
  ⟨fun i z hz => (h.q i z hz).at fun b hb => hk.block b ((h.q i z hz).lt b hb).2 (hF b ⟨z, List.mem_of_getElem? hz, hb⟩), h.ap⟩
theorem QueAll.below {w w' : World} {B : Nat} {L : List (Value × List Int)} (h : QueAll w B L) (hb : Below w.heap.size w w') : QueAll w' B L := h.kept (F := fun _ => False) ⟨hb.os, hb.tape, hb.output, hb.size, fun i hi _ => hb.block i hi⟩ fun _ _ hf => hf
/-- One of the lists is another now. -/
theorem QueAll.put {w w' : World} {B k : Nat} {L : List (Value × List Int)} {v v' : Value} {zs zs' : List Int} (h : QueAll w B L) (hL : L[k]? = some (v, zs)) (hk : Kept (fun b => v.ownBlock = some b) w w') (hq : Que w' B v' zs') (hat : v'.ownBlock = v.ownBlock ∨ ∀ b, v'.ownBlock = some b → w.heap.size ≤ b) : QueAll w' B (L.set k (v', zs')) := by
  have hkl := (List.getElem?_eq_some_iff.1 hL).1
  have hold : ∀ (j : Nat) (y : Value × List Int) (b : Nat), L[j]? = some y → j ≠ k → y.1.ownBlock = some b → v'.ownBlock ≠ some b := fun j y b hy hj hb e => by
    rcases hat with h1 | h1
    · rw [h1] at e; exact h.ap j k y (v, zs) b hy hL hj hb e
    · have h2 := h1 b e
      have h3 := ((h.q j y hy).lt b hb).2
      omega
  refine ⟨fun i z hz => ?_, fun i j z y b hz hy hne hb => ?_⟩
  · by_cases e : i = k
    · subst e
      rw [List.getElem?_set_self hkl] at hz
      cases hz
      exact hq
    · rw [List.getElem?_set_ne (fun e2 => e e2.symm)] at hz
      exact (h.q i z hz).at fun b hb => hk.block b ((h.q i z hz).lt b hb).2 fun hv => h.ap i k z (v, zs) b hz hL e hb hv
  · by_cases ei : i = k
    · subst ei
      rw [List.getElem?_set_self hkl] at hz
      cases hz
      rw [List.getElem?_set_ne hne] at hy
      exact fun e => hold j y b hy (fun e2 => hne e2.symm) e hb
    · rw [List.getElem?_set_ne (fun e2 => ei e2.symm)] at hz
      by_cases ej : j = k
      · subst ej
        rw [List.getElem?_set_self hkl] at hy
        cases hy
        exact hold i z b hz ei hb
      · rw [List.getElem?_set_ne (fun e2 => ej e2.symm)] at hy
        exact h.ap i j z y b hz hy hne hb
/-- One more list, in memory that is new. -/
theorem QueAll.snoc {w w' : World} {B : Nat} {L : List (Value × List Int)} {v' : Value} {zs' : List Int} (h : QueAll w B L) (hb : Below w.heap.size w w') (hq : Que w' B v' zs') (hat : ∀ b, v'.ownBlock = some b → w.heap.size ≤ b) : QueAll w' B (L ++ [(v', zs')]) := by
  have hold : ∀ (j : Nat) (y : Value × List Int) (b : Nat), L[j]? = some y → y.1.ownBlock = some b → v'.ownBlock ≠ some b := fun j y b hy hyb e => by
    have h2 := hat b e
    have h3 := ((h.q j y hy).lt b hyb).2
    omega
  have hN : ∀ (i : Nat) (z : Value × List Int), (L ++ [(v', zs')])[i]? = some z → (i < L.length ∧ L[i]? = some z) ∨ (i = L.length ∧ z = (v', zs')) := fun i z hz => by
    rcases Nat.lt_or_ge i L.length with h1 | h1
    · rw [List.getElem?_append_left h1] at hz; exact .inl ⟨h1, hz⟩
    · rw [List.getElem?_append_right h1] at hz
      have h2 := (List.getElem?_eq_some_iff.1 hz).1
      simp at h2
      have h3 : i = L.length := by omega
      subst h3
      simp at hz
      exact .inr ⟨rfl, hz.symm⟩
  refine ⟨fun i z hz => ?_, fun i j z y b hz hy hne hzb => ?_⟩
  · rcases hN i z hz with ⟨_, h1⟩ | ⟨_, rfl⟩
    · exact (h.below hb).q i z h1
    · exact hq
  · rcases hN i z hz with ⟨_, h1⟩ | ⟨e1, rfl⟩
    · rcases hN j y hy with ⟨_, h2⟩ | ⟨_, rfl⟩
      · exact h.ap i j z y b h1 h2 hne hzb
      · exact hold i z b h1 hzb
    · rcases hN j y hy with ⟨_, h2⟩ | ⟨e2, rfl⟩
      · exact fun e => hold j y b h2 e hzb
      · exact absurd (e1.trans e2.symm) hne
theorem foot_set {L : List (Value × List Int)} {k b : Nat} {z : Value × List Int} (h : Foot (L.set k z) b) : Foot L b ∨ z.1.ownBlock = some b := by
  obtain ⟨y, hy, e⟩ := h
  rcases List.mem_or_eq_of_mem_set hy with h1 | rfl
  · exact .inl ⟨y, h1, e⟩
  · exact .inr e
theorem foot_snoc {L : List (Value × List Int)} {b : Nat} {z : Value × List Int} (h : Foot (L ++ [z]) b) : Foot L b ∨ z.1.ownBlock = some b := by
  obtain ⟨y, hy, e⟩ := h
  rcases List.mem_append.1 hy with h1 | h1
  · exact .inl ⟨y, h1, e⟩
  · rw [List.mem_singleton.1 h1] at e; exact .inr e
/-- The cells of heaps: of each its blocks, how many states it has. -/
def hpC : List (Value × List Int) → List Nat → List Value
  | z :: r, k :: ks => z.1 :: .int .i64 (k : Int) :: hpC r ks
  | _, _ => []
theorem hpC_len : ∀ (H : List (Value × List Int)) (ks : List Nat), H.length = ks.length → (hpC H ks).length = ks.length * 2
  | [], [], _ => rfl
  | [], _ :: _, h => by simp at h
  | _ :: _, [], h => by simp at h
  | _ :: r, _ :: ks, h => by simp only [hpC, List.length_cons, hpC_len r ks (by simpa using h)]; omega
theorem hpC_at : ∀ (H : List (Value × List Int)) (ks : List Nat) (i : Nat) (z : Value × List Int) (k : Nat), H[i]? = some z → ks[i]? = some k → (hpC H ks)[i * 2]? = some z.1 ∧ (hpC H ks)[i * 2 + 1]? = some (.int .i64 (k : Int))
  | [], _, _, _, _, h, _ => by simp at h
  | _ :: _, [], _, _, _, _, h => by simp at h
  | y :: r, j :: ks, 0, z, k, h1, h2 => by simp at h1 h2; subst h1; subst h2; simp [hpC]
  | y :: r, j :: ks, i + 1, z, k, h1, h2 => by
    have ih := hpC_at r ks i z k (by simpa using h1) (by simpa using h2)
    simp only [hpC]
    rw [show (i + 1) * 2 = i * 2 + 2 by omega, show i * 2 + 2 + 1 = i * 2 + 1 + 2 by omega]
    simpa using ih
theorem hpC_set : ∀ (H : List (Value × List Int)) (ks : List Nat) (i : Nat) (z : Value × List Int), (hpC H ks).set (i * 2) z.1 = hpC (H.set i z) ks
  | [], _, _, _ => by simp [hpC]
  | _ :: _, [], i, _ => by cases i <;> simp [hpC]
  | y :: r, j :: ks, 0, z => by simp [hpC]
  | y :: r, j :: ks, i + 1, z => by
    have ih := hpC_set r ks i z
    simp only [hpC, List.set_cons_succ]
    rw [show (i + 1) * 2 = i * 2 + 2 by omega]
    simp only [List.set_cons_succ, ih]
theorem hpC_setk : ∀ (H : List (Value × List Int)) (ks : List Nat) (i k : Nat), (hpC H ks).set (i * 2 + 1) (.int .i64 (k : Int)) = hpC H (ks.set i k)
  | [], _, _, _ => by simp [hpC]
  | _ :: _, [], i, _ => by simp [hpC]
  | y :: r, j :: ks, 0, k => by simp [hpC]
  | y :: r, j :: ks, i + 1, k => by
    have ih := hpC_setk r ks i k
    simp only [hpC, List.set_cons_succ]
    rw [show (i + 1) * 2 = i * 2 + 1 + 1 by omega]
    simp only [List.set_cons_succ, ih]
theorem hpC_snoc : ∀ (H : List (Value × List Int)) (ks : List Nat) (z : Value × List Int) (k : Nat), H.length = ks.length → hpC (H ++ [z]) (ks ++ [k]) = hpC H ks ++ [z.1, .int .i64 (k : Int)]
  | [], [], _, _, _ => rfl
  | [], _ :: _, _, _, h => by simp at h
  | _ :: _, [], _, _, h => by simp at h
  | y :: r, j :: ks, z, k, h => by simp only [List.cons_append, hpC, hpC_snoc r ks z k (by simpa using h)]
end Go.Proofs.YtplofbabfkkimaaDoor
/- Queues of numbers in memory: a number of one is another now; one more number goes behind; the last one goes. -/
namespace Go.Proofs.YtplofbabfkkimaaDoor.Ts
open Go.RowKit Go.Maps
theorem que_cell {w : World} {B : Nat} {v : Value} {zs : List Int} (h : Que w B v zs) {i : Nat} {z : Int} (hi : zs[i]? = some z) : ∃ g off cap, v = .slice (some ⟨g, off, none⟩) zs.length cap ∧ zs.length ≤ cap ∧ w.cell? ⟨g, off + i, none⟩ = some (.int .i64 z) ∧ w.frozen? ⟨g, off + i, none⟩ = false := by
  have hl := (List.getElem?_eq_some_iff.1 hi).1
  rcases h with ⟨_, rfl⟩ | ⟨g, off, cap, cur, rfl, hB, hg, hn, hm, hs, ht⟩
  · simp at hi
  · refine ⟨g, off, cap, rfl, hn, cell0_of hg ?_, blk_free hg _⟩
    rw [← Array.getElem?_toList]
    have h9 : ((cur.toList.drop off).take zs.length)[i]? = (iC zs)[i]? := by rw [ht]
    rw [List.getElem?_take_of_lt hl, List.getElem?_drop] at h9
    rw [h9]
    simp [iC, hi]
theorem que_set {w : World} {B g off n cap : Nat} {zs : List Int} (h : Que w B (.slice (some ⟨g, off, none⟩) n cap) zs) {i : Nat} (hi : i < zs.length) (z : Int) : Que (w.setCell ⟨g, off + i, none⟩ (.int .i64 z)) B (.slice (some ⟨g, off, none⟩) n cap) (zs.set i z) := by
  rcases h with ⟨e, _⟩ | ⟨g', off', cap', cur, e, hB, hg, hn, hm, hs, ht⟩
  · cases e
  · cases e
    refine .inr ⟨g, off, cap, _, by rw [List.length_set], hB, heap_setCell_same w g _ cur _ _ hg, by rw [List.length_set]; exact hn, hm, by simp; omega, ?_⟩
    rw [Array.toList_setIfInBounds, List.length_set]
    apply List.ext_getElem?
    intro j
    rcases Nat.lt_or_ge j zs.length with hj | hj
    · have h9 : ((cur.toList.drop off).take zs.length)[j]? = (iC zs)[j]? := by rw [ht]
      rw [List.getElem?_take_of_lt hj, List.getElem?_drop] at h9
      rw [List.getElem?_take_of_lt hj, List.getElem?_drop]
      by_cases e : j = i
      · subst e
        rw [List.getElem?_set_self (by simp; omega)]
        simp [iC, hi]
      · rw [List.getElem?_set_ne (by omega), h9]
        simp only [iC, List.getElem?_map]
        rw [List.getElem?_set_ne (fun e2 => e e2.symm)]
    · rw [List.getElem?_eq_none (by simp; omega), List.getElem?_eq_none (by simp [iC]; omega)]
theorem qall_set {w : World} {B k g off n cap i : Nat} {L : List (Value × List Int)} {zs : List Int} (h : QueAll w B L) (hL : L[k]? = some (.slice (some ⟨g, off, none⟩) n cap, zs)) (hi : i < zs.length) (z : Int) : QueAll (w.setCell ⟨g, off + i, none⟩ (.int .i64 z)) B (L.set k (.slice (some ⟨g, off, none⟩) n cap, zs.set i z)) :=
  h.put hL ((Kept.setCell w g (off + i) _).mono fun b _ e => by rw [e]; rfl) (que_set (h.q k _ hL) hi z) (.inl rfl)
theorem box_put {w : World} {b k : Nat} {cs : Array Value} {t : TypeId} (h : w.heap[b]? = some (.cells cs t (0, 0))) (v : Value) : (w.setCell ⟨b, k, none⟩ v).heap[b]? = some (.cells (cs.setIfInBounds k v) t (0, 0)) := heap_setCell_same w b k cs t _ h
theorem qall_box {w : World} {B r k : Nat} {L : List (Value × List Int)} (h : QueAll w B L) (hr : ∀ b, Foot L b → b ≠ r) (v : Value) : QueAll (w.setCell ⟨r, k, none⟩ v) B L := h.kept (Kept.setCell w r k v) fun b hb e => hr b hb e
theorem seven_cells {w : World} {b : Nat} {a0 a1 a2 a3 a4 a5 a6 : Value} {t : TypeId} (h : w.heap[b]? = some (.cells #[a0, a1, a2, a3, a4, a5, a6] t (0, 0))) : w.cell? ⟨b, 0, none⟩ = some a0 ∧ w.cell? ⟨b, 1, none⟩ = some a1 ∧ w.cell? ⟨b, 2, none⟩ = some a2 ∧ w.cell? ⟨b, 3, none⟩ = some a3 ∧ w.cell? ⟨b, 4, none⟩ = some a4 ∧ w.cell? ⟨b, 5, none⟩ = some a5 ∧ w.cell? ⟨b, 6, none⟩ = some a6 :=
  ⟨cell0_of h rfl, cell0_of h rfl, cell0_of h rfl, cell0_of h rfl, cell0_of h rfl, cell0_of h rfl, cell0_of h rfl⟩
theorem wp_que_append {o : Oper} {a : Act} {K : Act → World → Prop} {Q : Exit → Act → World → Prop} (w : World) (s x : Operand) (ho : o.op = .call { callee := .builtin .append, args := #[s, x], argTypes := #[26, 26] })
    (v : Value) (zs : List Int) (B : Nat) (hs : a.eval s = v) (hq : Que w B v zs) (ad : Addr) (c : Nat) (z : Int) (hx : a.eval x = .slice (some ad) 1 c) (hc : w.cell? (ad.add 0) = some (.int .i64 z)) (hn : zs.length ≤ 1000000) (hB : B ≤ w.heap.size)
    (h : ∀ v' w', Que w' B v' (zs ++ [z]) → w.grownBy w' v.ownBlock → (v'.ownBlock = v.ownBlock ∨ v'.ownBlock = some w.heap.size) → (At0 v → At0 v') → K (a.put o.dst v') w') : o.wp Tryd.prog a w K Q := by
  obtain ⟨v', w', hr, h2, h3, h4, h5⟩ := que_append o.type z ad c v zs B w hq hc hn hB
  unfold Oper.wp execOp
  simp only [ho, resolve, invoke, builtin, Sem.run_bind, Sem.run_pure, Result.andThen_ok, List.map_toArray, List.map_cons, List.map_nil, hs, hx, hr]
  exact h v' w' h2 h3 h4 h5
theorem wpList_que_append {ops : Array Oper} {rest : List Oper} {o : Oper} {a : Act} {Q : Exit → Act → World → Prop} (w : World) (hgd : o.guard = none) (s x : Operand) (ho : o.op = .call { callee := .builtin .append, args := #[s, x], argTypes := #[26, 26] })
    (v : Value) (zs : List Int) (B : Nat) (hs : a.eval s = v) (hq : Que w B v zs) (ad : Addr) (c : Nat) (z : Int) (hx : a.eval x = .slice (some ad) 1 c) (hc : w.cell? (ad.add 0) = some (.int .i64 z)) (hn : zs.length ≤ 1000000) (hB : B ≤ w.heap.size)
    (h : ∀ v' w', Que w' B v' (zs ++ [z]) → w.grownBy w' v.ownBlock → (v'.ownBlock = v.ownBlock ∨ v'.ownBlock = some w.heap.size) → (At0 v → At0 v') → wpList Tryd.prog ops Q rest (a.put o.dst v') w') : wpList Tryd.prog ops Q (o :: rest) a w :=
  wpList_plain hgd fun _ hK => wp_que_append w s x ho v zs B hs hq ad c z hx hc hn hB fun v' w' h2 h3 h4 h5 => hK _ _ (h v' w' h2 h3 h4 h5)
theorem que_alloc {w : World} {B : Nat} {v : Value} {zs : List Int} (h : Que w B v zs) (o : Obj) : Que (w.alloc o) B v zs := h.at fun b hb => ((Below.refl _ w).alloc (Nat.le_refl _) o).block b (h.lt b hb).2
theorem que_up {w : World} {v v' : Value} {o : Obj} (h : v'.ownBlock = v.ownBlock ∨ v'.ownBlock = some (w.alloc o).heap.size) : v'.ownBlock = v.ownBlock ∨ ∀ b, v'.ownBlock = some b → w.heap.size ≤ b := by
  rcases h with h | h
  · exact .inl h
  · refine .inr fun b hb => ?_
    rw [h] at hb
    have := Option.some.inj hb
    rw [World.size_alloc] at this
    omega
theorem one_cell (w : World) (z : Int) : (w.alloc (.cells #[.int .i64 z] 3)).cell? ((⟨w.heap.size, 0, none⟩ : Addr).add 0) = some (.int .i64 z) := by
  rw [Addr.add_lit]
  exact cell0_of (heap_alloc_new w _) rfl
theorem que_slice {w : World} {B : Nat} {v : Value} {zs : List Int} (h : Que w B v zs) : ∃ a n c, v = .slice a n c := by
  obtain ⟨a, c, e, _⟩ := h.shape
  exact ⟨a, _, c, e⟩
/-- The last number goes. -/
theorem que_pop {w : World} {B g off n cap : Nat} {zs : List Int} {z : Int} (h : Que w B (.slice (some ⟨g, off, none⟩) n cap) (zs ++ [z])) : Que w B (.slice (some ⟨g, off, none⟩) zs.length cap) zs ∧ zs.length ≤ cap ∧ n = zs.length + 1 := by
  rcases h with ⟨e, _⟩ | ⟨g', off', cap', cur, e, hB, hg, hn, hm, hs, ht⟩
  · cases e
  · injection e with e1 e2 e3
    injection e1 with e1
    injection e1 with e4 e5
    subst e2; subst e3; subst e4; subst e5
    simp only [List.length_append, List.length_cons, List.length_nil, Nat.zero_add] at hn ht
    refine ⟨.inr ⟨g, off, cap, cur, rfl, hB, hg, by omega, hm, hs, ?_⟩, by omega, by simp⟩
    have h1 := congrArg (List.take zs.length) ht
    rw [List.take_take, Nat.min_eq_left (by omega)] at h1
    rw [h1]
    simp [iC]
end Go.Proofs.YtplofbabfkkimaaDoor.Ts
/- Plain facts on keys that are numbered in the order in which they come, and on rounds. Nothing of the program is in it. -/
namespace Go.Proofs.YtplofbabfkkimaaDoor.Ro
section
variable {K : Type} [DecidableEq K]
/-- The place of a key in a list; the list's length, if it is not there. -/
def place (c : K) : List K → Nat
  | [] => 0
  | a :: r => if a = c then 0 else place c r + 1
/-- A key goes behind those that were seen, unless it is one of them. -/
def more (c : K) (l : List K) : List K := if c ∈ l then l else l ++ [c]
/-- The keys, each once, in the order in which they come. -/
def dd (l : List K) : List K := l.foldl (fun s c => more c s) []
/-- Of each key its number. -/
def num (l : List K) : List Nat := l.map fun z => place z (dd l)
theorem place_le (c : K) (l : List K) : place c l ≤ l.length := by
  induction l with
  | nil => simp [place]
  | cons a r ih => unfold place; split <;> simp <;> omega
theorem place_lt {c : K} {l : List K} : place c l < l.length ↔ c ∈ l := by
  induction l with
  | nil => simp [place]
  | cons a r ih =>
    unfold place
    by_cases h : a = c
    · simp [h]
    · rw [if_neg h, List.length_cons, Nat.add_lt_add_iff_right, ih, List.mem_cons]
      exact ⟨fun h1 => .inr h1, fun h1 => h1.elim (fun e => absurd e.symm h) id⟩
theorem place_no {c : K} {l : List K} (h : c ∉ l) : place c l = l.length := by
  have h1 := place_le c l
  have h2 : ¬ place c l < l.length := fun h2 => h (place_lt.1 h2)
  omega
theorem place_at {c : K} {l : List K} (h : c ∈ l) : l[place c l]? = some c := by
  induction l with
  | nil => simp at h
  | cons a r ih =>
    unfold place
    by_cases h1 : a = c
    · simp [h1]
    · rw [if_neg h1, List.getElem?_cons_succ]
      exact ih ((List.mem_cons.1 h).elim (fun e => absurd e.symm h1) id)
theorem place_inj {a b : K} {l : List K} (ha : a ∈ l) (hb : b ∈ l) (h : place a l = place b l) : a = b := by
  have h1 := place_at ha
  rw [h, place_at hb] at h1
  exact (Option.some.inj h1).symm
theorem place_left {c : K} {a : List K} (b : List K) (h : c ∈ a) : place c (a ++ b) = place c a := by
  induction a with
  | nil => simp at h
  | cons x r ih =>
    simp only [List.cons_append, place]
    by_cases h1 : x = c
    · simp [h1]
    · rw [if_neg h1, if_neg h1, ih ((List.mem_cons.1 h).elim (fun e => absurd e.symm h1) id)]
theorem place_more (c : K) (l : List K) : place c (more c l) = place c l := by
  unfold more
  split
  · rfl
  · rename_i h
    rw [place_no h]
    induction l with
    | nil => simp [place]
    | cons x r ih =>
      have hx : x ≠ c := fun e => h (by rw [e]; exact List.mem_cons_self)
      have hr : c ∉ r := fun e => h (List.mem_cons_of_mem _ e)
      simp only [List.cons_append, place]
      rw [if_neg hx, ih hr]
      simp
theorem dd_snoc (l : List K) (c : K) : dd (l ++ [c]) = more c (dd l) := by simp [dd]
theorem mem_more {c x : K} {l : List K} : x ∈ more c l ↔ x ∈ l ∨ x = c := by
  unfold more
  split
  · rename_i h
    exact ⟨.inl, fun h1 => h1.elim id fun e => by rw [e]; exact h⟩
  · simp
/-- Induction over lists from behind. -/
theorem snoc_ind {α : Type} {P : List α → Prop} (h0 : P []) (hs : ∀ l x, P l → P (l ++ [x])) (l : List α) : P l := by
  have h : ∀ n (l : List α), l.length = n → P l := fun n => by
    induction n with
    | zero => intro l hl; rw [List.length_eq_zero_iff.1 hl]; exact h0
    | succ n ih =>
      intro l hl
      rcases List.eq_nil_or_concat l with rfl | ⟨m, x, rfl⟩
      · simp at hl
      · rw [List.concat_eq_append]
        exact hs m x (ih m (by simp at hl; omega))
  exact h _ l rfl
theorem mem_dd {x : K} (l : List K) : x ∈ dd l ↔ x ∈ l := by
  refine snoc_ind (P := fun l => x ∈ dd l ↔ x ∈ l) (by simp [dd]) (fun l c ih => ?_) l
  rw [dd_snoc, mem_more, ih]
  simp
theorem num_len (l : List K) : (num l).length = l.length := by simp [num]
theorem num_snoc (l : List K) (c : K) : num (l ++ [c]) = num l ++ [place c (dd l)] := by
  unfold num
  rw [List.map_append, dd_snoc]
  congr 1
  · refine List.map_congr_left fun z hz => ?_
    have h1 : z ∈ dd l := (mem_dd l).2 hz
    unfold more
    split
    · rfl
    · exact place_left _ h1
  · simp [place_more]
theorem num_at {l : List K} {i : Nat} {x : K} (h : l[i]? = some x) : (num l)[i]? = some (place x (dd l)) := by
  unfold num
  rw [List.getElem?_map, h]
  rfl
/-- Numbers are the same just where the keys are. -/
theorem num_eq {l : List K} {i j : Nat} {x y : K} (hi : l[i]? = some x) (hj : l[j]? = some y) {u v : Nat} (hu : (num l)[i]? = some u) (hv : (num l)[j]? = some v) : u = v ↔ x = y := by
  rw [num_at hi] at hu
  rw [num_at hj] at hv
  simp only [Option.some.injEq] at hu hv
  subst hu; subst hv
  exact ⟨fun e => place_inj ((mem_dd l).2 (List.mem_of_getElem? hi)) ((mem_dd l).2 (List.mem_of_getElem? hj)) e, fun e => by rw [e]⟩
theorem dd_len_snoc (l : List K) (c : K) : (dd (l ++ [c])).length = (dd l).length + if c ∈ l then 0 else 1 := by
  rw [dd_snoc]
  unfold more
  by_cases h : c ∈ l
  · rw [if_pos ((mem_dd l).2 h), if_pos h]
    rfl
  · rw [if_neg (fun h1 => h ((mem_dd l).1 h1)), if_neg h]
    simp
theorem dd_le (l : List K) : (dd l).length ≤ l.length := by
  refine snoc_ind (P := fun l => (dd l).length ≤ l.length) (by simp [dd]) (fun l c ih => ?_) l
  rw [dd_len_snoc]
  simp only [List.length_append, List.length_cons, List.length_nil]
  split <;> omega
theorem num_lt {l : List K} {u : Nat} (h : u ∈ num l) : u < (dd l).length := by
  obtain ⟨z, hz, rfl⟩ := List.mem_map.1 h
  exact place_lt.2 ((mem_dd l).2 hz)
end
/-- Keys of two kinds, the first ones finer: there are as many of the second ones at most; and if there are as many the numbers are the same. -/
theorem finer {A B : Type} [DecidableEq A] [DecidableEq B] (l : List (A × B)) (hf : ∀ p ∈ l, ∀ q ∈ l, p.1 = q.1 → p.2 = q.2) :
    (dd (l.map (·.2))).length ≤ (dd (l.map (·.1))).length ∧ ((dd (l.map (·.2))).length = (dd (l.map (·.1))).length → num (l.map (·.1)) = num (l.map (·.2))) := by
  revert hf
  refine snoc_ind (P := fun l : List (A × B) => (∀ p ∈ l, ∀ q ∈ l, p.1 = q.1 → p.2 = q.2) → (dd (l.map (·.2))).length ≤ (dd (l.map (·.1))).length ∧ ((dd (l.map (·.2))).length = (dd (l.map (·.1))).length → num (l.map (·.1)) = num (l.map (·.2)))) (fun _ => ⟨by simp [dd], fun _ => rfl⟩) (fun l x ih hf => ?_) l
  obtain ⟨ih1, ih2⟩ := ih fun p hp q hq => hf p (List.mem_append_left _ hp) q (List.mem_append_left _ hq)
  simp only [List.map_append, List.map_cons, List.map_nil]
  rw [dd_len_snoc, dd_len_snoc, num_snoc, num_snoc]
  by_cases hx : x.1 ∈ l.map (·.1)
  · obtain ⟨q, hq, hqe⟩ := List.mem_map.1 hx
    have h2 := hf q (List.mem_append_left _ hq) x (List.mem_append_right _ List.mem_cons_self) hqe
    have hy : x.2 ∈ l.map (·.2) := List.mem_map.2 ⟨q, hq, h2⟩
    rw [if_pos hx, if_pos hy]
    refine ⟨by omega, fun e => ?_⟩
    have h3 := ih2 (by omega)
    obtain ⟨i, hi⟩ := List.mem_iff_getElem?.1 hq
    have a1 := num_at (l := l.map (·.1)) (i := i) (x := q.1) (by rw [List.getElem?_map, hi]; rfl)
    have a2 := num_at (l := l.map (·.2)) (i := i) (x := q.2) (by rw [List.getElem?_map, hi]; rfl)
    rw [h3, a2] at a1
    rw [h3, ← hqe, ← h2, Option.some.inj a1]
  · rw [if_neg hx]
    by_cases hy : x.2 ∈ l.map (·.2)
    · rw [if_pos hy]
      exact ⟨by omega, fun e => by omega⟩
    · rw [if_neg hy]
      refine ⟨by omega, fun e => ?_⟩
      have e2 : (dd (l.map (·.2))).length = (dd (l.map (·.1))).length := by omega
      rw [ih2 e2, place_no (fun h => hx ((mem_dd _).1 h)), place_no (fun h => hy ((mem_dd _).1 h)), e2]
/-- Keys that say the same are numbered alike. -/
theorem num_congr {A B : Type} [DecidableEq A] [DecidableEq B] {a : List A} {b : List B} (hl : a.length = b.length) (h : ∀ (i j : Nat) (x y : A) (u v : B), a[i]? = some x → a[j]? = some y → b[i]? = some u → b[j]? = some v → (x = y ↔ u = v)) : num a = num b := by
  have hz1 : (a.zip b).map (·.1) = a := by rw [List.map_fst_zip (by omega)]
  have hz2 : (a.zip b).map (·.2) = b := by rw [List.map_snd_zip (by omega)]
  have hm : ∀ p ∈ a.zip b, ∃ i : Nat, a[i]? = some p.1 ∧ b[i]? = some p.2 := fun p hp => by
    obtain ⟨i, hi⟩ := List.mem_iff_getElem?.1 hp
    rw [List.getElem?_zip_eq_some] at hi
    exact ⟨i, hi⟩
  have f1 := finer (a.zip b) fun p hp q hq e => by
    obtain ⟨i, hi1, hi2⟩ := hm p hp
    obtain ⟨j, hj1, hj2⟩ := hm q hq
    exact (h i j _ _ _ _ hi1 hj1 hi2 hj2).1 e
  have hb : ∀ (l : List (A × B)), (l.map Prod.swap).map (·.1) = l.map (·.2) ∧ (l.map Prod.swap).map (·.2) = l.map (·.1) := fun l => by simp
  have f2 := finer ((a.zip b).map Prod.swap) fun p hp q hq e => by
    obtain ⟨p', hp', rfl⟩ := List.mem_map.1 hp
    obtain ⟨q', hq', rfl⟩ := List.mem_map.1 hq
    obtain ⟨i, hi1, hi2⟩ := hm p' hp'
    obtain ⟨j, hj1, hj2⟩ := hm q' hq'
    exact (h i j _ _ _ _ hi1 hj1 hi2 hj2).2 e
  rw [(hb _).1, (hb _).2] at f2
  rw [hz1, hz2] at f1 f2
  exact f1.2 (by omega)
theorem num_num {A : Type} [DecidableEq A] (l : List A) : num (num l) = num l := by
  refine num_congr (num_len l) fun i j x y u v hx hy hu hv => ?_
  exact num_eq hu hv hx hy
/-- Rising numbers, each once. -/
def Rise (l : List Int) : Prop := l.Pairwise (· < ·)
theorem rise_unique {a b : List Int} (ha : Rise a) (hb : Rise b) (h : ∀ x, x ∈ a ↔ x ∈ b) : a = b := by
  induction a generalizing b with
  | nil =>
    cases b with
    | nil => rfl
    | cons y s => exact absurd ((h y).2 List.mem_cons_self) (by simp)
  | cons x r ih =>
    cases b with
    | nil => exact absurd ((h x).1 List.mem_cons_self) (by simp)
    | cons y s =>
      obtain ⟨hx, hr⟩ := List.pairwise_cons.1 ha
      obtain ⟨hy, hs⟩ := List.pairwise_cons.1 hb
      have e : x = y := by
        rcases List.mem_cons.1 ((h x).1 List.mem_cons_self) with e | h1
        · exact e
        · rcases List.mem_cons.1 ((h y).2 List.mem_cons_self) with e | h2
          · exact e.symm
          · have := hx y h2; have := hy x h1; omega
      subst e
      congr 1
      refine ih hr hs fun z => ⟨fun hz => ?_, fun hz => ?_⟩
      · rcases List.mem_cons.1 ((h z).1 (List.mem_cons_of_mem _ hz)) with e | h1
        · have := hx z hz; omega
        · exact h1
      · rcases List.mem_cons.1 ((h z).2 (List.mem_cons_of_mem _ hz)) with e | h1
        · have := hy z hz; omega
        · exact h1
/-- A number goes to its place. -/
def ins (x : Int) : List Int → List Int
  | [] => [x]
  | a :: r => if x < a then x :: a :: r else if a = x then a :: r else a :: ins x r
theorem mem_ins {x y : Int} {l : List Int} : y ∈ ins x l ↔ y = x ∨ y ∈ l := by
  induction l with
  | nil => simp [ins]
  | cons a r ih =>
    unfold ins
    split
    · simp
    · split
      · rename_i h; subst h; simp
      · simp only [List.mem_cons, ih]
        constructor
        · rintro (h | h | h) <;> simp [h]
        · rintro (h | h | h) <;> simp [h]
theorem ins_rise {x : Int} {l : List Int} (h : Rise l) : Rise (ins x l) := by
  induction l with
  | nil => exact List.pairwise_singleton _ _
  | cons a r ih =>
    obtain ⟨ha, hr⟩ := List.pairwise_cons.1 h
    unfold ins
    split
    · rename_i h1
      exact List.pairwise_cons.2 ⟨fun y hy => by rcases List.mem_cons.1 hy with rfl | hy; exact h1; have := ha y hy; omega, h⟩
    · split
      · exact h
      · rename_i h1 h2
        exact List.pairwise_cons.2 ⟨fun y hy => by rcases mem_ins.1 hy with rfl | hy; omega; exact ha y hy, ih hr⟩
/-- The numbers of a list as rising ones, each once. -/
def sd : List Int → List Int
  | [] => []
  | a :: r => ins a (sd r)
theorem mem_sd {x : Int} {l : List Int} : x ∈ sd l ↔ x ∈ l := by
  induction l with
  | nil => simp [sd]
  | cons a r ih => simp [sd, mem_ins, ih]
theorem sd_rise (l : List Int) : Rise (sd l) := by
  induction l with
  | nil => exact List.Pairwise.nil
  | cons a r ih => exact ins_rise ih
theorem sd_of {l m : List Int} (h : Rise m) (hm : ∀ x, x ∈ m ↔ x ∈ l) : m = sd l := rise_unique h (sd_rise l) fun x => (hm x).trans mem_sd.symm
theorem sd_eq {l m : List Int} : sd l = sd m ↔ ∀ x, x ∈ l ↔ x ∈ m := ⟨fun h x => by rw [← mem_sd, h, mem_sd], fun h => sd_of (sd_rise l) fun x => mem_sd.trans (h x)⟩
/-- Steps: their labels, and where they lead. -/
abbrev St : Type := Int × Int
/-- The class of where a step leads. -/
def cl (c : List Nat) (t : Int) : Nat := (c[t.toNat]?).getD 0
/-- The ends of steps by a number that is greater than all classes. -/
def ends (M : Int) (c : List Nat) (l : List St) : List Int := l.map fun z => z.1 * M + cl c z.2
/-- With which labels steps lead into which classes. -/
def leads (c : List Nat) (l : List St) (b : Int) (k : Nat) : Prop := ∃ z ∈ l, z.1 = b ∧ cl c z.2 = k
theorem mul_inj {a b M : Int} {k m : Nat} (hk : (k : Int) < M) (hm : (m : Int) < M) (h : a * M + k = b * M + m) : a = b ∧ k = m := by
  have e : a = b := by
    rcases Int.lt_trichotomy a b with h1 | h1 | h1
    · have h2 : (a + 1) * M ≤ b * M := Int.mul_le_mul_of_nonneg_right (by omega) (by omega)
      rw [Int.add_mul] at h2; omega
    · exact h1
    · have h2 : (b + 1) * M ≤ a * M := Int.mul_le_mul_of_nonneg_right (by omega) (by omega)
      rw [Int.add_mul] at h2; omega
  subst e
  exact ⟨rfl, by omega⟩
/-- Ends are the same just if steps lead alike. -/
theorem ends_eq {M : Int} {c : List Nat} {l m : List St} (h1 : ∀ z ∈ l, (cl c z.2 : Int) < M) (h2 : ∀ z ∈ m, (cl c z.2 : Int) < M) : sd (ends M c l) = sd (ends M c m) ↔ ∀ b k, leads c l b k ↔ leads c m b k := by
  have half : ∀ {l m : List St}, (∀ z ∈ l, (cl c z.2 : Int) < M) → (∀ z ∈ m, (cl c z.2 : Int) < M) → (∀ x, x ∈ ends M c l → x ∈ ends M c m) → ∀ b k, leads c l b k → leads c m b k := fun {l m} h1 h2 h b k hL => by
    obtain ⟨z, hz, rfl, rfl⟩ := hL
    obtain ⟨y, hy, he⟩ := List.mem_map.1 (h _ (List.mem_map.2 ⟨z, hz, rfl⟩))
    obtain ⟨e1, e2⟩ := mul_inj (h2 y hy) (h1 z hz) he
    exact ⟨y, hy, e1, e2⟩
  have back : ∀ {l m : List St}, (∀ b k, leads c l b k → leads c m b k) → ∀ x, x ∈ ends M c l → x ∈ ends M c m := fun {l m} h x hx => by
    obtain ⟨z, hz, rfl⟩ := List.mem_map.1 hx
    obtain ⟨y, hy, e1, e2⟩ := h _ _ ⟨z, hz, rfl, rfl⟩
    exact List.mem_map.2 ⟨y, hy, by rw [e1, e2]⟩
  rw [sd_eq]
  constructor
  · exact fun h b k => ⟨half h1 h2 (fun x => (h x).1) b k, half h2 h1 (fun x => (h x).2) b k⟩
  · exact fun h x => ⟨back (fun b k => (h b k).1) x, back (fun b k => (h b k).2) x⟩
/-- The key of a state: its class, and its steps' ends. -/
def key (out : Nat → List St) (c : List Nat) (i : Nat) : Int × List Int := ((c[i]?).getD 0, sd (ends 1001 c (out i)))
/-- The classes of the round behind one. -/
def nx (n : Nat) (out : Nat → List St) (c : List Nat) : List Nat := num ((List.range n).map (key out c))
/-- The classes of a round. -/
def rnd (n : Nat) (out : Nat → List St) : Nat → List Nat
  | 0 => List.replicate n 0
  | k + 1 => nx n out (rnd n out k)
theorem nx_len (n : Nat) (out : Nat → List St) (c : List Nat) : (nx n out c).length = n := by simp [nx, num_len]
theorem rnd_len (n : Nat) (out : Nat → List St) (k : Nat) : (rnd n out k).length = n := by
  cases k with
  | zero => simp [rnd]
  | succ k => exact nx_len n out _
theorem nx_lt {n : Nat} {out : Nat → List St} {c : List Nat} {u : Nat} (h : u ∈ nx n out c) : u < n := by
  have h1 := num_lt h
  have h2 := dd_le ((List.range n).map (key out c))
  simp at h2
  omega
theorem rnd_lt {n : Nat} {out : Nat → List St} {k u : Nat} (h : u ∈ rnd n out k) : u < n := by
  cases k with
  | zero => obtain ⟨h1, rfl⟩ := List.mem_replicate.1 h; omega
  | succ k => exact nx_lt h
theorem key_at {n i : Nat} (out : Nat → List St) (c : List Nat) (h : i < n) : ((List.range n).map (key out c))[i]? = some (key out c i) := by
  rw [List.getElem?_map, List.getElem?_range h]; rfl
/-- Behind a round two states are together, if they were, and if their steps lead alike. -/
theorem nx_eq {n : Nat} {out : Nat → List St} {c : List Nat} (hc : c.length = n) (hn : n ≤ 1000) (hlt : ∀ u ∈ c, u < n) {i j u v x y : Nat} (hu : (nx n out c)[i]? = some u) (hv : (nx n out c)[j]? = some v) (hx : c[i]? = some x) (hy : c[j]? = some y) : u = v ↔ x = y ∧ ∀ b k, leads c (out i) b k ↔ leads c (out j) b k := by
  have hi : i < n := by have := (List.getElem?_eq_some_iff.1 hx).1; omega
  have hj : j < n := by have := (List.getElem?_eq_some_iff.1 hy).1; omega
  have hM : ∀ t : Int, (cl c t : Int) < 1001 := fun t => by
    unfold cl
    cases h : c[t.toNat]? with
    | none => simp
    | some w => have := hlt w (List.mem_of_getElem? h); simp; omega
  have h1 := num_eq (key_at out c hi) (key_at out c hj) hu hv
  rw [h1]
  unfold key
  rw [hx, hy, Prod.mk.injEq, ends_eq (fun z _ => hM z.2) (fun z _ => hM z.2)]
  exact and_congr_left fun _ => (by simp only [Option.getD_some]; omega)
theorem rnd_num (n : Nat) (out : Nat → List St) (k : Nat) : num (rnd n out k) = rnd n out k := by
  cases k with
  | zero =>
    show num (List.replicate n 0) = List.replicate n 0
    refine snoc_ind (P := fun l : List Nat => (∀ x ∈ l, x = 0) → num l = l) (fun _ => rfl) (fun l x ih h => ?_) (List.replicate n 0) (fun x hx => (List.mem_replicate.1 hx).2)
    have hx : x = 0 := h x (List.mem_append_right _ List.mem_cons_self)
    subst hx
    have hl : ∀ y ∈ l, y = 0 := fun y hy => h y (List.mem_append_left _ hy)
    rw [num_snoc, ih hl]
    congr 2
    by_cases h0 : (0 : Nat) ∈ dd l
    · have hlen : (dd l).length ≤ 1 := by
        clear ih h
        refine snoc_ind (P := fun l : List Nat => (∀ x ∈ l, x = 0) → (dd l).length ≤ 1) (fun _ => by simp [dd]) (fun l x ih h => ?_) l hl
        have h1 := ih fun y hy => h y (List.mem_append_left _ hy)
        rw [dd_len_snoc]
        split
        · omega
        · rename_i hx
          have : l = [] := by
            cases l with
            | nil => rfl
            | cons y s => exact absurd (by rw [h x (List.mem_append_right _ List.mem_cons_self), ← h y List.mem_cons_self]; exact List.mem_cons_self) hx
          subst this
          simp [dd]
      have := place_lt.2 h0
      omega
    · rw [place_no h0]
      cases l with
      | nil => simp [dd]
      | cons y s => exact absurd ((mem_dd _).2 (by rw [← hl y List.mem_cons_self]; exact List.mem_cons_self)) h0
  | succ k => exact num_num _
/-- As many classes behind a round as ahead: nothing has changed. -/
theorem nx_stop {n : Nat} {out : Nat → List St} {c : List Nat} (hc : c.length = n) (hnum : num c = c) : (dd c).length ≤ (dd (nx n out c)).length ∧ ((dd c).length = (dd (nx n out c)).length → nx n out c = c) := by
  have hf := finer ((nx n out c).zip c) fun p hp q hq e => by
    obtain ⟨i, hi⟩ := List.mem_iff_getElem?.1 hp
    obtain ⟨j, hj⟩ := List.mem_iff_getElem?.1 hq
    rw [List.getElem?_zip_eq_some] at hi hj
    have hil : i < n := by have := (List.getElem?_eq_some_iff.1 hi.2).1; omega
    have hjl : j < n := by have := (List.getElem?_eq_some_iff.1 hj.2).1; omega
    have h1 := (num_eq (key_at out c hil) (key_at out c hjl) hi.1 hj.1).1 e
    have h2 := (Prod.mk.injEq .. ▸ h1 : _ ∧ _).1
    rw [hi.2, hj.2] at h2
    simp only [Option.getD_some] at h2
    omega
  rw [List.map_fst_zip (by rw [nx_len, hc]; exact Nat.le_refl _), List.map_snd_zip (by rw [nx_len, hc]; exact Nat.le_refl _)] at hf
  refine ⟨hf.1, fun e => ?_⟩
  have h1 := hf.2 e
  rw [hnum] at h1
  have h2 : num (nx n out c) = nx n out c := num_num _
  rw [← h2, h1]
theorem rnd_stop {n : Nat} {out : Nat → List St} {k : Nat} (h : (dd (rnd n out k)).length = (dd (rnd n out (k + 1))).length) : rnd n out (k + 1) = rnd n out k := (nx_stop (rnd_len n out k) (rnd_num n out k)).2 h
/-- As long as something changes there are ever more classes. -/
theorem rnd_grow {n : Nat} {out : Nat → List St} {k : Nat} (hn : 0 < n) (h : ∀ j, j < k → rnd n out (j + 1) ≠ rnd n out j) : k + 1 ≤ (dd (rnd n out k)).length := by
  induction k with
  | zero =>
    have : (0 : Nat) ∈ dd (rnd n out 0) := (mem_dd _).2 (List.mem_replicate.2 ⟨by omega, rfl⟩)
    exact List.length_pos_of_mem this
  | succ k ih =>
    have h1 := ih fun j hj => h j (by omega)
    have h2 := (nx_stop (out := out) (rnd_len n out k) (rnd_num n out k)).1
    have h3 : (dd (rnd n out k)).length ≠ (dd (rnd n out (k + 1))).length := fun e => h k (by omega) (rnd_stop e)
    show k + 1 + 1 ≤ (dd (rnd n out (k + 1))).length
    have h4 : (dd (rnd n out k)).length ≤ (dd (rnd n out (k + 1))).length := h2
    omega
/-- R is the last round: behind it nothing changes, and ahead of it something did each time. -/
def Last (n : Nat) (out : Nat → List St) (R : Nat) : Prop := rnd n out (R + 1) = rnd n out R ∧ ∀ j, j < R → rnd n out (j + 1) ≠ rnd n out j
theorem changes_lt {n : Nat} {out : Nat → List St} {k : Nat} (h : ∀ j, j < k → rnd n out (j + 1) ≠ rnd n out j) : k < max n 1 := by
  by_cases hn : 0 < n
  · have h1 := rnd_grow hn h
    have h2 := dd_le (rnd n out k)
    rw [rnd_len] at h2
    omega
  · obtain rfl : n = 0 := by omega
    rcases Nat.eq_zero_or_pos k with rfl | hk
    · simp
    · exact absurd (by rw [List.length_eq_zero_iff.1 (rnd_len 0 out (0 + 1)), List.length_eq_zero_iff.1 (rnd_len 0 out 0)]) (h 0 hk)
theorem Last.lt {n : Nat} {out : Nat → List St} {R : Nat} (h : Last n out R) : R < max n 1 := changes_lt h.2
theorem exists_last (n : Nat) (out : Nat → List St) : ∃ R, Last n out R := by
  have h : ∀ f k, k + f = max n 1 → (∀ j, j < k → rnd n out (j + 1) ≠ rnd n out j) → ∃ R, Last n out R := fun f => by
    induction f with
    | zero => intro k hk hc; have := changes_lt hc; omega
    | succ f ih =>
      intro k hk hc
      by_cases e : rnd n out (k + 1) = rnd n out k
      · exact ⟨k, e, hc⟩
      · exact ih (k + 1) (by omega) fun j hj => by
          rcases Nat.lt_or_ge j k with h1 | h1
          · exact hc j h1
          · obtain rfl : j = k := by omega
            exact e
  exact h (max n 1) 0 (by omega) fun j hj => by omega
theorem Last.ge {n : Nat} {out : Nat → List St} {R k : Nat} (h : Last n out R) (hc : ∀ j, j < k → rnd n out (j + 1) ≠ rnd n out j) : k ≤ R := by
  rcases Nat.lt_or_ge R k with h1 | h1
  · exact absurd h.1 (hc R h1)
  · exact h1
theorem Last.unique {n : Nat} {out : Nat → List St} {R S : Nat} (h : Last n out R) (k : Last n out S) : R = S := by
  rcases Nat.lt_trichotomy R S with h1 | h1 | h1
  · exact absurd h.1 (k.2 R h1)
  · exact h1
  · exact absurd k.1 (h.2 S h1)
/-- The rounds, from the first one on. -/
def rounds (n : Nat) (out : Nat → List St) (k : Nat) : List (List Nat) := (List.range k).map (rnd n out)
theorem rounds_succ (n : Nat) (out : Nat → List St) (k : Nat) : rounds n out (k + 1) = rounds n out k ++ [rnd n out k] := by simp [rounds, List.range_succ]
theorem rounds_at {n k i : Nat} (out : Nat → List St) (h : i < k) : (rounds n out k)[i]? = some (rnd n out i) := by
  unfold rounds
  rw [List.getElem?_map, List.getElem?_range h]; rfl
/-- The rank of two states in the rounds from k on, of which there are f. -/
def rankG (n : Nat) (out : Nat → List St) (p q : Nat) (k : Nat) : Nat → Int
  | 0 => -1
  | f + 1 => if (rnd n out k)[p]? = (rnd n out k)[q]? then rankG n out p q (k + 1) f else k
def rank (n : Nat) (out : Nat → List St) (R p q : Nat) : Int := rankG n out p q 0 (R + 1)
/-- Out of rows that are the same rounds are the same. -/
theorem nx_out {n : Nat} {out out' : Nat → List St} (c : List Nat) (h : ∀ i, i < n → ∀ z, z ∈ out i ↔ z ∈ out' i) : nx n out c = nx n out' c := by
  unfold nx
  congr 1
  refine List.map_congr_left fun i hi => ?_
  unfold key
  congr 1
  rw [sd_eq]
  intro x
  unfold ends
  rw [List.mem_map, List.mem_map]
  exact ⟨fun ⟨z, hz, e⟩ => ⟨z, (h i (List.mem_range.1 hi) z).1 hz, e⟩, fun ⟨z, hz, e⟩ => ⟨z, (h i (List.mem_range.1 hi) z).2 hz, e⟩⟩
theorem rnd_out {n : Nat} {out out' : Nat → List St} (h : ∀ i, i < n → ∀ z, z ∈ out i ↔ z ∈ out' i) (k : Nat) : rnd n out k = rnd n out' k := by
  induction k with
  | zero => rfl
  | succ k ih =>
    show nx n out (rnd n out k) = nx n out' (rnd n out' k)
    rw [ih]
    exact nx_out _ h
end Go.Proofs.YtplofbabfkkimaaDoor.Ro
