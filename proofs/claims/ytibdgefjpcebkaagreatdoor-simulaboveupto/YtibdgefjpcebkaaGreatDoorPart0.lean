/- Texts of this claim, joined: Copy, Base, SyArr, BrPure, BrMem, BrOps, BrSev, SmPure, SyPure. -/
import Derived.Test.YtibdgefjpcebkaaGreatDoorProg
import Derived.WalkKit
import Derived.Maps.AppendAt
import Derived.RowKitTokens
import Derived.WalkSmall
import Derived.ProofKit
import Derived.Maps.OwnSet
import Derived.Maps.Range
import Derived.OneCell
import Derived.DeepKeys4
import Derived.Deep.AppendLies
import Derived.Deep.RegionLaw
import Derived.Deep.RegionHeld3
import Derived.Deep.DrawnRows
import Derived.Deep.DeepCutAuto
import Derived.Deep.LoopGhost
import Derived.Below
import Derived.Laws.MakeOwn
import GoSem.Claim
import Derived.Laws.Bits64b
import Derived.Lib.TrailingZeros
namespace Go.Proofs.YtibdgefjpcebkaaGreatDoor
section
open Go.RowKit
theorem run_copy_at {P : Program} (w : World) (base : Nat) (t ty e : TypeId) (i : TypeInfo) (z : Value) (size bytes : Nat) (ht : P.underlying t = some (.slice e)) (hi : P.info? e = some i) (hz : i.zero = some z)
    (hsize : i.size = size) (hby : i.bytes = bytes) (hzs : z.cells.size = size) (hsz : 0 < size) (ao : Option Addr) (m c : Nat) (news : List Value) (hao : ao = none → m = 0) (hl : news.length = m * size)
    (hnews : ∀ ad, ao = some ad → ∀ j u, news[j]? = some u → w.cell? (ad.add j) = some u) (h1 : ∀ u ∈ news, u.oneCell' = true) (h63 : m ≤ maxLen) (hbytes : m * bytes ≤ 140737488355328) (hbase : base ≤ w.heap.size) :
    ∃ v' w', (Builtin.append_ #[t, t] ty #[.slice none 0 0, .slice ao m c]).run P w = .ok v' w' ∧ w'.ownsRow base e size v' m news ∧ w.grownBy w' (Value.slice none 0 0).ownBlock ∧ (v'.ownBlock = none ∨ v'.ownBlock = some w.heap.size) := by
  cases ao with
  | none =>
    obtain rfl := hao rfl
    obtain rfl : news = [] := List.eq_nil_of_length_eq_zero (by simpa using hl)
    refine ⟨.slice none 0 0, w, ?_, World.ownsRow_nil w base e size, ⟨rfl, rfl, rfl, Nat.le_refl _, fun _ _ _ => rfl⟩, Or.inl rfl⟩
    simp [Builtin.append_, run_underlying ht, sizeOf, typeInfo, hi, Builtin.lenOf, Builtin.firstCells]
  | some ad =>
    obtain ⟨v', w', hr, h2, h3, h4, h5⟩ := run_append_own_at (P := P) w base t ty e i z size bytes ht hi hz hsize hby hzs hsz (.slice none 0 0) 0 [] (World.ownsRow_nil _ _ _ _) ad m c news hl (hnews ad rfl) h1 (by simpa using h63) (by simpa using hbytes) hbase
    refine ⟨v', w', hr, by simpa using h2, h3, h5⟩
theorem wpList_copy_at {P : Program} (w : World) {ops : Array Oper} {rest : List Oper} {o : Oper} {a : Act} {Q : Exit → Act → World → Prop} (hgd : o.guard = none) (s x : Operand) (t : TypeId)
    (ho : o.op = .call { callee := .builtin .append, args := #[s, x], argTypes := #[t, t] })
    (base : Nat) (e : TypeId) (i : TypeInfo) (z : Value) (size bytes : Nat) (ht : P.underlying t = some (.slice e)) (hi : P.info? e = some i) (hz : i.zero = some z)
    (hsize : i.size = size) (hby : i.bytes = bytes) (hzs : z.cells.size = size) (hsz : 0 < size) (hs : a.eval s = .slice none 0 0)
    (ao : Option Addr) (m c : Nat) (news : List Value) (hx : a.eval x = .slice ao m c) (hao : ao = none → m = 0) (hl : news.length = m * size) (hnews : ∀ ad, ao = some ad → ∀ j u, news[j]? = some u → w.cell? (ad.add j) = some u) (h1 : ∀ u ∈ news, u.oneCell' = true)
    (h63 : m ≤ maxLen) (hbytes : m * bytes ≤ 140737488355328) (hbase : base ≤ w.heap.size)
    (h : ∀ v' w', w'.ownsRow base e size v' m news → w.grownBy w' (Value.slice none 0 0).ownBlock → (v'.ownBlock = none ∨ v'.ownBlock = some w.heap.size) → wpList P ops Q rest (a.put o.dst v') w') :
    wpList P ops Q (o :: rest) a w := by
  refine wpList_plain hgd fun K hK => ?_
  obtain ⟨v', w', hr, h2, h3, h4⟩ := run_copy_at (P := P) w base t o.type e i z size bytes ht hi hz hsize hby hzs hsz ao m c news hao hl hnews h1 h63 hbytes hbase
  unfold Oper.wp execOp
  simp only [ho, resolve, invoke, builtin, Sem.run_bind, Sem.run_pure, Result.andThen_ok, List.map_toArray, List.map_cons, List.map_nil, hs, hx, hr]
  exact hK _ _ (h v' w' h2 h3 h4)
end
section
open Go.RowKit Go.Maps
theorem t_lt {w : World} {b : Nat} {o : Obj} (h : w.heap[b]? = some o) : b < w.heap.size := (Array.getElem?_eq_some_iff.1 h).1
theorem cell_up {w W : World} {b o : Nat} {v : Value} (hc : w.cell? ⟨b, o, none⟩ = some v) (hb : Below w.heap.size w W) : W.cell? ⟨b, o, none⟩ = some v := (hb.cell (World.block_lt_of_cell? w _ hc)).trans hc
theorem blk_free {w : World} {b : Nat} {cs : Array Value} {t : TypeId} (h : w.heap[b]? = some (.cells cs t (0, 0))) (k : Nat) : w.frozen? ⟨b, k, none⟩ = false := by simp [World.frozen?, h]
theorem cell0_of {w : World} {b : Nat} {cs : Array Value} {ty : TypeId} {v : Value} {k : Nat} (h : w.heap[b]? = some (.cells cs ty (0, 0))) (h0 : cs[k]? = some v) : w.cell? ⟨b, k, none⟩ = some v := by simp [World.cell?, h, h0]
theorem addz (g i : Nat) : (⟨g, 0, none⟩ : Addr).add i = ⟨g, i, none⟩ := by unfold Addr.add; split <;> simp_all
theorem set_other (w : World) (b o i : Nat) (u : Value) (h : i ≠ b) : (w.setCell ⟨b, o, none⟩ u).heap[i]? = w.heap[i]? := by
  simp only [World.setCell]
  rw [Array.getElem?_modify, if_neg (fun e => h e.symm)]
theorem row_shape {w : World} {base : Nat} {e : TypeId} {size : Nat} {v : Value} {n : Nat} {xs : List Value} (h : w.ownsRow base e size v n xs) : ∃ ao cap, v = .slice ao n cap := by
  rcases h.2 with ⟨rfl, h0⟩ | ⟨g, cap, cur, rfl, _⟩
  · exact ⟨none, 0, by rw [h0]⟩
  · exact ⟨_, _, rfl⟩
theorem trow_at {w w' : World} {base : Nat} {e : TypeId} {size : Nat} {v : Value} {n : Nat} {xs : List Value} (h : w.ownsRow base e size v n xs) (hb : ∀ i, v.ownBlock = some i → w'.heap[i]? = w.heap[i]?) : w'.ownsRow base e size v n xs := by
  refine ⟨h.1, ?_⟩
  rcases h.2 with h2 | ⟨g, cap, cur, rfl, h3, hg, h4⟩
  · exact .inl h2
  · exact .inr ⟨g, cap, cur, rfl, h3, by rw [hb g rfl]; exact hg, h4⟩
theorem row_base {w : World} {base base' : Nat} {e : TypeId} {size : Nat} {v : Value} {n : Nat} {xs : List Value} (h : w.ownsRow base e size v n xs) (hb : base' ≤ base) : w.ownsRow base' e size v n xs := by
  refine ⟨h.1, ?_⟩
  rcases h.2 with h2 | ⟨g, cap, cur, rfl, h3, hg, h4⟩
  · exact .inl h2
  · exact .inr ⟨g, cap, cur, rfl, by omega, hg, h4⟩
theorem tgrown0 {w w1 : World} (hg : w.grownBy w1 (Value.slice none 0 0).ownBlock) : Below w.heap.size w w1 := ⟨hg.os, hg.tape, hg.output, hg.size, fun k hk => hg.block k hk (by simp [Value.ownBlock])⟩
theorem row_cells {w : World} {base : Nat} {e : TypeId} {size : Nat} {v : Value} {n : Nat} {xs : List Value} (h : w.ownsRow base e size v n xs) {i : Nat} (hi : v.ownBlock = some i) : ∃ c, w.heap[i]? = some (.cells c e (0, 0)) := by
  rcases h.2 with ⟨rfl, _⟩ | ⟨g, cap, cur, rfl, _, hg, _⟩
  · cases hi
  · simp only [Value.ownBlock, Option.some.injEq] at hi
    exact ⟨cur, hi ▸ hg⟩
structure Kept (F : Nat → Prop) (w w' : World) : Prop where
  os : w'.os = w.os
  tape : w'.tape = w.tape
  output : w'.output = w.output
  size : w.heap.size ≤ w'.heap.size
  block : ∀ k, k < w.heap.size → ¬ F k → w'.heap[k]? = w.heap[k]?
theorem Kept.refl (F : Nat → Prop) (w : World) : Kept F w w := ⟨rfl, rfl, rfl, Nat.le_refl _, fun _ _ _ => rfl⟩
theorem Kept.trans {F : Nat → Prop} {a b c : World} (h : Kept F a b) (k : Kept F b c) : Kept F a c :=
  ⟨k.os.trans h.os, k.tape.trans h.tape, k.output.trans h.output, Nat.le_trans h.size k.size, fun i hi hf => (k.block i (Nat.lt_of_lt_of_le hi h.size) hf).trans (h.block i hi hf)⟩
theorem Kept.mono {F G : Nat → Prop} {a b : World} (h : Kept F a b) (hs : ∀ k, k < a.heap.size → F k → G k) : Kept G a b := ⟨h.os, h.tape, h.output, h.size, fun i hi hg => h.block i hi fun hf => hg (hs i hi hf)⟩
theorem Kept.of_below {F : Nat → Prop} {a b : World} (h : Below a.heap.size a b) : Kept F a b := ⟨h.os, h.tape, h.output, h.size, fun i hi _ => h.block i hi⟩
theorem Kept.of_grown {a b : World} {row : Option Nat} (h : a.grownBy b row) : Kept (fun i => row = some i) a b := ⟨h.os, h.tape, h.output, h.size, fun i hi hn => h.block i hi fun e => hn e.symm⟩
theorem Kept.below {F : Nat → Prop} {a b : World} (h : Kept F a b) {B : Nat} (hB : B ≤ a.heap.size) (hF : ∀ k, F k → B ≤ k) : Below B a b := ⟨h.os, h.tape, h.output, h.size, fun i hi => h.block i (by omega) fun hf => by have := hF i hf; omega⟩
theorem Kept.setCell (a : World) (b o : Nat) (u : Value) : Kept (fun i => i = b) a (a.setCell ⟨b, o, none⟩ u) := by
  have h : Below b a (a.setCell ⟨b, o, none⟩ u) := Below.setCell (Below.refl b a) (Nat.le_refl _) u
  exact ⟨h.os, h.tape, h.output, h.size, fun i _ hn => set_other _ _ _ _ _ hn⟩
theorem Kept.trans2 {F G : Nat → Prop} {a b c : World} (h : Kept F a b) (k : Kept G b c) (hG : ∀ i, G i → F i ∨ a.heap.size ≤ i) : Kept F a c :=
  ⟨k.os.trans h.os, k.tape.trans h.tape, k.output.trans h.output, Nat.le_trans h.size k.size, fun i hi hf => (k.block i (Nat.lt_of_lt_of_le hi h.size) fun hg => (hG i hg).elim hf fun h => by omega).trans (h.block i hi hf)⟩
theorem add_block (a : Addr) (i : Nat) : (a.add i).block = a.block := by unfold Addr.add; split <;> rfl
theorem cell_same {w w' : World} {a : Addr} {i : Nat} {v : Value} (hb : w'.heap[a.block]? = w.heap[a.block]?) (c : w.cell? (a.add i) = some v) : w'.cell? (a.add i) = some v := (World.cell?_of_block (a := a.add i) (by rw [add_block]; exact hb)).trans c
theorem block_lt3 {w : World} {a : Addr} {i : Nat} {v : Value} (c : w.cell? (a.add i) = some v) : a.block < w.heap.size := by have := World.block_lt_of_cell? w _ c; rw [add_block] at this; exact this
theorem below_of_drew3 {w w1 : World} (h : Below w.drew.heap.size w.drew w1) : Below w.heap.size w w1 := (Below.refl _ w).drew.trans h
def HasI (w : World) (v : Value) (zs : List Int) : Prop := ∃ ao cap, v = .slice ao zs.length cap ∧ ∀ (i : Nat) (z : Int), zs[i]? = some z → ∃ a, ao = some a ∧ w.cell? (a.add i) = some (.int .i64 z)
theorem HasI.below {w w' : World} {v : Value} {zs : List Int} (h : HasI w v zs) (hb : Below w.heap.size w w') : HasI w' v zs := by
  obtain ⟨ao, cap, h1, h2⟩ := h
  refine ⟨ao, cap, h1, fun i p hi => ?_⟩
  obtain ⟨a, ha, c0⟩ := h2 i p hi
  exact ⟨a, ha, (hb.cell (World.block_lt_of_cell? w _ c0)).trans c0⟩
theorem HasI.kept {w w' : World} {F : Nat → Prop} {v : Value} {zs : List Int} (h : HasI w v zs) (hk : Kept F w w') (hf : zs ≠ [] → ∀ i, v.ownBlock = some i → ¬ F i) : HasI w' v zs := by
  obtain ⟨ao, cap, rfl, h2⟩ := h
  refine ⟨ao, cap, rfl, fun i z hi => ?_⟩
  obtain ⟨a, rfl, c⟩ := h2 i z hi
  exact ⟨a, rfl, cell_same (hk.block _ (block_lt3 c) (hf (by rintro rfl; simp at hi) a.block rfl)) c⟩
theorem made_far {w : World} {v : Value} {zs : List Int} (h : HasI w v zs) (hz : zs ≠ []) {i : Nat} (hi : v.ownBlock = some i) : i < w.heap.size := by
  obtain ⟨ao, cap, rfl, h2⟩ := h
  cases zs with
  | nil => exact absurd rfl hz
  | cons z r =>
    obtain ⟨a, rfl, c⟩ := h2 0 z rfl
    have := block_lt3 c
    simp only [Value.ownBlock, Option.some.injEq] at hi
    omega
def iC (zs : List Int) : List Value := zs.map (Value.int .i64)
theorem iC_length (zs : List Int) : (iC zs).length = zs.length * 1 := by simp [iC]
theorem iC_one (zs : List Int) : ∀ u ∈ iC zs, u.oneCell' = true := fun u hu => by
  obtain ⟨z, _, rfl⟩ := List.mem_map.1 hu; rfl
def OwnI (w : World) (B : Nat) (v : Value) (zs : List Int) : Prop := w.ownsRow B 3 1 v zs.length (iC zs)
theorem OwnI.has {w : World} {B : Nat} {v : Value} {zs : List Int} (h : OwnI w B v zs) : HasI w v zs := by
  rcases h.2 with ⟨rfl, h0⟩ | ⟨g, cap, cur, rfl, _⟩
  · obtain rfl : zs = [] := List.eq_nil_of_length_eq_zero h0
    exact ⟨none, 0, rfl, fun i z hi => by simp at hi⟩
  · refine ⟨_, cap, rfl, fun i z hi => ⟨_, rfl, ?_⟩⟩
    have hlt := (List.getElem?_eq_some_iff.1 hi).1
    rw [addz, h.cellAt i (by omega)]
    simp [iC, hi]
theorem Tryz.infoI3 : (Tryz.prog.info? 3).map (fun i => (i.zero, i.size, i.bytes)) = some (some (.int .i64 0), 1, 8) := by kernel_rfl
theorem OwnI.cell {w : World} {B g cap n : Nat} {zs : List Int} (h : OwnI w B (.slice (some ⟨g, 0, none⟩) n cap) zs) {i : Nat} {z : Int} (hi : zs[i]? = some z) : w.cell? ⟨g, i, none⟩ = some (.int .i64 z) := by
  have hlt := (List.getElem?_eq_some_iff.1 hi).1
  obtain ⟨ao, cap', e, h2⟩ := h.has
  injection e with e1 e2 e3
  obtain ⟨a, ha, hc⟩ := h2 i z hi
  rw [← e1] at ha
  have := Option.some.inj ha
  rw [← this, addz] at hc
  exact hc
theorem iC_news {w : World} {a : Addr} {zs : List Int} (h : ∀ (i : Nat) (z : Int), zs[i]? = some z → w.cell? (a.add i) = some (.int .i64 z)) : ∀ j u, (iC zs)[j]? = some u → w.cell? (a.add j) = some u := by
  intro j u hu
  unfold iC at hu
  rw [List.getElem?_map] at hu
  cases e : zs[j]? with
  | none => rw [e] at hu; simp at hu
  | some z =>
    rw [e] at hu
    simp at hu
    subst hu
    exact h j z e
theorem HasI.none {w : World} {n cap : Nat} {zs : List Int} (h : HasI w (.slice none n cap) zs) : zs = [] ∧ n = 0 := by
  obtain ⟨ao, cap', h1, h2⟩ := h
  injection h1 with e1 e2 e3
  subst e1
  cases zs with
  | nil => exact ⟨rfl, e2⟩
  | cons z r => obtain ⟨a, h, _⟩ := h2 0 z rfl; cases h
theorem HasI.news {w : World} {a : Addr} {n cap : Nat} {zs : List Int} (h : HasI w (.slice (some a) n cap) zs) : n = zs.length ∧ ∀ j u, (iC zs)[j]? = some u → w.cell? (a.add j) = some u := by
  obtain ⟨ao, cap', h1, h2⟩ := h
  injection h1 with e1 e2 e3
  subst e1
  refine ⟨e2, iC_news fun i z hi => ?_⟩
  obtain ⟨a', ha, hc⟩ := h2 i z hi
  cases ha
  exact hc
theorem hasI_copy {w : World} {ao : Option Addr} {n cap : Nat} {zs : List Int} (h : HasI w (.slice ao n cap) zs) : (ao = none → n = 0) ∧ ∀ ad, ao = some ad → ∀ j u, (iC zs)[j]? = some u → w.cell? (ad.add j) = some u :=
  ⟨fun e => by subst e; exact h.none.2, fun ad e => by subst e; exact h.news.2⟩
theorem iC_snoc (zs : List Int) (z : Int) : iC (zs ++ [z]) = iC zs ++ [.int .i64 z] := by simp [iC]
theorem one_one (z : Int) : ∀ x ∈ [Value.int .i64 z], x.oneCell' = true := fun x hx => by rw [List.mem_singleton.1 hx]; rfl
theorem lines_belowI {w w2 w4 : World} {x : Obj} {v : Value} {n : Nat} {us : List Value} (h1 : w2.ownsRow w.heap.size 3 1 v n us) (hb : Below w.heap.size w w2) (hg : (w2.alloc x).grownBy w4 v.ownBlock) : Below w.heap.size w w4 :=
  (hb.alloc hb.size x).grown hg (by have := hb.size; simp; omega) (fun k hk => (h1.lt k hk).1)
theorem two_alloc (w : World) (o p : Obj) : ((w.alloc o).alloc p).heap[w.heap.size + 1]? = some p := by
  have h := (MapKept.heap_alloc (w.alloc o) p).1
  simpa using h
theorem take_succ_of {α : Type} {l : List α} {j : Nat} {x : α} (h : l[j]? = some x) : l.take (j + 1) = l.take j ++ [x] := by
  obtain ⟨hlt, rfl⟩ := List.getElem?_eq_some_iff.1 h
  exact List.take_succ_eq_append_getElem hlt
def LsF (ls : List Value) (b : Nat) : Prop := ∃ l ∈ ls, l.ownBlock = some b
theorem set_same {α : Type} {l : List α} {i : Nat} {x : α} (h : l[i]? = some x) : l.set i x = l := by
  apply List.ext_getElem?
  intro k
  by_cases e : k = i
  · subst e; rw [List.getElem?_set_self (List.getElem?_eq_some_iff.1 h).1, h]
  · rw [List.getElem?_set_ne (fun e' => e e'.symm)]
theorem one_list (v : Value) (h : ∃ a n c, v = .slice a n c) : ∀ x ∈ [v], x.oneCell' = true := fun x hx => by
  rw [List.mem_singleton.1 hx]
  obtain ⟨a, n, c, rfl⟩ := h
  rfl
theorem step_copy_at {P : Program} {ops : Array Oper} {o : Oper} {a : Act} (w : World) {K : Act → World → Prop} {Q : Exit → Act → World → Prop} {E : Prop}
    (hg : o.guard = none) (s x : Operand) (t : TypeId) (ho : o.op = Op.call { callee := Callee.builtin Builtin.append, args := #[s, x], argTypes := #[t, t] })
    (base : Nat) (e : TypeId) (i : TypeInfo) (z : Value) (size bytes : Nat) (ht : P.underlying t = some (.slice e)) (hi : P.info? e = some i) (hz : i.zero = some z)
    (hsize : i.size = size) (hby : i.bytes = bytes) (hzs : z.cells.size = size) (hsz : 0 < size) (hs : a.eval s = .slice none 0 0)
    (ao : Option Addr) (m c : Nat) (news : List Value) (hx : a.eval x = .slice ao m c) (hao : ao = none → m = 0) (hl : news.length = m * size) (hnews : ∀ ad, ao = some ad → ∀ j u, news[j]? = some u → w.cell? (ad.add j) = some u) (h1 : ∀ u ∈ news, u.oneCell' = true)
    (h63 : m ≤ maxLen) (hbytes : m * bytes ≤ 140737488355328) (hbase : base ≤ w.heap.size)
    (h : ∀ v' w', w'.ownsRow base e size v' m news → w.grownBy w' (Value.slice none 0 0).ownBlock → K (a.put o.dst v') w') :
    if Region.wanted o (yielded ops a.tmps) = true then Oper.wp P o a w K Q else E := by
  have hw : Region.wanted o (yielded ops a.tmps) = true := by simp [Region.wanted, hg]
  rw [if_pos hw]
  obtain ⟨v', w', hr, h2, h3, _⟩ := run_copy_at (P := P) w base t o.type e i z size bytes ht hi hz hsize hby hzs hsz ao m c news hao hl hnews h1 h63 hbytes hbase
  unfold Oper.wp
  simp [execOp, ho, resolve, invoke, builtin, hs, hx, hr, Result.andThen]
  exact h _ _ h2 h3
theorem own_ne {w : World} {B1 B2 : Nat} {e1 e2 : TypeId} {s1 s2 : Nat} {v1 v2 : Value} {n1 n2 : Nat} {x1 x2 : List Value} (h1 : w.ownsRow B1 e1 s1 v1 n1 x1) (h2 : w.ownsRow B2 e2 s2 v2 n2 x2) (hne : e1 ≠ e2) (k : Nat) (hk : v1.ownBlock = some k) : v2.ownBlock ≠ some k := fun h => by
  obtain ⟨c1, hc1⟩ := row_cells h1 hk
  obtain ⟨c2, hc2⟩ := row_cells h2 h
  rw [hc1] at hc2
  injection hc2 with e
  injection e with _ e
  exact hne e
theorem own_bk {w : World} {B : Nat} {e t : TypeId} {s : Nat} {v : Value} {n : Nat} {xs : List Value} {bk : Nat} {cs : Array Value} (h : w.ownsRow B e s v n xs) (hb : w.heap[bk]? = some (.cells cs t (0, 0))) (hne : e ≠ t) : v.ownBlock ≠ some bk := fun hk => by
  obtain ⟨c1, hc1⟩ := row_cells h hk
  rw [hc1] at hb
  injection hb with e
  injection e with _ e
  exact hne e
theorem grown_alloc {w w2 : World} {x : Obj} {r : Option Nat} (hg : (w.alloc x).grownBy w2 r) : Kept (fun b => r = some b) w w2 := (Kept.of_below ((Below.refl _ _).alloc (Nat.le_refl _) _)).trans (Kept.of_grown hg)
theorem own_up {w w' : World} {base : Nat} {e : TypeId} {size : Nat} {v : Value} {n : Nat} {xs : List Value} {F : Nat → Prop} (h : w.ownsRow base e size v n xs) (hk : Kept F w w') (hF : ∀ b, v.ownBlock = some b → ¬ F b) : w'.ownsRow base e size v n xs := trow_at h fun b hb => hk.block b (h.lt b hb).2 (hF b hb)
end
section
open Go.RowKit Go.Maps
structure Arr (ty : TypeId) (w wr : World) (gi : Nat) (vs : List Value) : Prop where
  bl : Below w.heap.size w wr
  ids : ∃ cs, wr.heap[gi]? = some (.cells cs ty (0, 0)) ∧ cs.toList = vs
  gu : w.heap.size ≤ gi
theorem Arr.lt {ty : TypeId} {w wr : World} {gi : Nat} {vs : List Value} (h : Arr ty w wr gi vs) : gi < wr.heap.size := by
  obtain ⟨cs, hc, _⟩ := h.ids
  exact t_lt hc
theorem Arr.below {ty : TypeId} {w wr w' : World} {gi : Nat} {vs : List Value} (h : Arr ty w wr gi vs) (hb : Below wr.heap.size wr w') : Arr ty w w' gi vs := by
  obtain ⟨cs, hc, hx⟩ := h.ids
  exact ⟨h.bl.trans (hb.mono h.bl.size), ⟨cs, (hb.block _ (t_lt hc)).trans hc, hx⟩, h.gu⟩
theorem Arr.kept {ty : TypeId} {w wr w' : World} {gi : Nat} {vs : List Value} {F : Nat → Prop} (h : Arr ty w wr gi vs) (hk : Kept F wr w') (hF : ∀ b, F b → w.heap.size ≤ b ∧ b ≠ gi) : Arr ty w w' gi vs := by
  obtain ⟨cs, hc, hx⟩ := h.ids
  exact ⟨h.bl.trans (hk.below h.bl.size fun b hb => (hF b hb).1), ⟨cs, (hk.block _ (t_lt hc) fun hf => (hF gi hf).2 rfl).trans hc, hx⟩, h.gu⟩
theorem Arr.cell {ty : TypeId} {w wr : World} {gi : Nat} {vs : List Value} (h : Arr ty w wr gi vs) {i : Nat} {x : Value} (hi : vs[i]? = some x) : wr.cell? ⟨gi, i, none⟩ = some x := by
  obtain ⟨cs, hc, hx⟩ := h.ids
  refine cell0_of hc ?_
  rw [← Array.getElem?_toList, hx]
  exact hi
theorem Arr.free {ty : TypeId} {w wr : World} {gi : Nat} {vs : List Value} (h : Arr ty w wr gi vs) (i : Nat) : wr.frozen? ⟨gi, i, none⟩ = false := by
  obtain ⟨cs, hc, hx⟩ := h.ids
  exact blk_free hc i
theorem Arr.set {ty : TypeId} {w wr : World} {gi : Nat} {vs : List Value} (h : Arr ty w wr gi vs) (i : Nat) (x : Value) : Arr ty w (wr.setCell ⟨gi, i, none⟩ x) gi (vs.set i x) := by
  obtain ⟨cs, hc, hx⟩ := h.ids
  refine ⟨h.bl.setCell h.gu _, ⟨_, heap_setCell_same wr gi i cs _ _ hc, ?_⟩, h.gu⟩
  rw [Array.toList_setIfInBounds, hx]
theorem Arr.back {ty : TypeId} {w w1 wr : World} {g : Nat} {vs : List Value} (h : Arr ty w1 wr g vs) (hb : Below w.heap.size w w1) : Arr ty w wr g vs := ⟨hb.trans (h.bl.mono hb.size), h.ids, Nat.le_trans hb.size h.gu⟩
theorem Arr.own {ty : TypeId} {w wr : World} {gi : Nat} {vs : List Value} (h : Arr ty w wr gi vs) (hn : vs.length ≤ maxLen) : wr.ownsRow w.heap.size ty 1 (.slice (some ⟨gi, 0, none⟩) vs.length vs.length) vs.length vs := by
  obtain ⟨cs, hc, hx⟩ := h.ids
  refine ⟨by rw [Nat.mul_one], .inr ⟨gi, vs.length, cs, rfl, h.gu, hc, Nat.le_refl _, hn, ?_, ?_⟩⟩
  · rw [← hx]; simp
  · rw [hx]; simp
def madeV (z : Value) (n : Nat) : Array Value := madeCells z.cells (n * 1)
theorem madeV_eq (z : Value) (hz : z.cells = #[z]) (n : Nat) : (madeV z n).toList = List.replicate n z := by
  apply List.ext_getElem
  · simp [madeV, madeCells]
  · intro i h1 h2
    simp [madeV, madeCells, hz, Nat.mod_one]
theorem arr_new (ty : TypeId) (z : Value) (hz : z.cells = #[z]) (n : Nat) (w : World) : Arr ty w (w.alloc (.cells (madeV z n) ty)) w.heap.size (List.replicate n z) := ⟨(Below.refl _ _).alloc (Nat.le_refl _) _, ⟨_, (MapKept.heap_alloc w _).1, madeV_eq z hz n⟩, Nat.le_refl _⟩
theorem make_of (t e : TypeId) (z : Value) (by8 : Nat) (ht : Tryz.prog.underlying t = some (.slice e)) (hi : (Tryz.prog.info? e).map (fun i => (i.zero, i.size, i.bytes)) = some (some z, 1, by8)) (n : Nat) (hn : n ≤ 1000000) (hby : by8 ≤ 100) (w : World) : (Instr.makeSlice t (.int .i64 (n : Int)) (.int .i64 (n : Int))).run Tryz.prog w = .ok (.slice (some ⟨w.heap.size, 0, none⟩) n n) (w.alloc (.cells (madeV z n) e)) := by
  obtain ⟨i0, hi0, hz0, hz1, hz2⟩ := info_parts hi
  have hm : n * by8 ≤ 1000000 * 100 := Nat.mul_le_mul hn hby
  have h := run_makeSlice (P := Tryz.prog) w t e i0 z ht hi0 hz0 .i64 .i64 (n : Int) (n : Int) (by omega) (Int.le_refl _) (by rw [hz1]; omega) (by rw [hz2]; have h9 : (by8 : Int) * (n : Int) ≤ 100000000 := (by rw [Int.mul_comm]; exact Int.ofNat_le.2 hm); omega) (by omega)
  rw [h, hz1]
  simp [madeV]
theorem Tryz.infoI4 : (Tryz.prog.info? 3).map (fun i => (i.zero, i.size, i.bytes)) = some (some (.int .i64 0), 1, 8) := by kernel_rfl
theorem makeI (n : Nat) (hn : n ≤ 1000000) (w : World) : (Instr.makeSlice 50 (.int .i64 (n : Int)) (.int .i64 (n : Int))).run Tryz.prog w = .ok (.slice (some ⟨w.heap.size, 0, none⟩) n n) (w.alloc (.cells (madeV (.int .i64 0) n) 3)) := make_of _ _ _ 8 Tryz.underlying50 Tryz.infoI4 n hn (by decide) w
theorem Tryz.infoB4 : (Tryz.prog.info? 4).map (fun i => (i.zero, i.size, i.bytes)) = some (some (.bool false), 1, 1) := by kernel_rfl
theorem makeB (n : Nat) (hn : n ≤ 1000000) (w : World) : (Instr.makeSlice 57 (.int .i64 (n : Int)) (.int .i64 (n : Int))).run Tryz.prog w = .ok (.slice (some ⟨w.heap.size, 0, none⟩) n n) (w.alloc (.cells (madeV (.bool false) n) 4)) := make_of _ _ _ 1 Tryz.underlying57 Tryz.infoB4 n hn (by decide) w
theorem Tryz.infoS4 : (Tryz.prog.info? 113).map (fun i => (i.zero, i.size, i.bytes)) = some (some (.slice none 0 0), 1, 24) := by kernel_rfl
theorem makeSt (n : Nat) (hn : n ≤ 1000000) (w : World) : (Instr.makeSlice 37 (.int .i64 (n : Int)) (.int .i64 (n : Int))).run Tryz.prog w = .ok (.slice (some ⟨w.heap.size, 0, none⟩) n n) (w.alloc (.cells (madeV (.slice none 0 0) n) 113)) := make_of _ _ _ 24 Tryz.underlying37 Tryz.infoS4 n hn (by decide) w
end
namespace Br
def wdF (S : Nat → Bool) (b : Nat) : Nat → Nat
  | 0 => 0
  | k + 1 => wdF S b k ||| (if S (b + k) then 2 ^ k else 0)
def wd (S : Nat → Bool) (i : Nat) : Nat := wdF S (64 * i) 64
theorem wdF_bit (S : Nat → Bool) (b k j : Nat) : (wdF S b k).testBit j = (decide (j < k) && S (b + j)) := by
  induction k with
  | zero => simp [wdF]
  | succ k ih =>
    unfold wdF
    rw [Nat.testBit_or, ih]
    by_cases e : j = k
    · subst e
      cases h : S (b + j) <;> simp
    · have h1 : (if S (b + k) then 2 ^ k else 0).testBit j = false := by
        split
        · rw [Nat.testBit_two_pow]; simp; omega
        · simp
      rw [h1, Bool.or_false]
      congr 1
      simp only [decide_eq_decide]
      omega
theorem wd_bit (S : Nat → Bool) (i j : Nat) : (wd S i).testBit j = (decide (j < 64) && S (64 * i + j)) := wdF_bit S _ 64 j
theorem wd_lt (S : Nat → Bool) (i : Nat) : wd S i < 18446744073709551616 := by
  have h : wd S i < 2 ^ 64 := Nat.lt_pow_two_of_testBit _ fun j hj => by rw [wd_bit]; simp; omega
  exact h
theorem wd_congr {S T : Nat → Bool} {i : Nat} (h : ∀ q, q / 64 = i → S q = T q) : wd S i = wd T i := by
  apply Nat.eq_of_testBit_eq
  intro j
  rw [wd_bit, wd_bit]
  by_cases hj : j < 64
  · rw [h (64 * i + j) (by omega)]
  · simp [hj]
theorem wd_or (S T : Nat → Bool) (i : Nat) : wd S i ||| wd T i = wd (fun q => S q || T q) i := by
  apply Nat.eq_of_testBit_eq
  intro j
  rw [Nat.testBit_or, wd_bit, wd_bit, wd_bit]
  cases decide (j < 64) <;> simp
theorem wd_and (S T : Nat → Bool) (i : Nat) : wd S i &&& wd T i = wd (fun q => S q && T q) i := by
  apply Nat.eq_of_testBit_eq
  intro j
  rw [Nat.testBit_and, wd_bit, wd_bit, wd_bit]
  cases decide (j < 64) <;> simp
theorem wd_zero (S : Nat → Bool) (i : Nat) : wd S i = 0 ↔ ∀ q, q / 64 = i → S q = false := by
  constructor
  · intro h q hq
    have h1 := wd_bit S i (q % 64)
    rw [h] at h1
    have h2 : q % 64 < 64 := Nat.mod_lt _ (by decide)
    have h3 : 64 * i + q % 64 = q := by omega
    rw [h3] at h1
    simpa [h2] using h1.symm
  · intro h
    apply Nat.eq_of_testBit_eq
    intro j
    rw [wd_bit]
    by_cases hj : j < 64
    · rw [h (64 * i + j) (by omega)]; simp
    · simp [hj]
theorem wd_one (S : Nat → Bool) (n : Nat) : wd S (n / 64) ||| 2 ^ (n % 64) = wd (fun q => S q || decide (q = n)) (n / 64) := by
  apply Nat.eq_of_testBit_eq
  intro j
  rw [Nat.testBit_or, wd_bit, wd_bit, Nat.testBit_two_pow]
  have h2 : n % 64 < 64 := Nat.mod_lt _ (by decide)
  by_cases hj : j < 64
  · have : decide (64 * (n / 64) + j = n) = decide (n % 64 = j) := by simp only [decide_eq_decide]; omega
    simp only [hj, decide_true, Bool.true_and, this]
  · have : decide (n % 64 = j) = false := by simp; omega
    simp [hj, this]
theorem wd_has (S : Nat → Bool) (n : Nat) : wd S (n / 64) / 2 ^ (n % 64) &&& 1 = if S n then 1 else 0 := by
  rw [Nat.and_one_is_mod]
  have h1 := wd_bit S (n / 64) (n % 64)
  have h2 : n % 64 < 64 := Nat.mod_lt _ (by decide)
  have h3 : 64 * (n / 64) + n % 64 = n := by omega
  rw [h3] at h1
  rw [Nat.testBit_eq_decide_div_mod_eq] at h1
  simp only [h2, decide_true, Bool.true_and] at h1
  cases hs : S n with
  | true => rw [hs] at h1; simpa using h1
  | false => rw [hs] at h1; simp at h1; simp; omega
theorem wd_andNot (S T : Nat → Bool) (i : Nat) : bits .andNot .u64 (wd S i : Int) (wd T i : Int) = ((wd (fun q => S q && !T q) i : Nat) : Int) := by
  have h1 : (BitVec.ofInt 64 (wd S i : Int)).toNat = wd S i := by
    rw [BitVec.ofInt_natCast, BitVec.toNat_ofNat]; exact Nat.mod_eq_of_lt (wd_lt S i)
  have h2 : (BitVec.ofInt 64 (wd T i : Int)).toNat = wd T i := by
    rw [BitVec.ofInt_natCast, BitVec.toNat_ofNat]; exact Nat.mod_eq_of_lt (wd_lt T i)
  show IntKind.u64.wrap ((BitVec.ofInt 64 (wd S i : Int) &&& ~~~BitVec.ofInt 64 (wd T i : Int)).toNat : Int) = _
  have h3 : (BitVec.ofInt 64 (wd S i : Int) &&& ~~~BitVec.ofInt 64 (wd T i : Int)).toNat = wd (fun q => S q && !T q) i := by
    apply Nat.eq_of_testBit_eq
    intro j
    rw [wd_bit]
    rw [BitVec.testBit_toNat, BitVec.getLsbD_and, BitVec.getLsbD_not, ← BitVec.testBit_toNat, ← BitVec.testBit_toNat, h1, h2, wd_bit, wd_bit]
    by_cases hj : j < 64 <;> simp [hj]
  rw [h3]
  have := wd_lt (fun q => S q && !T q) i
  rw [IntKind.wrap_u64]
  omega
theorem b_and (S T : Nat → Bool) (i : Nat) : bits .and .u64 (wd S i : Int) (wd T i : Int) = ((wd (fun q => S q && T q) i : Nat) : Int) := by
  rw [bits_and_u64_nat _ _ (wd_lt S i) (wd_lt T i), wd_and]
theorem b_or (S T : Nat → Bool) (i : Nat) : bits .or .u64 (wd S i : Int) (wd T i : Int) = ((wd (fun q => S q || T q) i : Nat) : Int) := by
  rw [bits_or_u64_nat _ _ (wd_lt S i) (wd_lt T i), wd_or]
def frm (S : Nat → Bool) (k : Nat) : Nat → Bool := fun q => S q && decide (k ≤ q)
theorem low_bit {x : Nat} (h0 : x ≠ 0) (h : x < 2 ^ 64) : Lib.ctz 64 x < 64 ∧ x.testBit (Lib.ctz 64 x) = true ∧ (∀ j, j < Lib.ctz 64 x → x.testBit j = false) ∧ ∀ j, (x &&& (x - 1)).testBit j = (x.testBit j && decide (j ≠ Lib.ctz 64 x)) := by
  obtain ⟨m, hm, hk⟩ := Lib.ctzFrom_spec 64 x (by omega) h
  have e : Lib.ctz 64 x = Lib.ctzFrom 64 x := by simp [Lib.ctz, h0]
  rw [e]
  obtain ⟨k, hkk⟩ : ∃ k, k = Lib.ctzFrom 64 x := ⟨_, rfl⟩
  rw [← hkk] at hm hk ⊢
  have hp : 0 < 2 ^ k := Nat.two_pow_pos k
  have hx : ∀ j, x.testBit j = if j < k then false else (2 * m + 1).testBit (j - k) := fun j => by
    have := Nat.testBit_two_pow_mul_add (2 * m + 1) hp j
    rw [Nat.add_zero, ← hm] at this
    rw [this]
    simp
  have hx1 : x - 1 = 2 ^ k * (2 * m) + (2 ^ k - 1) := by rw [hm, Nat.mul_add]; omega
  have hy : ∀ j, (x - 1).testBit j = if j < k then (2 ^ k - 1).testBit j else (2 * m).testBit (j - k) := fun j => by
    rw [hx1]
    exact Nat.testBit_two_pow_mul_add (2 * m) (Nat.sub_lt hp (by decide)) j
  refine ⟨hk, ?_, fun j hj => ?_, fun j => ?_⟩
  · rw [hx, if_neg (by omega), Nat.sub_self]; simp
  · rw [hx, if_pos hj]
  · rw [Nat.testBit_and, hx, hy]
    by_cases h1 : j < k
    · simp [h1]
    · by_cases h2 : j = k
      · subst h2; simp
      · rw [if_neg h1, if_neg h1]
        obtain ⟨d, hd⟩ : ∃ d, j - k = d + 1 := ⟨j - k - 1, by omega⟩
        rw [hd, Nat.testBit_succ, Nat.testBit_succ, show (2 * m + 1) / 2 = m by omega, show 2 * m / 2 = m by omega]
        simp [h2]
theorem wd_low {S : Nat → Bool} {i k : Nat} (h0 : wd (frm S k) i ≠ 0) : ∃ q, q = 64 * i + Lib.ctz 64 (wd (frm S k) i) ∧ q < 64 * (i + 1) ∧ k ≤ q ∧ S q = true ∧ (∀ z, z / 64 = i → k ≤ z → z < q → S z = false) ∧ wd (frm S k) i &&& (wd (frm S k) i - 1) = wd (frm S (q + 1)) i := by
  obtain ⟨h1, h2, h3, h4⟩ := low_bit h0 (wd_lt _ i)
  obtain ⟨c, hc⟩ : ∃ c, c = Lib.ctz 64 (wd (frm S k) i) := ⟨_, rfl⟩
  rw [← hc] at h1 h2 h3 h4 ⊢
  rw [wd_bit] at h2
  unfold frm at h2
  simp only [h1, decide_true, Bool.true_and, Bool.and_eq_true, decide_eq_true_eq] at h2
  refine ⟨_, rfl, (by omega), h2.2, h2.1, fun z hz hkz hzq => ?_, ?_⟩
  · have h5 := h3 (z - 64 * i) (by omega)
    rw [wd_bit] at h5
    unfold frm at h5
    rw [show 64 * i + (z - 64 * i) = z by omega] at h5
    simp only [show z - 64 * i < 64 by omega, decide_true, Bool.true_and, hkz, Bool.and_true] at h5
    exact h5
  · apply Nat.eq_of_testBit_eq
    intro j
    rw [h4, wd_bit, wd_bit]
    by_cases hj : j < 64
    · simp only [hj, decide_true, Bool.true_and]
      unfold frm
      rcases Nat.lt_trichotomy j c with h5 | h5 | h5
      · have h6 := h3 j h5
        rw [wd_bit] at h6
        simp only [hj, decide_true, Bool.true_and] at h6
        unfold frm at h6
        rw [h6]
        have : decide (64 * i + c + 1 ≤ 64 * i + j) = false := by simp; omega
        rw [this]; simp
      · subst h5
        have : decide (64 * i + j + 1 ≤ 64 * i + j) = false := by simp
        rw [this]; simp
      · have e1 : decide (64 * i + c + 1 ≤ 64 * i + j) = true := by simp; omega
        have e2 : decide (k ≤ 64 * i + j) = true := by simp; omega
        have e3 : decide (j ≠ c) = true := by simp; omega
        rw [e1, e2, e3]; simp
    · simp [hj]
def els (S : Nat → Bool) (N : Nat) : List Nat := (List.range N).filter S
theorem els_skip {S : Nat → Bool} {k : Nat} : ∀ {N : Nat}, k ≤ N → (∀ z, k ≤ z → z < N → S z = false) → els S N = els S k
  | 0, h, _ => by rw [show k = 0 by omega]
  | N + 1, h, hz => by
    by_cases e : k = N + 1
    · rw [e]
    · have ih := els_skip (S := S) (k := k) (N := N) (by omega) fun z h1 h2 => hz z h1 (by omega)
      unfold els at ih ⊢
      rw [List.range_succ, List.filter_append, ih]
      simp [hz N (by omega) (by omega)]
theorem els_next {S : Nat → Bool} {k q : Nat} (hk : k ≤ q) (hz : ∀ z, k ≤ z → z < q → S z = false) (hq : S q = true) : els S (q + 1) = els S k ++ [q] := by
  rw [← els_skip hk hz]
  unfold els
  rw [List.range_succ, List.filter_append]
  simp [hq]
theorem els_mem {S : Nat → Bool} {N q : Nat} : q ∈ els S N ↔ q < N ∧ S q = true := by unfold els; rw [List.mem_filter, List.mem_range]
theorem els_len (S : Nat → Bool) (N : Nat) : (els S N).length ≤ N := by
  have := List.length_filter_le S (List.range N)
  rw [List.length_range] at this
  exact this
end Br
section
open Go.RowKit Go.Maps
def RowAt (w : World) (b o d : Nat) (S : Nat → Bool) : Prop := ∃ cs : Array Value, w.heap[b]? = some (.cells cs 125 (0, 0)) ∧ ∀ i, i < d → cs[o + i]? = some (.int .u64 (Br.wd S i : Nat))
def rowV (b o d c : Nat) : Value := .slice (some ⟨b, o, none⟩) d c
theorem RowAt.lt {w : World} {b o d : Nat} {S : Nat → Bool} (h : RowAt w b o d S) : b < w.heap.size := by
  obtain ⟨cs, hc, _⟩ := h
  exact t_lt hc
theorem RowAt.cell {w : World} {b o d : Nat} {S : Nat → Bool} (h : RowAt w b o d S) {i : Nat} (hi : i < d) : w.cell? ⟨b, o + i, none⟩ = some (.int .u64 (Br.wd S i : Nat)) := by
  obtain ⟨cs, hc, hx⟩ := h
  exact cell0_of hc (hx i hi)
theorem RowAt.free {w : World} {b o d : Nat} {S : Nat → Bool} (h : RowAt w b o d S) (k : Nat) : w.frozen? ⟨b, k, none⟩ = false := by
  obtain ⟨cs, hc, _⟩ := h
  exact blk_free hc k
theorem RowAt.drew9 {w : World} {b o d : Nat} {S : Nat → Bool} (h : RowAt w b o d S) : RowAt w.drew b o d S := h
theorem RowAt.at {w w' : World} {b o d : Nat} {S : Nat → Bool} (h : RowAt w b o d S) (hb : w'.heap[b]? = w.heap[b]?) : RowAt w' b o d S := by
  obtain ⟨cs, hc, hx⟩ := h
  exact ⟨cs, hb.trans hc, hx⟩
theorem RowAt.below {w w' : World} {b o d : Nat} {S : Nat → Bool} (h : RowAt w b o d S) (hb : Below w.heap.size w w') : RowAt w' b o d S := h.at (hb.block _ h.lt)
theorem RowAt.kept {w w' : World} {b o d : Nat} {S : Nat → Bool} {F : Nat → Prop} (h : RowAt w b o d S) (hk : Kept F w w') (hF : ¬ F b) : RowAt w' b o d S := h.at (hk.block _ h.lt hF)
theorem RowAt.congr {w : World} {b o d : Nat} {S T : Nat → Bool} (h : RowAt w b o d S) (hS : ∀ q, q / 64 < d → S q = T q) : RowAt w b o d T := by
  obtain ⟨cs, hc, hx⟩ := h
  refine ⟨cs, hc, fun i hi => ?_⟩
  rw [hx i hi, Br.wd_congr (T := T) fun q hq => hS q (by omega)]
structure Wr (b o d : Nat) (w w' : World) : Prop where
  kp : Kept (fun i => i = b) w w'
  cs : ∀ (cs : Array Value) (t : TypeId), w.heap[b]? = some (.cells cs t (0, 0)) → ∃ cs' : Array Value, w'.heap[b]? = some (.cells cs' t (0, 0)) ∧ cs'.size = cs.size ∧ ∀ j, ¬ (o ≤ j ∧ j < o + d) → cs'[j]? = cs[j]?
theorem Wr.refl (b o d : Nat) (w : World) : Wr b o d w w := ⟨Kept.refl _ _, fun cs _ h => ⟨cs, h, rfl, fun _ _ => rfl⟩⟩
theorem Wr.trans {b o d : Nat} {w w1 w2 : World} (h : Wr b o d w w1) (k : Wr b o d w1 w2) : Wr b o d w w2 :=
  ⟨h.kp.trans k.kp, fun cs t hc => by
    obtain ⟨c1, h1, s1, x1⟩ := h.cs cs t hc
    obtain ⟨c2, h2, s2, x2⟩ := k.cs c1 t h1
    exact ⟨c2, h2, s2.trans s1, fun j hj => (x2 j hj).trans (x1 j hj)⟩⟩
theorem Wr.set (w : World) (b o d : Nat) {i : Nat} (hi : i < d) (v : Value) : Wr b o d w (w.setCell ⟨b, o + i, none⟩ v) :=
  ⟨Kept.setCell w b (o + i) v, fun cs t hc => ⟨_, heap_setCell_same w b (o + i) cs t v hc, by simp, fun j hj => by
    rw [Array.getElem?_setIfInBounds]
    rw [if_neg (by omega)]⟩⟩
theorem Wr.undrew {b o d : Nat} {w w' : World} (h : Wr b o d w.drew w') : Wr b o d w w' := ⟨⟨h.kp.os, h.kp.tape, h.kp.output, h.kp.size, h.kp.block⟩, h.cs⟩
theorem Wr.below {b o d : Nat} {w w' : World} (h : Wr b o d w w') {B : Nat} (hB : B ≤ w.heap.size) (hb : B ≤ b) : Below B w w' := h.kp.below hB fun k hk => by omega
theorem RowAt.wr {w w' : World} {b o d b' o' d' : Nat} {T : Nat → Bool} (h : RowAt w b' o' d' T) (hw : Wr b o d w w') (ha : b' ≠ b ∨ o' + d' ≤ o ∨ o + d ≤ o') : RowAt w' b' o' d' T := by
  by_cases e : b' = b
  · subst e
    obtain ⟨cs, hc, hx⟩ := h
    obtain ⟨c1, h1, _, x1⟩ := hw.cs cs _ hc
    refine ⟨c1, h1, fun i hi => ?_⟩
    rw [x1 (o' + i) (by omega)]
    exact hx i hi
  · exact h.kept hw.kp e
theorem RowAt.put {w : World} {b o d : Nat} {S : Nat → Bool} (h : RowAt w b o d S) {i : Nat} (hi : i < d) (S' : Nat → Bool) (hS : ∀ q, q / 64 ≠ i → S' q = S q) : RowAt (w.setCell ⟨b, o + i, none⟩ (.int .u64 (Br.wd S' i : Nat))) b o d S' := by
  obtain ⟨cs, hc, hx⟩ := h
  refine ⟨_, heap_setCell_same w b (o + i) cs _ _ hc, fun j hj => ?_⟩
  have hl := (Array.getElem?_eq_some_iff.1 (hx i hi)).1
  by_cases e : j = i
  · subst e
    rw [Array.getElem?_setIfInBounds, if_pos rfl, if_pos hl]
  · rw [Array.getElem?_setIfInBounds, if_neg (by omega), hx j hj, Br.wd_congr (S := S) (T := S') fun q hq => (hS q (by omega)).symm]
theorem row_zero (S : Nat → Bool) (i : Nat) (h : ∀ q, S q = false) : Br.wd S i = 0 := (Br.wd_zero S i).2 fun q _ => h q
theorem rowAt_new (w : World) (N d o : Nat) (h : o + d ≤ N) : RowAt (w.alloc (.cells (madeV (.int .u64 0) N) 125)) w.heap.size o d fun _ => false := by
  refine ⟨_, heap_alloc_new w _, fun i hi => ?_⟩
  rw [row_zero _ _ fun _ => rfl, ← Array.getElem?_toList, madeV_eq _ rfl, List.getElem?_replicate, if_pos (by omega)]
  rfl
theorem u64_ne0 (x : Nat) : ((x : Int) != 0) = !decide (x = 0) := by
  by_cases h : x = 0 <;> simp [h]
end
section
open Go.RowKit Go.Maps
attribute [local go_sem ↓] Go.wp_at_zero Go.wp_at_succ
def Br.wds (n : Nat) : Nat := (n + 63) / 64
theorem two_lt (q : Nat) : 2 ^ (q % 64) < 18446744073709551616 := by
  have h : 2 ^ (q % 64) < 2 ^ 64 := Nat.pow_lt_pow_right (by decide) (Nat.mod_lt _ (by decide))
  exact h
theorem Tryz.infoU64 : (Tryz.prog.info? 125).map (fun i => (i.zero, i.size, i.bytes)) = some (some (.int .u64 0), 1, 8) := by kernel_rfl
theorem makeU (n : Nat) (hn : n ≤ 1000000) (w : World) : (Instr.makeSlice 75 (.int .i64 (n : Int)) (.int .i64 (n : Int))).run Tryz.prog w = .ok (.slice (some ⟨w.heap.size, 0, none⟩) n n) (w.alloc (.cells (madeV (.int .u64 0) n) 125)) := make_of _ _ _ 8 Tryz.underlying75 Tryz.infoU64 n hn (by decide) w
theorem rowAt_drew {w : World} {b o d : Nat} {S : Nat → Bool} (h : RowAt w b o d S) : RowAt w.drew b o d S := h
theorem Wr.drew {b o d : Nat} {w w' : World} (h : Wr b o d w w') : Wr b o d w w'.drew := ⟨⟨h.kp.os, h.kp.tape, h.kp.output, h.kp.size, h.kp.block⟩, h.cs⟩
set_option maxRecDepth 100000 in
set_option maxHeartbeats 1000000 in
theorem wordsOf_any (n : Nat) (hn : n ≤ 100000) (w : World) : Calls Tryz.prog 134 #[.int .i64 n] w fun r w' => r = .returned (.int .i64 (Br.wds n : Nat)) ∧ w' = w := by
  go_enter Tryz.func134, Tryz.ntmps134
  go_wp2_with fail
  go_ret
  have e1 : ((n : Int) + 64 - 1) / 64 = (Br.wds n : Nat) := by unfold Br.wds; omega
  exact ⟨by rw [← e1]; rfl, rfl⟩
set_option maxRecDepth 100000 in
set_option maxHeartbeats 1000000 in
theorem newRow_any (n : Nat) (hn : n ≤ 100000) (w : World) : Calls Tryz.prog 125 #[.int .i64 n] w fun r w' => r = .returned (rowV w.heap.size 0 (Br.wds n) (Br.wds n)) ∧ w' = w.alloc (.cells (madeV (.int .u64 0) (Br.wds n)) 125) := by
  have hW := wordsOf_any n hn w
  have hd : Br.wds n ≤ 1000000 := by unfold Br.wds; omega
  have mU := makeU (Br.wds n) hd w
  generalize Br.wds n = d at hW mU hd ⊢
  have HW : Hid _ := hW
  clear hW
  go_enter Tryz.func125, Tryz.ntmps125
  go_wp2_with fail
  refine Calls.mono HW.out ?_
  rintro r w1 ⟨rfl, rfl⟩
  go_wp2_with fail
  go_ret
  exact ⟨rfl, rfl⟩
set_option maxRecDepth 100000 in
set_option maxHeartbeats 1000000 in
theorem hasRow_any (b o d c q : Nat) (S : Nat → Bool) (w : World) (hd : d ≤ 10000) (hq : q / 64 < d) (hR : RowAt w b o d S) : Calls Tryz.prog 35 #[rowV b o d c, .int .i64 q] w fun r w' => r = .returned (.bool (S q)) ∧ w' = w := by
  have c0 := hR.cell hq
  have h0 : (0 : Int) ≤ (q : Int) := by omega
  have h1 := Br.wd_has S q
  have hb : Br.wd S (q / 64) / 2 ^ (q % 64) < 18446744073709551616 := Nat.lt_of_le_of_lt (Nat.div_le_self _ _) (Br.wd_lt S _)
  generalize Br.wd S (q / 64) = x at c0 h1 hb
  clear hR
  unfold rowV
  go_enter Tryz.func35, Tryz.ntmps35
  go_wp2_with fail
  go_ret
  have e1 : bits .and .u64 ((x : Int) / 2 ^ (q % 64)) 1 = (if S q then 1 else 0 : Int) := by
    have e2 : (x : Int) / 2 ^ (q % 64) = ((x / 2 ^ (q % 64) : Nat) : Int) := by simp
    rw [e2, show (1 : Int) = ((1 : Nat) : Int) from rfl, bits_and_u64_nat _ _ hb (by decide), h1]
    split <;> rfl
  refine ⟨?_, rfl⟩
  show Ending.returned (.bool (bits .and .u64 ((x : Int) / 2 ^ (q % 64)) 1 == 1)) = _
  rw [e1]
  cases S q <;> rfl
set_option maxRecDepth 100000 in
set_option maxHeartbeats 1000000 in
theorem addRow_any (b o d c q : Nat) (S : Nat → Bool) (w : World) (hd : d ≤ 10000) (hq : q / 64 < d) (hR : RowAt w b o d S) : Calls Tryz.prog 122 #[rowV b o d c, .int .i64 q] w fun r w' => (∃ v, r = .returned v) ∧ RowAt w' b o d (fun z => S z || decide (z = q)) ∧ Wr b o d w w' := by
  have c0 := hR.cell hq
  have hf := hR.free (o + q / 64)
  have h0 : (0 : Int) ≤ (q : Int) := by omega
  have HR : Hid (RowAt w b o d S) := hR
  clear hR
  unfold rowV
  go_enter Tryz.func122, Tryz.ntmps122
  go_region
  all_goals
    go_end0
    have e1 : IntKind.u64.wrap (2 ^ (q % 64)) = ((2 ^ (q % 64) : Nat) : Int) := by
      have h1 := two_lt q
      have h2 : ((2 : Int) ^ (q % 64)) = ((2 ^ (q % 64) : Nat) : Int) := by simp
      rw [h2]
      generalize 2 ^ (q % 64) = m at h1 ⊢
      rw [IntKind.wrap_u64]; omega
    have h1 := two_lt q
    rw [e1, bits_or_u64_nat _ _ (Br.wd_lt _ _) h1, Br.wd_one]
    have hp := HR.out.put hq (fun z => S z || decide (z = q)) fun z hz => by
      have : decide (z = q) = false := by simp; rintro rfl; exact hz rfl
      simp [this]
    exact ⟨⟨_, rfl⟩, rowAt_drew hp, (Wr.set w b o d hq _).drew⟩
def mixS (S T : Nat → Bool) (i : Nat) : Nat → Bool := fun q => S q || T q && decide (q / 64 < i)
set_option maxRecDepth 100000 in
set_option maxHeartbeats 2000000 in
theorem joinRow_any (b o d c b2 o2 c2 : Nat) (S T : Nat → Bool) (w : World) (hd : d ≤ 10000) (hR : RowAt w b o d S) (hT : RowAt w b2 o2 d T) (ha : b2 ≠ b ∨ o2 + d ≤ o ∨ o + d ≤ o2) : Calls Tryz.prog 151 #[rowV b o d c, rowV b2 o2 d c2] w fun r w' => (∃ v, r = .returned v) ∧ RowAt w' b o d (fun z => S z || T z) ∧ Wr b o d w w' := by
  have HR : Hid _ := And.intro hR (And.intro hT ha)
  clear hR hT ha
  unfold rowV
  go_enter Tryz.func151, Tryz.ntmps151
  go_wp2_with fail
  go_loopg [8] d (fun k iv wr => ∃ i : Nat, k = d - i ∧ i ≤ d ∧ iv = .int .i64 i ∧ RowAt wr b o d (mixS S T i) ∧ Wr b o d w wr)
  case atStart => exact ⟨0, rfl, Nat.zero_le _, rfl, HR.out.1.congr fun q _ => by simp [mixS], Wr.refl _ _ _ _⟩
  case round =>
    obtain ⟨i, rfl, hi, rfl, hA, hW⟩ := hrel
    by_cases hlt : i < d
    · have hB := HR.out.2.1.wr hW HR.out.2.2
      have c0 := hA.cell hlt
      have c1 := hB.cell hlt
      have f0 := hA.free (o + i)
      have h0 : (0 : Int) ≤ (i : Int) := by omega
      have h1 : (i : Int) < (d : Int) := by omega
      have HA : Hid _ := And.intro hA (And.intro hB hW)
      clear hA hB hW
      go_wp2_with (simp only [Br.b_or])
      go_roundg (d - (i + 1))
      case measure => omega
      case rel =>
        refine ⟨i + 1, rfl, by omega, by go_num, ?_, ?_⟩
        · have hp := HA.out.1.put hlt (mixS S T (i + 1)) fun q hq => by
            have : decide (q / 64 < i + 1) = decide (q / 64 < i) := by simp only [decide_eq_decide]; omega
            simp only [mixS, this]
          have e1 : Br.wd (fun q => mixS S T i q || T q) i = Br.wd (mixS S T (i + 1)) i := Br.wd_congr fun q hq => by
            have e2 : decide (q / 64 < i) = false := by simp; omega
            have e3 : decide (q / 64 < i + 1) = true := by simp; omega
            simp [mixS, e2, e3]
          rw [e1]
          exact hp
        · exact HA.out.2.2.trans (Wr.set wr b o d hlt _)
    · obtain rfl : i = d := by omega
      have h1 : ¬ (i : Int) < (i : Int) := by omega
      have HA : Hid _ := And.intro hA hW
      clear hA hW
      go_wp2_with fail
      go_end0
      refine ⟨⟨_, rfl⟩, HA.out.1.congr fun q hq => ?_, HA.out.2⟩
      simp [mixS, hq]
def meetS (S T : Nat → Bool) (N : Nat) : Bool := (List.range N).any fun q => S q && T q
def withS (S T : Nat → Bool) (N : Nat) : Bool := (List.range N).all fun q => !S q || T q
def nonS (S : Nat → Bool) (N : Nat) : Bool := (List.range N).all fun q => !S q
theorem meetS_no {S T : Nat → Bool} {i : Nat} (h : meetS S T (64 * i) = false) (h2 : Br.wd (fun q => S q && T q) i = 0) : meetS S T (64 * (i + 1)) = false := by
  unfold meetS at h ⊢
  rw [List.any_eq_false] at h ⊢
  intro q hq
  rw [List.mem_range] at hq
  by_cases e : q < 64 * i
  · exact h q (List.mem_range.2 e)
  · simpa using (Br.wd_zero _ _).1 h2 q (by omega)
theorem wd_some {S : Nat → Bool} {i : Nat} (h : Br.wd S i ≠ 0) : ∃ q, q / 64 = i ∧ S q = true := by
  apply Classical.byContradiction
  intro h2
  refine h ((Br.wd_zero _ _).2 fun q hq => ?_)
  cases h3 : S q with
  | false => rfl
  | true => exact absurd ⟨q, hq, h3⟩ h2
set_option maxRecDepth 100000 in
set_option maxHeartbeats 2000000 in
theorem meetsRow_any (b o d c b2 o2 c2 : Nat) (S T : Nat → Bool) (w : World) (hd : d ≤ 10000) (hR : RowAt w b o d S) (hT : RowAt w b2 o2 d T) : Calls Tryz.prog 149 #[rowV b o d c, rowV b2 o2 d c2] w fun r w' => r = .returned (.bool (meetS S T (64 * d))) ∧ w' = w := by
  have HR : Hid (RowAt w b o d S ∧ RowAt w b2 o2 d T) := And.intro hR hT
  clear hR hT
  unfold rowV
  go_enter Tryz.func149, Tryz.ntmps149
  go_wp2_with fail
  go_loopg [9] d (fun k iv wr => ∃ i : Nat, k = d - i ∧ i ≤ d ∧ iv = .int .i64 i ∧ meetS S T (64 * i) = false ∧ wr = w)
  case atStart => exact ⟨0, rfl, Nat.zero_le _, rfl, rfl, rfl⟩
  case round =>
    obtain ⟨i, rfl, hi, rfl, hA, rfl⟩ := hrel
    by_cases hlt : i < d
    · have c0 := HR.out.1.cell hlt
      have c1 := HR.out.2.cell hlt
      have h0 : (0 : Int) ≤ (i : Int) := by omega
      have h1 : (i : Int) < (d : Int) := by omega
      have HA : Hid (meetS S T (64 * i) = false) := hA
      clear hA
      by_cases hz : Br.wd (fun q => S q && T q) i = 0
      · have e1 : (bits .and .u64 (Br.wd S i : Int) (Br.wd T i : Int) != 0) = false := by rw [Br.b_and, hz]; rfl
        have HZ : Hid (Br.wd (fun q => S q && T q) i = 0) := hz
        clear hz
        go_wp2_with (simp only [e1])
        go_roundg (d - (i + 1))
        case measure => omega
        case rel => exact ⟨i + 1, rfl, by omega, by go_num, meetS_no HA.out HZ.out, rfl⟩
      · have e1 : (bits .and .u64 (Br.wd S i : Int) (Br.wd T i : Int) != 0) = true := by rw [Br.b_and, u64_ne0]; simp [hz]
        have HZ : Hid (Br.wd (fun q => S q && T q) i ≠ 0) := hz
        clear hz
        go_wp2_with (simp only [e1])
        go_ret
        refine ⟨?_, rfl⟩
        have h2 : meetS S T (64 * d) = true := by
          obtain ⟨q, hq, hs⟩ := wd_some HZ.out
          exact List.any_eq_true.2 ⟨q, List.mem_range.2 (by omega), hs⟩
        rw [h2]; rfl
    · obtain rfl : i = d := by omega
      have h1 : ¬ (i : Int) < (i : Int) := by omega
      have HA : Hid (meetS S T (64 * i) = false) := hA
      clear hA
      go_wp2_with fail
      go_ret
      refine ⟨?_, rfl⟩
      rw [HA.out]; rfl
theorem withS_on {S T : Nat → Bool} {i : Nat} (h : withS S T (64 * i) = true) (h2 : Br.wd (fun q => S q && !T q) i = 0) : withS S T (64 * (i + 1)) = true := by
  unfold withS at h ⊢
  rw [List.all_eq_true] at h ⊢
  intro q hq
  rw [List.mem_range] at hq
  by_cases e : q < 64 * i
  · exact h q (List.mem_range.2 e)
  · have := (Br.wd_zero _ _).1 h2 q (by omega)
    revert this; cases S q <;> cases T q <;> simp
set_option maxRecDepth 100000 in
set_option maxHeartbeats 2000000 in
theorem withinRow_any (b o d c b2 o2 c2 : Nat) (S T : Nat → Bool) (w : World) (hd : d ≤ 10000) (hR : RowAt w b o d S) (hT : RowAt w b2 o2 d T) : Calls Tryz.prog 123 #[rowV b o d c, rowV b2 o2 d c2] w fun r w' => r = .returned (.bool (withS S T (64 * d))) ∧ w' = w := by
  have HR : Hid (RowAt w b o d S ∧ RowAt w b2 o2 d T) := And.intro hR hT
  clear hR hT
  unfold rowV
  go_enter Tryz.func123, Tryz.ntmps123
  go_wp2_with fail
  go_loopg [9] d (fun k iv wr => ∃ i : Nat, k = d - i ∧ i ≤ d ∧ iv = .int .i64 i ∧ withS S T (64 * i) = true ∧ wr = w)
  case atStart => exact ⟨0, rfl, Nat.zero_le _, rfl, rfl, rfl⟩
  case round =>
    obtain ⟨i, rfl, hi, rfl, hA, rfl⟩ := hrel
    by_cases hlt : i < d
    · have c0 := HR.out.1.cell hlt
      have c1 := HR.out.2.cell hlt
      have h0 : (0 : Int) ≤ (i : Int) := by omega
      have h1 : (i : Int) < (d : Int) := by omega
      have HA : Hid (withS S T (64 * i) = true) := hA
      clear hA
      by_cases hz : Br.wd (fun q => S q && !T q) i = 0
      · have e1 : (bits .andNot .u64 (Br.wd S i : Int) (Br.wd T i : Int) != 0) = false := by rw [Br.wd_andNot, hz]; rfl
        have HZ : Hid (Br.wd (fun q => S q && !T q) i = 0) := hz
        clear hz
        go_wp2_with (simp only [e1])
        go_roundg (d - (i + 1))
        case measure => omega
        case rel => exact ⟨i + 1, rfl, by omega, by go_num, withS_on HA.out HZ.out, rfl⟩
      · have e1 : (bits .andNot .u64 (Br.wd S i : Int) (Br.wd T i : Int) != 0) = true := by rw [Br.wd_andNot, u64_ne0]; simp [hz]
        have HZ : Hid (Br.wd (fun q => S q && !T q) i ≠ 0) := hz
        clear hz
        go_wp2_with (simp only [e1])
        go_ret
        refine ⟨?_, rfl⟩
        have h2 : withS S T (64 * d) = false := by
          obtain ⟨q, hq, hs⟩ := wd_some HZ.out
          refine List.all_eq_false.2 ⟨q, List.mem_range.2 (by omega), ?_⟩
          revert hs; cases S q <;> cases T q <;> simp
        rw [h2]; rfl
    · obtain rfl : i = d := by omega
      have h1 : ¬ (i : Int) < (i : Int) := by omega
      have HA : Hid (withS S T (64 * i) = true) := hA
      clear hA
      go_wp2_with fail
      go_ret
      refine ⟨?_, rfl⟩
      rw [HA.out]; rfl
theorem nonS_on {S : Nat → Bool} {i : Nat} (h : nonS S (64 * i) = true) (h2 : Br.wd S i = 0) : nonS S (64 * (i + 1)) = true := by
  unfold nonS at h ⊢
  rw [List.all_eq_true] at h ⊢
  intro q hq
  rw [List.mem_range] at hq
  by_cases e : q < 64 * i
  · exact h q (List.mem_range.2 e)
  · rw [(Br.wd_zero _ _).1 h2 q (by omega)]; rfl
set_option maxRecDepth 100000 in
set_option maxHeartbeats 2000000 in
theorem emptyRow_any (b o d c : Nat) (S : Nat → Bool) (w : World) (hd : d ≤ 10000) (hR : RowAt w b o d S) : Calls Tryz.prog 124 #[rowV b o d c] w fun r w' => r = .returned (.bool (nonS S (64 * d))) ∧ w' = w := by
  have HR : Hid (RowAt w b o d S) := hR
  clear hR
  unfold rowV
  go_enter Tryz.func124, Tryz.ntmps124
  go_wp2_with fail
  go_loopg [7] d (fun k iv wr => ∃ i : Nat, k = d - i ∧ i ≤ d ∧ iv = .int .i64 i ∧ nonS S (64 * i) = true ∧ wr = w)
  case atStart => exact ⟨0, rfl, Nat.zero_le _, rfl, rfl, rfl⟩
  case round =>
    obtain ⟨i, rfl, hi, rfl, hA, rfl⟩ := hrel
    by_cases hlt : i < d
    · have c0 := HR.out.cell hlt
      have h0 : (0 : Int) ≤ (i : Int) := by omega
      have h1 : (i : Int) < (d : Int) := by omega
      have HA : Hid (nonS S (64 * i) = true) := hA
      clear hA
      by_cases hz : Br.wd S i = 0
      · rw [hz] at c0
        have HZ : Hid (Br.wd S i = 0) := hz
        clear hz
        go_wp2_with fail
        go_roundg (d - (i + 1))
        case measure => omega
        case rel => exact ⟨i + 1, rfl, by omega, by go_num, nonS_on HA.out HZ.out, rfl⟩
      · have e1 : ((Br.wd S i : Int) != 0) = true := by rw [u64_ne0]; simp [hz]
        have HZ : Hid (Br.wd S i ≠ 0) := hz
        clear hz
        go_wp2_with (simp only [e1])
        go_ret
        refine ⟨?_, rfl⟩
        have h2 : nonS S (64 * d) = false := by
          obtain ⟨q, hq, hs⟩ := wd_some HZ.out
          exact List.all_eq_false.2 ⟨q, List.mem_range.2 (by omega), by rw [hs]; simp⟩
        rw [h2]; rfl
    · obtain rfl : i = d := by omega
      have h1 : ¬ (i : Int) < (i : Int) := by omega
      have HA : Hid (nonS S (64 * i) = true) := hA
      clear hA
      go_wp2_with fail
      go_ret
      refine ⟨?_, rfl⟩
      rw [HA.out]; rfl
end
section
open Go.RowKit Go.Maps
attribute [local go_sem ↓] Go.wp_at_zero Go.wp_at_succ
def ListAt (ty : TypeId) (w : World) (g m : Nat) (f : Nat → Value) : Prop := ∃ cs : Array Value, w.heap[g]? = some (.cells cs ty (0, 0)) ∧ ∀ i, i < m → cs[i]? = some (f i)
theorem ListAt.lt {ty : TypeId} {w : World} {g m : Nat} {f : Nat → Value} (h : ListAt ty w g m f) : g < w.heap.size := by
  obtain ⟨cs, hc, _⟩ := h
  exact t_lt hc
theorem ListAt.cell {ty : TypeId} {w : World} {g m : Nat} {f : Nat → Value} (h : ListAt ty w g m f) {i : Nat} (hi : i < m) : w.cell? ⟨g, i, none⟩ = some (f i) := by
  obtain ⟨cs, hc, hx⟩ := h
  exact cell0_of hc (hx i hi)
theorem ListAt.free {ty : TypeId} {w : World} {g m : Nat} {f : Nat → Value} (h : ListAt ty w g m f) (k : Nat) : w.frozen? ⟨g, k, none⟩ = false := by
  obtain ⟨cs, hc, _⟩ := h
  exact blk_free hc k
theorem ListAt.at {ty : TypeId} {w w' : World} {g m : Nat} {f : Nat → Value} (h : ListAt ty w g m f) (hb : w'.heap[g]? = w.heap[g]?) : ListAt ty w' g m f := by
  obtain ⟨cs, hc, hx⟩ := h
  exact ⟨cs, hb.trans hc, hx⟩
theorem ListAt.below {ty : TypeId} {w w' : World} {g m : Nat} {f : Nat → Value} (h : ListAt ty w g m f) (hb : Below w.heap.size w w') : ListAt ty w' g m f := h.at (hb.block _ h.lt)
theorem ListAt.kept {ty : TypeId} {w w' : World} {g m : Nat} {f : Nat → Value} {F : Nat → Prop} (h : ListAt ty w g m f) (hk : Kept F w w') (hF : ¬ F g) : ListAt ty w' g m f := h.at (hk.block _ h.lt hF)
theorem ListAt.congr {ty : TypeId} {w : World} {g m : Nat} {f f' : Nat → Value} (h : ListAt ty w g m f) (he : ∀ i, i < m → f i = f' i) : ListAt ty w g m f' := by
  obtain ⟨cs, hc, hx⟩ := h
  exact ⟨cs, hc, fun i hi => by rw [hx i hi, he i hi]⟩
theorem ListAt.put {ty : TypeId} {w : World} {g m : Nat} {f : Nat → Value} (h : ListAt ty w g m f) {i : Nat} (v : Value) : ListAt ty (w.setCell ⟨g, i, none⟩ v) g m (fun j => if j = i then v else f j) := by
  obtain ⟨cs, hc, hx⟩ := h
  refine ⟨_, heap_setCell_same w g i cs _ _ hc, fun j hj => ?_⟩
  rw [Array.getElem?_setIfInBounds]
  by_cases e : j = i
  · subst e
    have hl := (Array.getElem?_eq_some_iff.1 (hx j hj)).1
    rw [if_pos rfl, if_pos hl]
    simp
  · rw [if_neg (fun e2 => e e2.symm), hx j hj]
    simp [e]
theorem ListAt.other {ty : TypeId} {w : World} {g m b o : Nat} {f : Nat → Value} {v : Value} (h : ListAt ty w g m f) (hb : g ≠ b) : ListAt ty (w.setCell ⟨b, o, none⟩ v) g m f := h.at (set_other w b o g v hb)
theorem listAt_new (ty : TypeId) (z : Value) (hz : z.cells = #[z]) (w : World) (m : Nat) : ListAt ty (w.alloc (.cells (madeV z m) ty)) w.heap.size m fun _ => z := by
  refine ⟨_, heap_alloc_new w _, fun i hi => ?_⟩
  rw [← Array.getElem?_toList, madeV_eq _ hz, List.getElem?_replicate, if_pos hi]
theorem Tryz.infoRw : (Tryz.prog.info? 75).map (fun i => (i.zero, i.size, i.bytes)) = some (some (.slice none 0 0), 1, 24) := by kernel_rfl
theorem makeRw (n : Nat) (hn : n ≤ 1000000) (w : World) : (Instr.makeSlice 70 (.int .i64 (n : Int)) (.int .i64 (n : Int))).run Tryz.prog w = .ok (.slice (some ⟨w.heap.size, 0, none⟩) n n) (w.alloc (.cells (madeV (.slice none 0 0) n) 75)) := make_of _ _ _ 24 Tryz.underlying70 Tryz.infoRw n hn (by decide) w
structure Sev (w w' : World) (g0 g1 m d : Nat) : Prop where
  wd : ∃ cs : Array Value, w'.heap[g0]? = some (.cells cs 125 (0, 0)) ∧ ∀ i, i < m * d → cs[i]? = some (.int .u64 0)
  rw : ListAt 75 w' g1 m fun i => rowV g0 (i * d) d d
  u0 : w.heap.size ≤ g0
  u1 : w.heap.size ≤ g1
  bl : Below w.heap.size w w'
theorem Sev.row {w w' : World} {g0 g1 m d : Nat} (h : Sev w w' g0 g1 m d) {p : Nat} (hp : p < m) : RowAt w' g0 (p * d) d fun _ => false := by
  obtain ⟨cs, hc, hx⟩ := h.wd
  refine ⟨cs, hc, fun i hi => ?_⟩
  have h1 : (p + 1) * d ≤ m * d := Nat.mul_le_mul_right _ hp
  rw [Nat.add_mul] at h1
  rw [row_zero _ _ fun _ => rfl]
  exact hx (p * d + i) (by omega)
set_option maxRecDepth 100000 in
set_option maxHeartbeats 4000000 in
theorem several_any (m n : Nat) (hm : m ≤ 1000) (hn : n ≤ 1000) (h0 : m = 0 ∨ 0 < n) (w : World) : Calls Tryz.prog 120 #[.int .i64 m, .int .i64 n] w fun r w' => ∃ g0 g1, r = .returned (.slice (some ⟨g1, 0, none⟩) m m) ∧ g0 ≠ g1 ∧ Sev w w' g0 g1 m (Br.wds n) := by
  have hW := wordsOf_any n (by omega) w
  have hd : Br.wds n ≤ 16 := by unfold Br.wds; omega
  have hd0 : m = 0 ∨ 0 < Br.wds n := h0.imp id fun h => by unfold Br.wds; omega
  generalize Br.wds n = d at hW hd hd0 ⊢
  have hmd : m * d ≤ 16000 := Nat.le_trans (Nat.mul_le_mul hm hd) (by decide)
  have mU := makeU (m * d) (by omega) w
  have mR := makeRw m (by omega) (w.alloc (.cells (madeV (.int .u64 0) (m * d)) 125))
  rw [Int.natCast_mul] at mU
  have HW : Hid _ := hW
  clear hW
  go_enter Tryz.func120, Tryz.ntmps120
  go_wp2_with fail
  refine Calls.mono HW.out ?_
  rintro r w1 ⟨rfl, hw1⟩
  obtain rfl := hw1.symm
  go_wp2_with fail
  clear mU mR
  have hL := listAt_new 75 (.slice none 0 0) rfl (w.alloc (.cells (madeV (.int .u64 0) (m * d)) 125)) m
  have hU := heap_alloc_new w (.cells (madeV (.int .u64 0) (m * d)) 125)
  obtain ⟨wx, hwx⟩ : ∃ wx, wx = (w.alloc (.cells (madeV (.int .u64 0) (m * d)) 125)).alloc (.cells (madeV (.slice none 0 0) m) 75) := ⟨_, rfl⟩
  have hz : (w.alloc (.cells (madeV (.int .u64 0) (m * d)) 125)).heap.size = w.heap.size + 1 := by simp
  rw [hz, ← hwx] at hL
  have hb1 : Below (w.alloc (.cells (madeV (.int .u64 0) (m * d)) 125)).heap.size (w.alloc (.cells (madeV (.int .u64 0) (m * d)) 125)) wx := by rw [hwx]; exact (Below.refl _ _).alloc (Nat.le_refl _) _
  have hbx : Below w.heap.size w wx := ((Below.refl _ w).alloc (Nat.le_refl _) _).trans (hb1.mono (by simp))
  have hU2 : wx.heap[w.heap.size]? = some (.cells (madeV (.int .u64 0) (m * d)) 125 (0, 0)) := (hb1.block _ (by simp)).trans hU
  rw [← hwx]
  have HX : Hid (ListAt 75 wx (w.heap.size + 1) m (fun _ => .slice none 0 0) ∧ wx.heap[w.heap.size]? = some (.cells (madeV (.int .u64 0) (m * d)) 125 (0, 0)) ∧ Below w.heap.size w wx) := ⟨hL, hU2, hbx⟩
  clear hL hU hwx hz hb1 hbx hU2
  go_loopg [19] m (fun k iv wr => ∃ i : Nat, k = m - i ∧ i ≤ m ∧ iv = .int .i64 i ∧ ListAt 75 wr (w.heap.size + 1) m (fun j => if j < i then rowV w.heap.size (j * d) d d else .slice none 0 0) ∧ Kept (fun b => b = w.heap.size + 1) wx wr)
  case atStart => exact ⟨0, rfl, Nat.zero_le _, rfl, HX.out.1.congr fun i _ => by simp, Kept.refl _ _⟩
  case round =>
    obtain ⟨i, rfl, hi, rfl, hA, hK⟩ := hrel
    by_cases hlt : i < m
    · have f0 := hA.free i
      have c0 := hA.cell hlt
      simp only [Nat.lt_irrefl, if_false] at c0
      have h0 : (0 : Int) ≤ (i : Int) := by omega
      have h1 : (i : Int) < (m : Int) := by omega
      have HA : Hid (ListAt 75 wr (w.heap.size + 1) m (fun j => if j < i then rowV w.heap.size (j * d) d d else .slice none 0 0) ∧ Kept (fun b => b = w.heap.size + 1) wx wr) := And.intro hA hK
      clear hA hK
      have hd1 : 0 < d := by omega
      have hy1 : (i + 1) * d ≤ m * d := Nat.mul_le_mul_right _ hlt
      obtain ⟨x, hx⟩ : ∃ x, x = i * d := ⟨_, rfl⟩
      have hy : (i + 1) * d = x + d := by rw [hx, Nat.add_mul, Nat.one_mul]
      rw [hy] at hy1
      have r0 : wrap64 ((i : Int) * (d : Int)) = (x : Int) := by
        rw [← Int.natCast_mul, ← hx]; unfold wrap64; omega
      have r1 : wrap64 (((i : Int) + 1) * (d : Int)) = (x : Int) + (d : Int) := by
        rw [show (i : Int) + 1 = ((i + 1 : Nat) : Int) from rfl, ← Int.natCast_mul, hy]; unfold wrap64; omega
      have r2 : (0 : Int) ≤ (x : Int) := by omega
      have r3 : (x : Int) ≤ (x : Int) + (d : Int) := by omega
      have r4 : (x : Int) + (d : Int) ≤ (m : Int) * (d : Int) := by rw [← Int.natCast_mul]; omega
      have r5 : (0 : Int) ≤ (x : Int) + (d : Int) := by omega
      have r6 : max ((x : Int) + (d : Int)) 0 = (x : Int) + (d : Int) := by omega
      have HX2 : Hid _ := And.intro hx (And.intro hy hy1)
      clear hx hy hy1
      go_wp2_with fail
      go_roundg (m - (i + 1))
      case measure => omega
      case rel =>
        refine ⟨i + 1, rfl, by omega, by go_num, ?_, HA.out.2.trans (Kept.setCell wr _ _ _)⟩
        refine (HA.out.1.put _).congr fun j _ => ?_
        by_cases e : j = i
        · subst e
          rw [if_pos rfl, if_pos (Nat.lt_succ_self _), HX2.out.1]; rfl
        · rw [if_neg e]
          by_cases e2 : j < i
          · rw [if_pos e2, if_pos (by omega)]
          · rw [if_neg e2, if_neg (by omega)]
    · obtain rfl : i = m := by omega
      have h1 : ¬ (i : Int) < (i : Int) := by omega
      have HA : Hid (ListAt 75 wr (w.heap.size + 1) i (fun j => if j < i then rowV w.heap.size (j * d) d d else .slice none 0 0) ∧ Kept (fun b => b = w.heap.size + 1) wx wr) := And.intro hA hK
      clear hA hK
      go_wp2_with fail
      go_ret
      have hU2 := HX.out.2.1
      refine ⟨w.heap.size, w.heap.size + 1, rfl, by omega, ⟨⟨_, (HA.out.2.block _ (t_lt hU2) (by omega)).trans hU2, fun j hj => ?_⟩, HA.out.1.congr fun j hj => if_pos hj, Nat.le_refl _, by omega, ?_⟩⟩
      · rw [← Array.getElem?_toList, madeV_eq _ rfl, List.getElem?_replicate, if_pos hj]
      · exact HX.out.2.2.trans (HA.out.2.below HX.out.2.2.size fun k hk => by omega)
end
namespace Sm
def Sim (E : Nat → Nat → Nat → Prop) (R : Nat → Nat → Prop) : Prop := ∀ p q, R p q → ∀ a t, E p a t → ∃ u, E q a u ∧ R t u
def Sims (E : Nat → Nat → Nat → Prop) (p q : Nat) : Prop := ∃ R, Sim E R ∧ R p q
theorem sims_sim (E : Nat → Nat → Nat → Prop) : Sim E (Sims E) := by
  rintro p q ⟨R, hR, h⟩ a t ht
  obtain ⟨u, hu, h2⟩ := hR p q h a t ht
  exact ⟨u, hu, R, hR, h2⟩
theorem sims_refl (E : Nat → Nat → Nat → Prop) (p : Nat) : Sims E p p := ⟨Eq, fun p q h a t ht => ⟨t, by rw [← h]; exact ht, rfl⟩, rfl⟩
theorem sims_trans {E : Nat → Nat → Nat → Prop} {p q r : Nat} (h1 : Sims E p q) (h2 : Sims E q r) : Sims E p r := by
  refine ⟨fun x z => ∃ y, Sims E x y ∧ Sims E y z, ?_, q, h1, h2⟩
  rintro x z ⟨y, hxy, hyz⟩ a t ht
  obtain ⟨u, hu, h3⟩ := sims_sim E x y hxy a t ht
  obtain ⟨v, hv, h4⟩ := sims_sim E y z hyz a u hu
  exact ⟨v, hv, u, h3, h4⟩
theorem sims_iff (E : Nat → Nat → Nat → Prop) (p q : Nat) : Sims E p q ↔ ∀ a t, E p a t → ∃ u, E q a u ∧ Sims E t u := by
  constructor
  · exact sims_sim E p q
  · intro h
    refine ⟨fun x y => Sims E x y ∨ x = p ∧ y = q, ?_, .inr ⟨rfl, rfl⟩⟩
    rintro x y (hxy | ⟨rfl, rfl⟩) a t ht
    · obtain ⟨u, hu, h3⟩ := sims_sim E x y hxy a t ht
      exact ⟨u, hu, .inl h3⟩
    · obtain ⟨u, hu, h3⟩ := h a t ht
      exact ⟨u, hu, .inl h3⟩
structure Inv (n : Nat) (E : Nat → Nat → Nat → Prop) (A L : Nat → Nat → Bool) : Prop where
  all : ∀ p q, p < n → q < n → Sims E p q → A p q = true
  met : ∀ p q, p < n → q < n → A p q = true → ∀ a t, E p a t → ∃ u, E q a u ∧ (A t u = true ∨ L t u = true)
  two : ∀ p q, ¬ (A p q = true ∧ L p q = true)
def In (n : Nat) (E : Nat → Nat → Nat → Prop) : Prop := ∀ p a t, E p a t → p < n ∧ t < n
theorem Inv.start {n : Nat} {E : Nat → Nat → Nat → Prop} {A L : Nat → Nat → Bool} (hE : In n E) (hA : ∀ p q, p < n → q < n → (A p q = true ↔ ∀ a t, E p a t → ∃ u, E q a u)) (hL : ∀ p q, p < n → q < n → L p q = !A p q) (h0 : ∀ p q, ¬ (p < n ∧ q < n) → A p q = false ∧ L p q = false) : Inv n E A L := by
  refine ⟨fun p q hp hq h => (hA p q hp hq).2 fun a t ht => ?_, fun p q hp hq h a t ht => ?_, fun p q h => ?_⟩
  · obtain ⟨u, hu, _⟩ := sims_sim E p q h a t ht
    exact ⟨u, hu⟩
  · obtain ⟨u, hu⟩ := (hA p q hp hq).1 h a t ht
    refine ⟨u, hu, ?_⟩
    rw [hL t u (hE p a t ht).2 (hE q a u hu).2]
    cases A t u <;> simp
  · by_cases hb : p < n ∧ q < n
    · rw [hL p q hb.1 hb.2] at h
      revert h
      cases A p q <;> simp
    · rw [(h0 p q hb).1] at h
      simp at h
theorem Inv.done {n : Nat} {E : Nat → Nat → Nat → Prop} {A L : Nat → Nat → Bool} (hE : In n E) (h : Inv n E A L) (hL : ∀ p q, p < n → q < n → L p q = false) {p q : Nat} (hp : p < n) (hq : q < n) : A p q = true ↔ Sims E p q := by
  refine ⟨fun h1 => ⟨fun x y => x < n ∧ y < n ∧ A x y = true, ?_, hp, hq, h1⟩, h.all p q hp hq⟩
  rintro x y ⟨hx, hy, hxy⟩ a t ht
  obtain ⟨u, hu, h2⟩ := h.met x y hx hy hxy a t ht
  have b1 := (hE x a t ht).2
  have b2 := (hE y a u hu).2
  refine ⟨u, hu, b1, b2, ?_⟩
  rw [hL t u b1 b2] at h2
  simpa using h2
structure Mid (n : Nat) (E : Nat → Nat → Nat → Prop) (A L : Nat → Nat → Bool) (t0 : Nat) (lo : Nat → Bool) (dn : Nat → Nat → Prop) : Prop where
  all : ∀ p q, p < n → q < n → Sims E p q → A p q = true
  met : ∀ p q, p < n → q < n → A p q = true → ∀ a t, E p a t → ∃ u, E q a u ∧ (A t u = true ∨ L t u = true ∨ t = t0 ∧ lo u = true ∧ ¬ dn a p)
  two : ∀ p q, ¬ (A p q = true ∧ L p q = true)
def clr (L : Nat → Nat → Bool) (t0 : Nat) : Nat → Nat → Bool := fun p q => if p = t0 then false else L p q
theorem Inv.mid {n : Nat} {E : Nat → Nat → Nat → Prop} {A L : Nat → Nat → Bool} (h : Inv n E A L) (t0 : Nat) : Mid n E A (clr L t0) t0 (L t0) fun _ _ => False := by
  refine ⟨h.all, fun p q hp hq h1 a t ht => ?_, fun p q h1 => ?_⟩
  · obtain ⟨u, hu, h2⟩ := h.met p q hp hq h1 a t ht
    refine ⟨u, hu, ?_⟩
    rcases h2 with h2 | h2
    · exact .inl h2
    · by_cases e : t = t0
      · subst e; exact .inr (.inr ⟨rfl, h2, id⟩)
      · exact .inr (.inl (by unfold clr; rw [if_neg e]; exact h2))
  · unfold clr at h1
    split at h1
    · simp at h1
    · exact h.two p q h1
theorem Mid.inv {n : Nat} {E : Nat → Nat → Nat → Prop} {A L : Nat → Nat → Bool} {t0 : Nat} {lo : Nat → Bool} {dn : Nat → Nat → Prop} (h : Mid n E A L t0 lo dn) (hd : ∀ p a, E p a t0 → dn a p) : Inv n E A L := by
  refine ⟨h.all, fun p q hp hq h1 a t ht => ?_, h.two⟩
  obtain ⟨u, hu, h2⟩ := h.met p q hp hq h1 a t ht
  refine ⟨u, hu, ?_⟩
  rcases h2 with h2 | h2 | ⟨e, _, h2⟩
  · exact .inl h2
  · exact .inr h2
  · subst e; exact absurd (hd p a ht) h2
def tkA (A : Nat → Nat → Bool) (p : Nat) (U : Nat → Bool) : Nat → Nat → Bool := fun x q => if x = p then A p q && !U q else A x q
def tkL (A L : Nat → Nat → Bool) (p : Nat) (U : Nat → Bool) : Nat → Nat → Bool := fun x q => if x = p then L p q || A p q && U q else L x q
theorem tk_or (A L : Nat → Nat → Bool) (p : Nat) (U : Nat → Bool) (x q : Nat) : (tkA A p U x q || tkL A L p U x q) = (A x q || L x q) := by
  unfold tkA tkL
  by_cases e : x = p
  · subst e
    rw [if_pos rfl, if_pos rfl]
    cases A x q <;> cases L x q <;> cases U q <;> rfl
  · rw [if_neg e, if_neg e]
theorem or_iff2 {a b c d : Bool} (h : (a || b) = (c || d)) : (a = true ∨ b = true) ↔ (c = true ∨ d = true) := by
  revert h; cases a <;> cases b <;> cases c <;> cases d <;> simp
def Una (E : Nat → Nat → Nat → Prop) (A0 : Nat → Nat → Bool) (t0 : Nat) (lo : Nat → Bool) (a : Nat) (U : Nat → Bool) : Prop := ∀ q, U q = true ↔ (∃ s, lo s = true ∧ E q a s) ∧ ¬ ∃ u, E q a u ∧ A0 t0 u = true
theorem Mid.take {n : Nat} {E : Nat → Nat → Nat → Prop} {A L A0 : Nat → Nat → Bool} {t0 : Nat} {lo U : Nat → Bool} {dn : Nat → Nat → Prop} {a p : Nat} (hE : In n E) (h : Mid n E A L t0 lo dn) (hU : Una E A0 t0 lo a U) (h0 : ∀ u, A t0 u = true → A0 t0 u = true) (h1 : ∀ u, A0 t0 u = true → A t0 u = true ∨ L t0 u = true) (hs : E p a t0) : Mid n E (tkA A p U) (tkL A L p U) t0 lo fun b x => dn b x ∨ b = a ∧ x = p := by
  have hor := fun x q => or_iff2 (tk_or A L p U x q)
  have hsub : ∀ x q, tkA A p U x q = true → A x q = true := fun x q hx => by
    unfold tkA at hx
    split at hx
    · next e => subst e; revert hx; cases A x q <;> simp
    · exact hx
  refine ⟨fun x q hx hq hsm => ?_, fun x q hx hq h2 b t ht => ?_, fun x q h2 => ?_⟩
  · have h2 := h.all x q hx hq hsm
    unfold tkA
    split
    · next e =>
      subst e
      rw [h2]
      cases hu : U q with
      | false => rfl
      | true =>
        exfalso
        obtain ⟨u, hu2, hu3⟩ := sims_sim E x q hsm a t0 hs
        exact ((hU q).1 hu).2 ⟨u, hu2, h0 u (h.all t0 u (hE _ _ _ hs).2 (hE _ _ _ hu2).2 hu3)⟩
    · exact h2
  · obtain ⟨u, hu, h3⟩ := h.met x q hx hq (hsub x q h2) b t ht
    have key : (A t u = true ∨ L t u = true) → ∃ u, E q b u ∧ (tkA A p U t u = true ∨ tkL A L p U t u = true ∨ t = t0 ∧ lo u = true ∧ ¬ (dn b x ∨ b = a ∧ x = p)) := fun h4 => by
      rcases (hor t u).2 h4 with h5 | h5
      · exact ⟨u, hu, .inl h5⟩
      · exact ⟨u, hu, .inr (.inl h5)⟩
    rcases h3 with h3 | h3 | ⟨e, h3, h4⟩
    · exact key (.inl h3)
    · exact key (.inr h3)
    · by_cases e2 : b = a ∧ x = p
      · obtain ⟨rfl, rfl⟩ := e2
        subst e
        have hnu : U q = false := by
          unfold tkA at h2
          rw [if_pos rfl] at h2
          revert h2; cases U q <;> simp
        have h5 : ∃ v, E q b v ∧ A0 t v = true := by
          apply Classical.byContradiction
          intro hno
          have := (hU q).2 ⟨⟨u, h3, hu⟩, hno⟩
          rw [hnu] at this; cases this
        obtain ⟨v, hv, hv2⟩ := h5
        rcases (hor t v).2 (h1 v hv2) with h6 | h6
        · exact ⟨v, hv, .inl h6⟩
        · exact ⟨v, hv, .inr (.inl h6)⟩
      · exact ⟨u, hu, .inr (.inr ⟨e, h3, fun h5 => h5.elim h4 e2⟩)⟩
  · have h3 := h.two x q
    unfold tkA tkL at h2
    split at h2
    · next e => subst e; revert h2 h3; cases A x q <;> cases L x q <;> cases U q <;> simp
    · exact h3 h2
def mu (n : Nat) (A L : Nat → Nat → Bool) : Nat := (List.range (n * n)).countP fun i => A (i / n) (i % n) || L (i / n) (i % n)
theorem countP_le (f g : Nat → Bool) (l : List Nat) (h : ∀ x ∈ l, f x = true → g x = true) : l.countP f ≤ l.countP g := by
  induction l with
  | nil => simp
  | cons a r ih =>
    have h1 := ih fun x hx => h x (List.mem_cons_of_mem _ hx)
    have h2 := h a List.mem_cons_self
    rw [List.countP_cons, List.countP_cons]
    cases hf : f a <;> cases hg : g a <;> simp <;> first | omega | (rw [h2 hf] at hg; cases hg)
theorem countP_lt (f g : Nat → Bool) (l : List Nat) (h : ∀ x ∈ l, f x = true → g x = true) (y : Nat) (hy : y ∈ l) (hf : f y = false) (hg : g y = true) : l.countP f < l.countP g := by
  induction l with
  | nil => simp at hy
  | cons a r ih =>
    rw [List.countP_cons, List.countP_cons]
    rcases List.mem_cons.1 hy with rfl | hy
    · have h1 := countP_le f g r fun x hx => h x (List.mem_cons_of_mem _ hx)
      rw [hf, hg]; simp; omega
    · have h1 := ih (fun x hx => h x (List.mem_cons_of_mem _ hx)) hy
      have h2 := h a List.mem_cons_self
      cases hf : f a <;> cases hg : g a <;> simp <;> first | omega | (rw [h2 hf] at hg; cases hg)
theorem mu_clr {n : Nat} {E : Nat → Nat → Nat → Prop} {A L : Nat → Nat → Bool} (h : Inv n E A L) {t0 q : Nat} (ht : t0 < n) (hq : q < n) (hl : L t0 q = true) : mu n A (clr L t0) < mu n A L := by
  have hA : A t0 q = false := by
    have := h.two t0 q
    rw [hl] at this
    revert this; cases A t0 q <;> simp
  have e1 : (t0 * n + q) / n = t0 := by rw [Nat.mul_comm, Nat.mul_add_div (by omega), Nat.div_eq_of_lt hq]; rfl
  have e2 : (t0 * n + q) % n = q := by rw [Nat.mul_comm, Nat.mul_add_mod]; exact Nat.mod_eq_of_lt hq
  refine countP_lt _ _ _ (fun x _ h1 => ?_) (t0 * n + q) (List.mem_range.2 ?_) ?_ ?_
  · unfold clr at h1
    split at h1
    · rw [Bool.or_false] at h1; rw [h1]; rfl
    · exact h1
  · have : (t0 + 1) * n ≤ n * n := Nat.mul_le_mul_right _ ht
    rw [Nat.add_mul] at this; omega
  · simp only [e1, e2]; rw [hA]; unfold clr; rw [if_pos rfl]; rfl
  · simp only [e1, e2]; rw [hl, Bool.or_true]
end Sm
namespace Sy
abbrev Ed : Type := Int × Int × Int
def lt (a b : Ed) : Bool := if a.1 != b.1 then decide (a.1 < b.1) else if a.2.1 != b.2.1 then decide (a.2.1 < b.2.1) else decide (a.2.2 < b.2.2)
theorem lt_iff (a b : Ed) : lt a b = true ↔ a.1 < b.1 ∨ a.1 = b.1 ∧ (a.2.1 < b.2.1 ∨ a.2.1 = b.2.1 ∧ a.2.2 < b.2.2) := by
  unfold lt
  by_cases h1 : a.1 = b.1
  · by_cases h2 : a.2.1 = b.2.1 <;> simp [h1, h2]
  · simp [h1]
theorem lt_irrefl (a : Ed) : lt a a = false := by
  cases h : lt a a with
  | false => rfl
  | true => rw [lt_iff] at h; omega
theorem lt_trans {a b c : Ed} (h1 : lt a b = true) (h2 : lt b c = true) : lt a c = true := by
  rw [lt_iff] at *; omega
theorem lt_asymm {a b : Ed} (h : lt a b = true) : lt b a = false := by
  cases h2 : lt b a with
  | false => rfl
  | true => rw [lt_iff] at h h2; omega
theorem eq_of_not {a b : Ed} (h1 : lt a b = false) (h2 : lt b a = false) : a = b := by
  have h3 : ¬ lt a b = true := by rw [h1]; simp
  have h4 : ¬ lt b a = true := by rw [h2]; simp
  rw [lt_iff] at h3 h4
  obtain ⟨x, y, z⟩ := a
  obtain ⟨u, v, w⟩ := b
  simp only at h3 h4
  have e1 : x = u := by omega
  have e2 : y = v := by omega
  have e3 : z = w := by omega
  rw [e1, e2, e3]
def Str : List Ed → Prop
  | [] => True
  | [_] => True
  | a :: b :: r => lt a b = true ∧ Str (b :: r)
theorem Str.tail {a : Ed} {r : List Ed} (h : Str (a :: r)) : Str r := by
  cases r with
  | nil => trivial
  | cons b s => exact h.2
theorem Str.head {a : Ed} {r : List Ed} (h : Str (a :: r)) : ∀ x ∈ r, lt a x = true := by
  induction r generalizing a with
  | nil => intro x hx; simp at hx
  | cons b s ih =>
    intro x hx
    rcases List.mem_cons.1 hx with rfl | hx
    · exact h.1
    · exact lt_trans h.1 (ih h.2 x hx)
theorem Str.cons {a : Ed} {r : List Ed} (h : Str r) (h2 : ∀ x ∈ r, lt a x = true) : Str (a :: r) := by
  cases r with
  | nil => trivial
  | cons b s => exact ⟨h2 b List.mem_cons_self, h⟩
theorem Str.snoc {l : List Ed} {x : Ed} (h : Str l) (h2 : ∀ y ∈ l, lt y x = true) : Str (l ++ [x]) := by
  induction l with
  | nil => trivial
  | cons a r ih =>
    refine Str.cons (ih h.tail fun y hy => h2 y (List.mem_cons_of_mem _ hy)) fun y hy => ?_
    rcases List.mem_append.1 hy with hy | hy
    · exact h.head y hy
    · rw [List.mem_singleton.1 hy]; exact h2 a List.mem_cons_self
theorem Str.unique {l m : List Ed} (hl : Str l) (hm : Str m) (h : ∀ x, x ∈ l ↔ x ∈ m) : l = m := by
  induction l generalizing m with
  | nil =>
    cases m with
    | nil => rfl
    | cons b s => exact absurd ((h b).2 List.mem_cons_self) (by simp)
  | cons a r ih =>
    cases m with
    | nil => exact absurd ((h a).1 List.mem_cons_self) (by simp)
    | cons b s =>
      have e : a = b := by
        rcases List.mem_cons.1 ((h a).1 List.mem_cons_self) with e | ha
        · exact e
        · rcases List.mem_cons.1 ((h b).2 List.mem_cons_self) with e | hb
          · exact e.symm
          · have h1 := hm.head a ha
            have h2 := hl.head b hb
            rw [lt_asymm h1] at h2
            cases h2
      subst e
      congr 1
      refine ih hl.tail hm.tail fun x => ⟨fun hx => ?_, fun hx => ?_⟩
      · rcases List.mem_cons.1 ((h x).1 (List.mem_cons_of_mem _ hx)) with e | hx2
        · subst e; have h1 := hl.head x hx; rw [lt_irrefl] at h1; cases h1
        · exact hx2
      · rcases List.mem_cons.1 ((h x).2 (List.mem_cons_of_mem _ hx)) with e | hx2
        · subst e; have h1 := hm.head x hx; rw [lt_irrefl] at h1; cases h1
        · exact hx2
def ins (x : Ed) : List Ed → List Ed
  | [] => [x]
  | a :: r => if lt x a then x :: a :: r else if lt a x then a :: ins x r else a :: r
theorem ins_mem (x y : Ed) (l : List Ed) : y ∈ ins x l ↔ y = x ∨ y ∈ l := by
  induction l with
  | nil => simp [ins]
  | cons a r ih =>
    unfold ins
    cases h1 : lt x a with
    | true => simp
    | false =>
      cases h2 : lt a x with
      | true =>
        simp only [Bool.false_eq_true, if_false, if_true, List.mem_cons, ih]
        constructor
        · rintro (h | h | h) <;> simp [h]
        · rintro (h | h | h) <;> simp [h]
      | false =>
        have e := eq_of_not h1 h2
        subst e
        simp
theorem ins_str (x : Ed) (l : List Ed) (h : Str l) : Str (ins x l) := by
  induction l with
  | nil => trivial
  | cons a r ih =>
    unfold ins
    cases h1 : lt x a with
    | true => exact ⟨h1, h⟩
    | false =>
      cases h2 : lt a x with
      | true =>
        simp only [Bool.false_eq_true, if_false, if_true]
        refine Str.cons (ih h.tail) fun y hy => ?_
        rcases (ins_mem x y r).1 hy with rfl | hy
        · exact h2
        · exact h.head y hy
      | false => exact h
def nf : List Ed → List Ed
  | [] => []
  | a :: r => ins a (nf r)
theorem nf_mem (l : List Ed) (x : Ed) : x ∈ nf l ↔ x ∈ l := by
  induction l with
  | nil => simp [nf]
  | cons a r ih => simp [nf, ins_mem, ih]
theorem nf_str (l : List Ed) : Str (nf l) := by
  induction l with
  | nil => trivial
  | cons a r ih => exact ins_str a _ ih
theorem nf_of {l m : List Ed} (h : Str m) (hm : ∀ x, x ∈ m ↔ x ∈ l) : m = nf l := h.unique (nf_str l) fun x => (hm x).trans (nf_mem l x).symm
theorem ins_len (x : Ed) (l : List Ed) : (ins x l).length ≤ l.length + 1 := by
  induction l with
  | nil => simp [ins]
  | cons a r ih =>
    unfold ins
    cases h1 : lt x a <;> cases h2 : lt a x <;> simp <;> omega
theorem nf_len (l : List Ed) : (nf l).length ≤ l.length := by
  induction l with
  | nil => simp [nf]
  | cons a r ih => have := ins_len a (nf r); simp only [nf, List.length_cons]; omega
theorem str_len {m l : List Ed} (h : Str m) (hs : ∀ x ∈ m, x ∈ l) : m.length ≤ l.length := by
  have e : m = nf m := nf_of h fun _ => Iff.rfl
  induction m generalizing l with
  | nil => simp
  | cons a r ih =>
    have ha := hs a List.mem_cons_self
    have h1 : r.length ≤ (l.erase a).length := by
      refine ih h.tail (fun x hx => ?_) (nf_of h.tail fun _ => Iff.rfl)
      have h2 := h.head x hx
      have hne : x ≠ a := fun e => by rw [e, lt_irrefl] at h2; cases h2
      exact (List.mem_erase_of_ne hne).2 (hs x (List.mem_cons_of_mem _ hx))
    rw [List.length_erase_of_mem ha] at h1
    have := List.length_pos_of_mem ha
    simp only [List.length_cons]
    omega
def put (out : List Ed) (e : Ed) : List Ed := if out.getLast? = some e then out else out ++ [e]
theorem put_str {out : List Ed} {e : Ed} (h : Str out) (hle : ∀ x ∈ out, lt e x = false) : Str (put out e) := by
  unfold put
  split
  · exact h
  · rename_i hne
    refine h.snoc fun y hy => ?_
    have hys : ∀ (l : List Ed) (z : Ed), Str l → l.getLast? = some z → ∀ y ∈ l, y = z ∨ lt y z = true := fun l => by
      induction l with
      | nil => intro z _ hz; simp at hz
      | cons a r ih =>
        intro z hs hz y hy
        cases r with
        | nil => simp at hz hy; subst hz; exact .inl hy
        | cons b s =>
          rw [List.getLast?_cons_cons] at hz
          rcases List.mem_cons.1 hy with rfl | hy
          · have hzm := List.mem_of_getLast? hz
            exact .inr (hs.head z hzm)
          · exact ih z hs.tail hz y hy
    cases hl : out.getLast? with
    | none => rw [List.getLast?_eq_none_iff] at hl; subst hl; simp at hy
    | some z =>
      have hzm := List.mem_of_getLast? hl
      have hz1 : lt z e = true := by
        cases h1 : lt z e with
        | true => rfl
        | false => exact absurd (by rw [hl, eq_of_not h1 (hle z hzm)]) hne
      rcases hys out z h hl y hy with rfl | h2
      · exact hz1
      · exact lt_trans h2 hz1
theorem put_mem (out : List Ed) (e x : Ed) : x ∈ put out e ↔ x ∈ out ∨ x = e := by
  unfold put
  split
  · rename_i h
    have := List.mem_of_getLast? h
    constructor
    · exact .inl
    · rintro (h | rfl)
      · exact h
      · exact this
  · simp
structure Mg (a b : List Ed) (i k : Nat) (out : List Ed) : Prop where
  s : Str out
  m : ∀ x, x ∈ out ↔ x ∈ a.take i ∨ x ∈ b.take k
  ha : ∀ x ∈ out, ∀ y ∈ a.drop i, lt y x = false
  hb : ∀ x ∈ out, ∀ y ∈ b.drop k, lt y x = false
theorem Mg.start (a b : List Ed) : Mg a b 0 0 [] := ⟨trivial, fun x => by simp, fun x hx => by simp at hx, fun x hx => by simp at hx⟩
theorem Mg.swap {a b : List Ed} {i k : Nat} {out : List Ed} (h : Mg a b i k out) : Mg b a k i out := ⟨h.s, fun x => (h.m x).trans or_comm, h.hb, h.ha⟩
theorem Mg.left {a b : List Ed} {i k : Nat} {out : List Ed} (h : Mg a b i k out) (hsa : Str a) (hsb : Str b) {e : Ed} (he : a[i]? = some e) (hk : ∀ f, b[k]? = some f → lt f e = false) : Mg a b (i + 1) k (put out e) := by
  obtain ⟨hl, rfl⟩ := List.getElem?_eq_some_iff.1 he
  have hd : a.drop i = a[i] :: a.drop (i + 1) := List.drop_eq_getElem_cons hl
  have hstr : ∀ (l : List Ed) (n : Nat), Str l → Str (l.drop n) := fun l n hs => by
    induction n generalizing l with
    | zero => exact hs
    | succ n ih =>
      cases l with
      | nil => exact hs
      | cons c r => exact ih r hs.tail
  have h1 : Str (a[i] :: a.drop (i + 1)) := by rw [← hd]; exact hstr a i hsa
  have hbk : ∀ y ∈ b.drop k, lt y a[i] = false := fun y hy => by
    cases hb : b.drop k with
    | nil => rw [hb] at hy; simp at hy
    | cons f r =>
      have hkl : k < b.length := by
        rcases Nat.lt_or_ge k b.length with h2 | h2
        · exact h2
        · rw [List.drop_eq_nil_of_le h2] at hb; cases hb
      have hf : f = b[k] := by rw [List.drop_eq_getElem_cons hkl] at hb; exact (List.cons.inj hb).1.symm
      have h2 := hk f (by rw [hf]; exact List.getElem?_eq_getElem hkl)
      have h3 : Str (f :: r) := by rw [← hb]; exact hstr b k hsb
      rw [hb] at hy
      rcases List.mem_cons.1 hy with rfl | hy
      · exact h2
      · cases h4 : lt y a[i] with
        | false => rfl
        | true => have h5 := lt_trans (h3.head y hy) h4; rw [h2] at h5; cases h5
  have hout : ∀ x ∈ out, lt a[i] x = false := fun x hx => h.ha x hx _ (by rw [hd]; exact List.mem_cons_self)
  refine ⟨put_str h.s hout, fun x => ?_, fun x hx y hy => ?_, fun x hx y hy => ?_⟩
  · rw [put_mem, h.m, List.take_succ_eq_append_getElem hl]
    simp only [List.mem_append, List.mem_singleton]
    constructor
    · rintro ((h | h) | h) <;> simp [h]
    · rintro ((h | h) | h) <;> simp [h]
  · rcases (put_mem _ _ _).1 hx with hx | rfl
    · exact h.ha x hx y (by rw [hd]; exact List.mem_cons_of_mem _ hy)
    · exact lt_asymm (h1.head y hy)
  · rcases (put_mem _ _ _).1 hx with hx | rfl
    · exact h.hb x hx y hy
    · exact hbk y hy
def right (n k s : Int) (es : List Ed) : Bool :=
  decide (0 ≤ n ∧ n ≤ 1000 ∧ 1 ≤ k ∧ k ≤ 201 ∧ es.length ≤ 10000) && decide ((n = 0 → s = 0) ∧ (0 < n → 0 ≤ s ∧ s < n)) && es.all fun e => decide (0 ≤ e.1 ∧ e.1 < n ∧ 0 ≤ e.2.2 ∧ e.2.2 < n ∧ 0 ≤ e.2.1 ∧ e.2.1 < k)
def turn (e : Ed) : Ed := (e.2.2, e.2.1, e.1)
def place (c : Int) : List Int → Nat
  | [] => 0
  | a :: r => if a = c then 0 else place c r + 1
theorem place_le (c : Int) (l : List Int) : place c l ≤ l.length := by
  induction l with
  | nil => simp [place]
  | cons a r ih => unfold place; split <;> simp <;> omega
def canonG : List Int → List Int → List Nat
  | _, [] => []
  | seen, c :: r => place c seen :: canonG (if place c seen < seen.length then seen else seen ++ [c]) r
def canon (l : List Int) : List Nat := canonG [] l
def seenG : List Int → List Int → List Int
  | seen, [] => seen
  | seen, c :: r => seenG (if place c seen < seen.length then seen else seen ++ [c]) r
theorem canonG_len (l : List Int) : ∀ seen, (canonG seen l).length = l.length := by
  induction l with
  | nil => intro _; rfl
  | cons c r ih => intro seen; simp [canonG, ih]
theorem canonG_app (a b : List Int) : ∀ seen, canonG seen (a ++ b) = canonG seen a ++ canonG (seenG seen a) b := by
  induction a with
  | nil => intro _; rfl
  | cons c r ih => intro seen; simp only [List.cons_append, canonG, seenG]; rw [ih]
theorem seenG_app (a b : List Int) : ∀ seen, seenG seen (a ++ b) = seenG (seenG seen a) b := by
  induction a with
  | nil => intro _; rfl
  | cons c r ih => intro seen; simp only [List.cons_append, seenG]; rw [ih]
theorem seenG_len (l : List Int) : ∀ seen, (seenG seen l).length ≤ seen.length + l.length := by
  induction l with
  | nil => intro _; simp [seenG]
  | cons c r ih =>
    intro seen
    simp only [seenG]
    have h1 := ih (if place c seen < seen.length then seen else seen ++ [c])
    have h2 : (if place c seen < seen.length then seen else seen ++ [c]).length ≤ seen.length + 1 := by split <;> simp
    simp only [List.length_cons]
    omega
def top : List Nat → Nat
  | [] => 0
  | k :: r => max (k + 1) (top r)
def together (l : List Int) : Nat := top (canon l)
def formG : Nat → List Int → Bool
  | _, [] => true
  | n, c :: r => decide (0 ≤ c ∧ c ≤ n) && formG (if c = (n : Int) then n + 1 else n) r
end Sy
end Go.Proofs.YtibdgefjpcebkaaGreatDoor
