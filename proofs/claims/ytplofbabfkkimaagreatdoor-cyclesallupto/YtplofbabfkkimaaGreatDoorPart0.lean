/- Texts of this claim, joined: Tk0, Copy, Base, SgQue, SgMem, TsQue, RoPure, TsPure, TsMem, TsNum, TsClose0, TsPath, TsAhead0, TsInv. -/
import Derived.OrdersHeld
import Derived.RowKit
import Derived.Test.YtplofbabfkkimaaGreatDoorProg
import Derived.WalkKit
import Derived.Maps.AppendAt
import Derived.RowKitTokens
import Derived.WalkSmall
import Derived.ProofKit
import Derived.Maps.OwnSet
import Derived.Maps.Range
import Derived.OneCell
import Derived.DeepKeys4
import Derived.Deep.AppendLies
import Derived.Deep.RegionLaw
import Derived.Deep.RegionHeld3
import Derived.Deep.DrawnRows
import Derived.Deep.DeepCutAuto
import Derived.Deep.LoopGhost
import Derived.Below
import Derived.Laws.AppendOwn
import Derived.Deep.AppendSrc
import GoSem.Claim
import Derived.BigRegion
/- Short names for what the walks through drawn regions say again and again. -/
namespace Go.Proofs.YtplofbabfkkimaaGreatDoor
/-- An operation that only reads is taken first. -/
theorem tk9 {P : Program} {md : Region.Mode} {ops : Array Oper} {Q : Exit → Act → World → Prop} {S : World → Prop} (i : Nat) {oi : Oper} (v : Value) {fuel : Nat} {listed : Array Bool} {a : Act} {w : World} (hi : ops[i]? = some oi) (hb : (Region.noSelect ops && (Region.free md ops listed i && (Region.ready md ops listed).contains i)) = true) (hQ : ∀ c a w, Q (.panic c) (a.put oi.dst v) w → Q (.panic c) a w) (hy : Region.wanted oi (yielded ops a.tmps) = true ∧ ∀ w, S w → (execOp a.eval oi).run P w = .ok (.value v) w) (hS : S w)
    (h : wpAnyH P md ops Q S fuel (listed.setIfInBounds i true) (a.put oi.dst v) w) : wpAnyH P md ops Q S (fuel + 1) listed a w := by
  rw [Bool.and_eq_true, Bool.and_eq_true] at hb
  exact wpAnyH_take hi hb.1 hb.2.1 hb.2.2 hQ (Or.inl hy) hS h
theorem ty9 : (∀ {α : Type} {l : List α} {i : Nat} (h : i < l.toArray.size), l.toArray[i] = l[i]'h) ∧ (∀ {α : Type} (a : α) (xs : List α) (i : Nat) (h : i + 1 < (a :: xs).length), (a :: xs)[i + 1] = xs[i]'(Nat.lt_of_succ_lt_succ h)) ∧ (∀ {α : Type} (a : α) (xs : List α) (h : 0 < (a :: xs).length), (a :: xs)[0] = a) ∧ (∀ {α : Type} (l : List α) (i : Nat) (a : α), l.toArray.setIfInBounds i a = (l.set i a).toArray) ∧ (∀ {α : Type} (a : α) (xs : List α) (b : α), (a :: xs).set 0 b = b :: xs) ∧ (∀ {α : Type} (a : α) (xs : List α) (n : Nat) (b : α), (a :: xs).set (n + 1) b = a :: xs.set n b) :=
  ⟨fun h => List.getElem_toArray h, fun _ _ _ h => List.getElem_cons_succ _ _ _ h, fun _ _ _ => rfl, fun l i a => by simp, fun _ _ _ => rfl, fun _ _ _ _ => rfl⟩
end Go.Proofs.YtplofbabfkkimaaGreatDoor
/- 'append(nil, x...)' of any list, nil too: a row of one's own. (A law of my own, over the library's own laws on append.) -/
namespace Go.Proofs.YtplofbabfkkimaaGreatDoor
open Go.RowKit
theorem run_copy_at {P : Program} (w : World) (base : Nat) (t ty e : TypeId) (i : TypeInfo) (z : Value) (size bytes : Nat) (ht : P.underlying t = some (.slice e)) (hi : P.info? e = some i) (hz : i.zero = some z)
 (hsize : i.size = size) (hby : i.bytes = bytes) (hzs : z.cells.size = size) (hsz : 0 < size) (ao : Option Addr) (m c : Nat) (news : List Value) (hao : ao = none → m = 0) (hl : news.length = m * size)
 (hnews : ∀ ad, ao = some ad → ∀ j u, news[j]? = some u → w.cell? (ad.add j) = some u) (h1 : ∀ u ∈ news, u.oneCell' = true) (h63 : m ≤ maxLen) (hbytes : m * bytes ≤ 140737488355328) (hbase : base ≤ w.heap.size) :
 ∃ v' w', (Builtin.append_ #[t, t] ty #[.slice none 0 0, .slice ao m c]).run P w = .ok v' w' ∧ w'.ownsRow base e size v' m news ∧ w.grownBy w' (Value.slice none 0 0).ownBlock ∧ (v'.ownBlock = none ∨ v'.ownBlock = some w.heap.size) := by
 cases ao with
 | none =>
   obtain rfl := hao rfl
   obtain rfl : news = [] := List.eq_nil_of_length_eq_zero (by simpa using hl)
   refine ⟨.slice none 0 0, w, ?_, World.ownsRow_nil w base e size, ⟨rfl, rfl, rfl, Nat.le_refl _, fun _ _ _ => rfl⟩, Or.inl rfl⟩
   simp [Builtin.append_, run_underlying ht, sizeOf, typeInfo, hi, Builtin.lenOf, Builtin.firstCells]
 | some ad =>
   obtain ⟨v', w', hr, h2, h3, h4, h5⟩ := run_append_own_at (P := P) w base t ty e i z size bytes ht hi hz hsize hby hzs hsz (.slice none 0 0) 0 [] (World.ownsRow_nil _ _ _ _) ad m c news hl (hnews ad rfl) h1 (by simpa using h63) (by simpa using hbytes) hbase
   refine ⟨v', w', hr, by simpa using h2, h3, h5⟩
theorem wpList_copy_at {P : Program} (w : World) {ops : Array Oper} {rest : List Oper} {o : Oper} {a : Act} {Q : Exit → Act → World → Prop} (hgd : o.guard = none) (s x : Operand) (t : TypeId)
 (ho : o.op = .call { callee := .builtin .append, args := #[s, x], argTypes := #[t, t] })
 (base : Nat) (e : TypeId) (i : TypeInfo) (z : Value) (size bytes : Nat) (ht : P.underlying t = some (.slice e)) (hi : P.info? e = some i) (hz : i.zero = some z)
 (hsize : i.size = size) (hby : i.bytes = bytes) (hzs : z.cells.size = size) (hsz : 0 < size) (hs : a.eval s = .slice none 0 0)
 (ao : Option Addr) (m c : Nat) (news : List Value) (hx : a.eval x = .slice ao m c) (hao : ao = none → m = 0) (hl : news.length = m * size) (hnews : ∀ ad, ao = some ad → ∀ j u, news[j]? = some u → w.cell? (ad.add j) = some u) (h1 : ∀ u ∈ news, u.oneCell' = true)
 (h63 : m ≤ maxLen) (hbytes : m * bytes ≤ 140737488355328) (hbase : base ≤ w.heap.size)
 (h : ∀ v' w', w'.ownsRow base e size v' m news → w.grownBy w' (Value.slice none 0 0).ownBlock → (v'.ownBlock = none ∨ v'.ownBlock = some w.heap.size) → wpList P ops Q rest (a.put o.dst v') w') :
 wpList P ops Q (o :: rest) a w := by
 refine wpList_plain hgd fun K hK => ?_
 obtain ⟨v', w', hr, h2, h3, h4⟩ := run_copy_at (P := P) w base t o.type e i z size bytes ht hi hz hsize hby hzs hsz ao m c news hao hl hnews h1 h63 hbytes hbase
 unfold Oper.wp execOp
 simp only [ho, resolve, invoke, builtin, Sem.run_bind, Sem.run_pure, Result.andThen_ok, List.map_toArray, List.map_cons, List.map_nil, hs, hx, hr]
 exact hK _ _ (h v' w' h2 h3 h4)
end Go.Proofs.YtplofbabfkkimaaGreatDoor
/- Lemmas on memory that all texts share: rows of one's own, what stands, lists of numbers. -/
namespace Go.Proofs.YtplofbabfkkimaaGreatDoor
open Go.RowKit Go.Maps
theorem t_lt {w : World} {b : Nat} {o : Obj} (h : w.heap[b]? = some o) : b < w.heap.size := (Array.getElem?_eq_some_iff.1 h).1
theorem cell_up {w W : World} {b o : Nat} {v : Value} (hc : w.cell? ⟨b, o, none⟩ = some v) (hb : Below w.heap.size w W) : W.cell? ⟨b, o, none⟩ = some v := (hb.cell (World.block_lt_of_cell? w _ hc)).trans hc
theorem blk_free {w : World} {b : Nat} {cs : Array Value} {t : TypeId} (h : w.heap[b]? = some (.cells cs t (0, 0))) (k : Nat) : w.frozen? ⟨b, k, none⟩ = false := by simp [World.frozen?, h]
theorem cell0_of {w : World} {b : Nat} {cs : Array Value} {ty : TypeId} {v : Value} {k : Nat} (h : w.heap[b]? = some (.cells cs ty (0, 0))) (h0 : cs[k]? = some v) : w.cell? ⟨b, k, none⟩ = some v := by simp [World.cell?, h, h0]
theorem addz (g i : Nat) : (⟨g, 0, none⟩ : Addr).add i = ⟨g, i, none⟩ := by unfold Addr.add; split <;> simp_all
theorem set_other (w : World) (b o i : Nat) (u : Value) (h : i ≠ b) : (w.setCell ⟨b, o, none⟩ u).heap[i]? = w.heap[i]? := by
 simp only [World.setCell]
 rw [Array.getElem?_modify, if_neg (fun e => h e.symm)]
theorem row_shape {w : World} {base : Nat} {e : TypeId} {size : Nat} {v : Value} {n : Nat} {xs : List Value} (h : w.ownsRow base e size v n xs) : ∃ ao cap, v = .slice ao n cap := by
 rcases h.2 with ⟨rfl, h0⟩ | ⟨g, cap, cur, rfl, _⟩
 ·exact ⟨none, 0, by rw [h0]⟩
 ·exact ⟨_, _, rfl⟩
theorem trow_at {w w' : World} {base : Nat} {e : TypeId} {size : Nat} {v : Value} {n : Nat} {xs : List Value} (h : w.ownsRow base e size v n xs) (hb : ∀ i, v.ownBlock = some i → w'.heap[i]? = w.heap[i]?) : w'.ownsRow base e size v n xs := by
 refine ⟨h.1, ?_⟩
 rcases h.2 with h2 | ⟨g, cap, cur, rfl, h3, hg, h4⟩
 ·exact .inl h2
 ·exact .inr ⟨g, cap, cur, rfl, h3, by rw [hb g rfl]; exact hg, h4⟩
theorem row_base {w : World} {base base' : Nat} {e : TypeId} {size : Nat} {v : Value} {n : Nat} {xs : List Value} (h : w.ownsRow base e size v n xs) (hb : base' ≤ base) : w.ownsRow base' e size v n xs := by
 refine ⟨h.1, ?_⟩
 rcases h.2 with h2 | ⟨g, cap, cur, rfl, h3, hg, h4⟩
 ·exact .inl h2
 ·exact .inr ⟨g, cap, cur, rfl, by omega, hg, h4⟩
theorem tgrown0 {w w1 : World} (hg : w.grownBy w1 (Value.slice none 0 0).ownBlock) : Below w.heap.size w w1 := ⟨hg.os, hg.tape, hg.output, hg.size, fun k hk => hg.block k hk (by simp [Value.ownBlock])⟩
theorem row_cells {w : World} {base : Nat} {e : TypeId} {size : Nat} {v : Value} {n : Nat} {xs : List Value} (h : w.ownsRow base e size v n xs) {i : Nat} (hi : v.ownBlock = some i) : ∃ c, w.heap[i]? = some (.cells c e (0, 0)) := by
 rcases h.2 with ⟨rfl, _⟩ | ⟨g, cap, cur, rfl, _, hg, _⟩
 ·cases hi
 ·simp only [Value.ownBlock, Option.some.injEq] at hi
  exact ⟨cur, hi ▸ hg⟩
structure Kept (F : Nat → Prop) (w w' : World) : Prop where
 os : w'.os = w.os
 tape : w'.tape = w.tape
 output : w'.output = w.output
 size : w.heap.size ≤ w'.heap.size
 block : ∀ k, k < w.heap.size → ¬ F k → w'.heap[k]? = w.heap[k]?
theorem Kept.refl (F : Nat → Prop) (w : World) : Kept F w w := ⟨rfl, rfl, rfl, Nat.le_refl _, fun _ _ _ => rfl⟩
theorem Kept.trans {F : Nat → Prop} {a b c : World} (h : Kept F a b) (k : Kept F b c) : Kept F a c :=
 ⟨k.os.trans h.os, k.tape.trans h.tape, k.output.trans h.output, Nat.le_trans h.size k.size, fun i hi hf => (k.block i (Nat.lt_of_lt_of_le hi h.size) hf).trans (h.block i hi hf)⟩
theorem Kept.mono {F G : Nat → Prop} {a b : World} (h : Kept F a b) (hs : ∀ k, k < a.heap.size → F k → G k) : Kept G a b := ⟨h.os, h.tape, h.output, h.size, fun i hi hg => h.block i hi fun hf => hg (hs i hi hf)⟩
theorem Kept.of_below {F : Nat → Prop} {a b : World} (h : Below a.heap.size a b) : Kept F a b := ⟨h.os, h.tape, h.output, h.size, fun i hi _ => h.block i hi⟩
theorem Kept.of_grown {a b : World} {row : Option Nat} (h : a.grownBy b row) : Kept (fun i => row = some i) a b := ⟨h.os, h.tape, h.output, h.size, fun i hi hn => h.block i hi fun e => hn e.symm⟩
theorem Kept.below {F : Nat → Prop} {a b : World} (h : Kept F a b) {B : Nat} (hB : B ≤ a.heap.size) (hF : ∀ k, F k → B ≤ k) : Below B a b := ⟨h.os, h.tape, h.output, h.size, fun i hi => h.block i (by omega) fun hf => by have := hF i hf; omega⟩
theorem Kept.setCell (a : World) (b o : Nat) (u : Value) : Kept (fun i => i = b) a (a.setCell ⟨b, o, none⟩ u) := by
 have h : Below b a (a.setCell ⟨b, o, none⟩ u) := Below.setCell (Below.refl b a) (Nat.le_refl _) u
 exact ⟨h.os, h.tape, h.output, h.size, fun i _ hn => set_other _ _ _ _ _ hn⟩
theorem Kept.trans2 {F G : Nat → Prop} {a b c : World} (h : Kept F a b) (k : Kept G b c) (hG : ∀ i, G i → F i ∨ a.heap.size ≤ i) : Kept F a c :=
 ⟨k.os.trans h.os, k.tape.trans h.tape, k.output.trans h.output, Nat.le_trans h.size k.size, fun i hi hf => (k.block i (Nat.lt_of_lt_of_le hi h.size) fun hg => (hG i hg).elim hf fun h => by omega).trans (h.block i hi hf)⟩
theorem add_block (a : Addr) (i : Nat) : (a.add i).block = a.block := by unfold Addr.add; split <;> rfl
theorem cell_same {w w' : World} {a : Addr} {i : Nat} {v : Value} (hb : w'.heap[a.block]? = w.heap[a.block]?) (c : w.cell? (a.add i) = some v) : w'.cell? (a.add i) = some v := (World.cell?_of_block (a := a.add i) (by rw [add_block]; exact hb)).trans c
theorem block_lt3 {w : World} {a : Addr} {i : Nat} {v : Value} (c : w.cell? (a.add i) = some v) : a.block < w.heap.size := by have := World.block_lt_of_cell? w _ c; rw [add_block] at this; exact this
theorem below_of_drew3 {w w1 : World} (h : Below w.drew.heap.size w.drew w1) : Below w.heap.size w w1 := (Below.refl _ w).drew.trans h
def HasI (w : World) (v : Value) (zs : List Int) : Prop := ∃ ao cap, v = .slice ao zs.length cap ∧ ∀ (i : Nat) (z : Int), zs[i]? = some z → ∃ a, ao = some a ∧ w.cell? (a.add i) = some (.int .i64 z)
theorem HasI.below {w w' : World} {v : Value} {zs : List Int} (h : HasI w v zs) (hb : Below w.heap.size w w') : HasI w' v zs := by
 obtain ⟨ao, cap, h1, h2⟩ := h
 refine ⟨ao, cap, h1, fun i p hi => ?_⟩
 obtain ⟨a, ha, c0⟩ := h2 i p hi
 exact ⟨a, ha, (hb.cell (World.block_lt_of_cell? w _ c0)).trans c0⟩
theorem HasI.kept {w w' : World} {F : Nat → Prop} {v : Value} {zs : List Int} (h : HasI w v zs) (hk : Kept F w w') (hf : zs ≠ [] → ∀ i, v.ownBlock = some i → ¬ F i) : HasI w' v zs := by
 obtain ⟨ao, cap, rfl, h2⟩ := h
 refine ⟨ao, cap, rfl, fun i z hi => ?_⟩
 obtain ⟨a, rfl, c⟩ := h2 i z hi
 exact ⟨a, rfl, cell_same (hk.block _ (block_lt3 c) (hf (by rintro rfl; simp at hi) a.block rfl)) c⟩
theorem made_far {w : World} {v : Value} {zs : List Int} (h : HasI w v zs) (hz : zs ≠ []) {i : Nat} (hi : v.ownBlock = some i) : i < w.heap.size := by
 obtain ⟨ao, cap, rfl, h2⟩ := h
 cases zs with
 | nil => exact absurd rfl hz
 | cons z r =>
   obtain ⟨a, rfl, c⟩ := h2 0 z rfl
   have := block_lt3 c
   simp only [Value.ownBlock, Option.some.injEq] at hi
   omega
def iC (zs : List Int) : List Value := zs.map (Value.int .i64)
theorem iC_length (zs : List Int) : (iC zs).length = zs.length * 1 := by simp [iC]
theorem iC_one (zs : List Int) : ∀ u ∈ iC zs, u.oneCell' = true := fun u hu => by
 obtain ⟨z, _, rfl⟩ := List.mem_map.1 hu; rfl
def OwnI (w : World) (B : Nat) (v : Value) (zs : List Int) : Prop := w.ownsRow B 3 1 v zs.length (iC zs)
theorem OwnI.has {w : World} {B : Nat} {v : Value} {zs : List Int} (h : OwnI w B v zs) : HasI w v zs := by
 rcases h.2 with ⟨rfl, h0⟩ | ⟨g, cap, cur, rfl, _⟩
 ·obtain rfl : zs = [] := List.eq_nil_of_length_eq_zero h0
  exact ⟨none, 0, rfl, fun i z hi => by simp at hi⟩
 ·refine ⟨_, cap, rfl, fun i z hi => ⟨_, rfl, ?_⟩⟩
  have hlt := (List.getElem?_eq_some_iff.1 hi).1
  rw [addz, h.cellAt i (by omega)]
  simp [iC, hi]
theorem Tryz.infoI3 : (Tryz.prog.info? 3).map (fun i => (i.zero, i.size, i.bytes)) = some (some (.int .i64 0), 1, 8) := by kernel_rfl
theorem OwnI.cell {w : World} {B g cap n : Nat} {zs : List Int} (h : OwnI w B (.slice (some ⟨g, 0, none⟩) n cap) zs) {i : Nat} {z : Int} (hi : zs[i]? = some z) : w.cell? ⟨g, i, none⟩ = some (.int .i64 z) := by
 have hlt := (List.getElem?_eq_some_iff.1 hi).1
 obtain ⟨ao, cap', e, h2⟩ := h.has
 injection e with e1 e2 e3
 obtain ⟨a, ha, hc⟩ := h2 i z hi
 rw [← e1] at ha
 have := Option.some.inj ha
 rw [← this, addz] at hc
 exact hc
theorem iC_news {w : World} {a : Addr} {zs : List Int} (h : ∀ (i : Nat) (z : Int), zs[i]? = some z → w.cell? (a.add i) = some (.int .i64 z)) : ∀ j u, (iC zs)[j]? = some u → w.cell? (a.add j) = some u := by
 intro j u hu
 unfold iC at hu
 rw [List.getElem?_map] at hu
 cases e : zs[j]? with
 | none => rw [e] at hu; simp at hu
 | some z =>
   rw [e] at hu
   simp at hu
   subst hu
   exact h j z e
theorem HasI.none {w : World} {n cap : Nat} {zs : List Int} (h : HasI w (.slice none n cap) zs) : zs = [] ∧ n = 0 := by
 obtain ⟨ao, cap', h1, h2⟩ := h
 injection h1 with e1 e2 e3
 subst e1
 cases zs with
 | nil => exact ⟨rfl, e2⟩
 | cons z r => obtain ⟨a, h, _⟩ := h2 0 z rfl; cases h
theorem HasI.news {w : World} {a : Addr} {n cap : Nat} {zs : List Int} (h : HasI w (.slice (some a) n cap) zs) : n = zs.length ∧ ∀ j u, (iC zs)[j]? = some u → w.cell? (a.add j) = some u := by
 obtain ⟨ao, cap', h1, h2⟩ := h
 injection h1 with e1 e2 e3
 subst e1
 refine ⟨e2, iC_news fun i z hi => ?_⟩
 obtain ⟨a', ha, hc⟩ := h2 i z hi
 cases ha
 exact hc
theorem hasI_copy {w : World} {ao : Option Addr} {n cap : Nat} {zs : List Int} (h : HasI w (.slice ao n cap) zs) : (ao = none → n = 0) ∧ ∀ ad, ao = some ad → ∀ j u, (iC zs)[j]? = some u → w.cell? (ad.add j) = some u :=
 ⟨fun e => by subst e; exact h.none.2, fun ad e => by subst e; exact h.news.2⟩
theorem iC_snoc (zs : List Int) (z : Int) : iC (zs ++ [z]) = iC zs ++ [.int .i64 z] := by simp [iC]
theorem one_one (z : Int) : ∀ x ∈ [Value.int .i64 z], x.oneCell' = true := fun x hx => by rw [List.mem_singleton.1 hx]; rfl
theorem lines_belowI {w w2 w4 : World} {x : Obj} {v : Value} {n : Nat} {us : List Value} (h1 : w2.ownsRow w.heap.size 3 1 v n us) (hb : Below w.heap.size w w2) (hg : (w2.alloc x).grownBy w4 v.ownBlock) : Below w.heap.size w w4 :=
 (hb.alloc hb.size x).grown hg (by have := hb.size; simp; omega) (fun k hk => (h1.lt k hk).1)
theorem two_alloc (w : World) (o p : Obj) : ((w.alloc o).alloc p).heap[w.heap.size + 1]? = some p := by
 have h := (MapKept.heap_alloc (w.alloc o) p).1
 simpa using h
theorem take_succ_of {α : Type} {l : List α} {j : Nat} {x : α} (h : l[j]? = some x) : l.take (j + 1) = l.take j ++ [x] := by
 obtain ⟨hlt, rfl⟩ := List.getElem?_eq_some_iff.1 h
 exact List.take_succ_eq_append_getElem hlt
def LsF (ls : List Value) (b : Nat) : Prop := ∃ l ∈ ls, l.ownBlock = some b
theorem set_same {α : Type} {l : List α} {i : Nat} {x : α} (h : l[i]? = some x) : l.set i x = l := by
 apply List.ext_getElem?
 intro k
 by_cases e : k = i
 ·subst e; rw [List.getElem?_set_self (List.getElem?_eq_some_iff.1 h).1, h]
 ·rw [List.getElem?_set_ne (fun e' => e e'.symm)]
theorem one_list (v : Value) (h : ∃ a n c, v = .slice a n c) : ∀ x ∈ [v], x.oneCell' = true := fun x hx => by
 rw [List.mem_singleton.1 hx]
 obtain ⟨a, n, c, rfl⟩ := h
 rfl
theorem step_copy_at {P : Program} {ops : Array Oper} {o : Oper} {a : Act} (w : World) {K : Act → World → Prop} {Q : Exit → Act → World → Prop} {E : Prop}
 (hg : o.guard = none) (s x : Operand) (t : TypeId) (ho : o.op = Op.call { callee := Callee.builtin Builtin.append, args := #[s, x], argTypes := #[t, t] })
 (base : Nat) (e : TypeId) (i : TypeInfo) (z : Value) (size bytes : Nat) (ht : P.underlying t = some (.slice e)) (hi : P.info? e = some i) (hz : i.zero = some z)
 (hsize : i.size = size) (hby : i.bytes = bytes) (hzs : z.cells.size = size) (hsz : 0 < size) (hs : a.eval s = .slice none 0 0)
 (ao : Option Addr) (m c : Nat) (news : List Value) (hx : a.eval x = .slice ao m c) (hao : ao = none → m = 0) (hl : news.length = m * size) (hnews : ∀ ad, ao = some ad → ∀ j u, news[j]? = some u → w.cell? (ad.add j) = some u) (h1 : ∀ u ∈ news, u.oneCell' = true)
 (h63 : m ≤ maxLen) (hbytes : m * bytes ≤ 140737488355328) (hbase : base ≤ w.heap.size)
 (h : ∀ v' w', w'.ownsRow base e size v' m news → w.grownBy w' (Value.slice none 0 0).ownBlock → K (a.put o.dst v') w') :
 if Region.wanted o (yielded ops a.tmps) = true then Oper.wp P o a w K Q else E := by
 have hw : Region.wanted o (yielded ops a.tmps) = true := by simp [Region.wanted, hg]
 rw [if_pos hw]
 obtain ⟨v', w', hr, h2, h3, _⟩ := run_copy_at (P := P) w base t o.type e i z size bytes ht hi hz hsize hby hzs hsz ao m c news hao hl hnews h1 h63 hbytes hbase
 unfold Oper.wp
 simp [execOp, ho, resolve, invoke, builtin, hs, hx, hr, Result.andThen]
 exact h _ _ h2 h3
theorem own_ne {w : World} {B1 B2 : Nat} {e1 e2 : TypeId} {s1 s2 : Nat} {v1 v2 : Value} {n1 n2 : Nat} {x1 x2 : List Value} (h1 : w.ownsRow B1 e1 s1 v1 n1 x1) (h2 : w.ownsRow B2 e2 s2 v2 n2 x2) (hne : e1 ≠ e2) (k : Nat) (hk : v1.ownBlock = some k) : v2.ownBlock ≠ some k := fun h => by
 obtain ⟨c1, hc1⟩ := row_cells h1 hk
 obtain ⟨c2, hc2⟩ := row_cells h2 h
 rw [hc1] at hc2
 injection hc2 with e
 injection e with _ e
 exact hne e
theorem own_bk {w : World} {B : Nat} {e t : TypeId} {s : Nat} {v : Value} {n : Nat} {xs : List Value} {bk : Nat} {cs : Array Value} (h : w.ownsRow B e s v n xs) (hb : w.heap[bk]? = some (.cells cs t (0, 0))) (hne : e ≠ t) : v.ownBlock ≠ some bk := fun hk => by
 obtain ⟨c1, hc1⟩ := row_cells h hk
 rw [hc1] at hb
 injection hb with e
 injection e with _ e
 exact hne e
theorem grown_alloc {w w2 : World} {x : Obj} {r : Option Nat} (hg : (w.alloc x).grownBy w2 r) : Kept (fun b => r = some b) w w2 := (Kept.of_below ((Below.refl _ _).alloc (Nat.le_refl _) _)).trans (Kept.of_grown hg)
theorem own_up {w w' : World} {base : Nat} {e : TypeId} {size : Nat} {v : Value} {n : Nat} {xs : List Value} {F : Nat → Prop} (h : w.ownsRow base e size v n xs) (hk : Kept F w w') (hF : ∀ b, v.ownBlock = some b → ¬ F b) : w'.ownsRow base e size v n xs := trow_at h fun b hb => hk.block b (h.lt b hb).2 (hF b hb)
end Go.Proofs.YtplofbabfkkimaaGreatDoor
/- A queue of numbers in memory: a list that begins anywhere in its block; one more number goes behind it, the first one goes. -/
namespace Go.Proofs.YtplofbabfkkimaaGreatDoor
open Go.RowKit Go.Maps
def Que (w : World) (B : Nat) (v : Value) (zs : List Int) : Prop :=
 (v = .slice none 0 0 ∧ zs = []) ∨ ∃ g off cap cur, v = .slice (some ⟨g, off, none⟩) zs.length cap ∧ B ≤ g ∧ w.heap[g]? = some (.cells cur 3 (0, 0)) ∧ zs.length ≤ cap ∧ off + cap ≤ maxLen ∧ (off + cap = cur.size ∨ cap = 0 ∧ off ≤ cur.size) ∧ (cur.toList.drop off).take zs.length = iC zs
def At0 (v : Value) : Prop := ∀ g off n cap, v = .slice (some ⟨g, off, none⟩) n cap → off = 0
theorem at0_of (g n cap : Nat) : At0 (.slice (some ⟨g, 0, none⟩) n cap) := fun _ _ _ _ e => by cases e; rfl
theorem at0_nil (n cap : Nat) : At0 (.slice none n cap) := fun _ _ _ _ e => by cases e
theorem Que.own {w : World} {B : Nat} {v : Value} {zs : List Int} (h : Que w B v zs) (h0 : At0 v) (h1 : 0 < zs.length) : OwnI w B v zs := by
 rcases h with ⟨rfl, rfl⟩ | ⟨g, off, cap, cur, rfl, hB, hg, hn, hm, hs, ht⟩
 ·exact ⟨rfl, .inl ⟨rfl, rfl⟩⟩
 ·obtain rfl := h0 _ _ _ _ rfl
  exact ⟨by simp [iC], .inr ⟨g, cap, cur, rfl, hB, hg, hn, by omega, by omega, by rw [Nat.mul_one]; rw [List.drop_zero] at ht; exact ht⟩⟩
theorem OwnI.at0 {w : World} {B : Nat} {v : Value} {zs : List Int} (h : OwnI w B v zs) : At0 v := by
 rcases h.2 with ⟨rfl, _⟩ | ⟨g, cap, cur, rfl, _⟩
 ·exact at0_nil _ _
 ·exact at0_of _ _ _
theorem Que.nil (w : World) (B : Nat) : Que w B (.slice none 0 0) [] := .inl ⟨rfl, rfl⟩
theorem Que.of_own {w : World} {B : Nat} {v : Value} {zs : List Int} (h : OwnI w B v zs) : Que w B v zs := by
 rcases h.2 with ⟨rfl, h0⟩ | ⟨g, cap, cur, rfl, hB, hg, hn, hm, hs, ht⟩
 ·exact .inl ⟨rfl, List.length_eq_zero_iff.1 h0⟩
 ·exact .inr ⟨g, 0, cap, cur, rfl, hB, hg, hn, by omega, by omega, by rw [List.drop_zero, ← ht, Nat.mul_one]⟩
theorem Que.lt {w : World} {B : Nat} {v : Value} {zs : List Int} (h : Que w B v zs) : ∀ b, v.ownBlock = some b → B ≤ b ∧ b < w.heap.size := by
 rcases h with ⟨rfl, _⟩ | ⟨g, off, cap, cur, rfl, hB, hg, _⟩
 ·intro b hb; cases hb
 ·intro b hb; cases hb; exact ⟨hB, t_lt hg⟩
theorem Que.at {w w' : World} {B : Nat} {v : Value} {zs : List Int} (h : Que w B v zs) (hb : ∀ b, v.ownBlock = some b → w'.heap[b]? = w.heap[b]?) : Que w' B v zs := by
 rcases h with h | ⟨g, off, cap, cur, rfl, hB, hg, h⟩
 ·exact .inl h
 ·exact .inr ⟨g, off, cap, cur, rfl, hB, (hb g rfl).trans hg, h⟩
theorem Que.typed {w : World} {B : Nat} {v : Value} {zs : List Int} (h : Que w B v zs) {b : Nat} (hb : v.ownBlock = some b) : ∃ cs, w.heap[b]? = some (.cells cs 3 (0, 0)) := by
 rcases h with ⟨rfl, _⟩ | ⟨g, off, cap, cur, rfl, hB, hg, _⟩
 ·cases hb
 ·cases hb; exact ⟨cur, hg⟩
theorem Que.shape {w : World} {B : Nat} {v : Value} {zs : List Int} (h : Que w B v zs) : ∃ ao cap, v = .slice ao zs.length cap ∧ zs.length ≤ cap := by
 rcases h with ⟨rfl, rfl⟩ | ⟨g, off, cap, cur, rfl, hB, hg, hn, _⟩
 ·exact ⟨none, 0, rfl, Nat.le_refl _⟩
 ·exact ⟨_, cap, rfl, hn⟩
theorem Que.first {w : World} {B : Nat} {ao : Option Addr} {n cap : Nat} {z : Int} {zs : List Int} (h : Que w B (.slice ao n cap) (z :: zs)) : ∃ g off, ao = some ⟨g, off, none⟩ ∧ n = zs.length + 1 ∧ w.cell? ⟨g, off, none⟩ = some (.int .i64 z) ∧ (0 < cap - 1 → Que w B (.slice (some ⟨g, off + 1, none⟩) zs.length (cap - 1)) zs) ∧ (cap - 1 = 0 → zs = [] ∧ Que w B (.slice (some ⟨g, off, none⟩) 0 0) []) := by
 rcases h with ⟨e, h⟩ | ⟨g, off, cap', cur, e, hB, hg, hn, hm, hs, ht⟩
 ·cases h
 ·injection e with e1 e2 e3
  subst e1; subst e2; subst e3
  simp only [List.length_cons] at hn ht
  refine ⟨g, off, rfl, rfl, ?_, fun hc => .inr ⟨g, off + 1, cap - 1, cur, rfl, hB, hg, by omega, by omega, by omega, ?_⟩, fun hc => ?_⟩
  ·refine cell0_of hg ?_
   rw [← Array.getElem?_toList]
   have h1 : ((cur.toList.drop off).take (zs.length + 1))[0]? = some (.int .i64 z) := by rw [ht]; rfl
   rw [List.getElem?_take_of_lt (by omega), List.getElem?_drop] at h1
   exact h1
  ·have h1 : ((cur.toList.drop off).take (zs.length + 1)).drop 1 = (iC (z :: zs)).drop 1 := by rw [ht]
   rw [List.drop_take, List.drop_drop] at h1
   simpa [iC] using h1
  ·have h0 : zs = [] := List.length_eq_zero_iff.1 (by omega)
   exact ⟨h0, .inr ⟨g, off, 0, cur, rfl, hB, hg, by simp, by omega, by omega, by simp [iC]⟩⟩
theorem que_append (ty : TypeId) (x : Int) (ad : Addr) (c : Nat) (v : Value) (zs : List Int) (B : Nat) (w : World) (h : Que w B v zs) (hx : w.cell? (ad.add 0) = some (.int .i64 x)) (hn : zs.length ≤ 1000000) (hB : B ≤ w.heap.size) :
 ∃ v' w', (Builtin.append_ #[45, 45] ty #[v, .slice (some ad) 1 c]).run Tryz.prog w = .ok v' w' ∧ Que w' B v' (zs ++ [x]) ∧ w.grownBy w' v.ownBlock ∧ (v'.ownBlock = v.ownBlock ∨ v'.ownBlock = some w.heap.size) ∧ (At0 v → At0 v') := by
 obtain ⟨i0, hi0, hz0, hz1, hz2⟩ := info_parts Tryz.infoI3
 have hnews : ∀ j u, [Value.int .i64 x][j]? = some u → w.cell? (ad.add j) = some u := fun j u hu => by
  rcases j with _ | j
  ·cases hu; exact hx
  ·simp at hu
 by_cases hroom : ∃ g off cap cur, v = .slice (some ⟨g, off, none⟩) zs.length cap ∧ B ≤ g ∧ w.heap[g]? = some (.cells cur 3 (0, 0)) ∧ zs.length + 1 ≤ cap ∧ off + cap ≤ maxLen ∧ (off + cap = cur.size ∨ cap = 0 ∧ off ≤ cur.size) ∧ (cur.toList.drop off).take zs.length = iC zs
 ·obtain ⟨g, off, cap, cur, rfl, hg, hc, hl, hm, hs, ht⟩ := hroom
  have hS := Src.ofSlice (P := Tryz.prog) w (size := i0.size) (tx := 45) Tryz.underlying45 ad 1 c [.int .i64 x] (by rw [hz1]; rfl) hnews (by simp [Value.oneCell'])
  have hcell : w.cell? ⟨g, off + zs.length, none⟩ = some (cur[off + zs.length]'(by omega)) := cell0_of hc (Array.getElem?_eq_getElem _)
  have hr := run_append_room_src (P := Tryz.prog) w 45 45 ty 3 i0 Tryz.underlying45 hi0 g off zs.length cap _ 1 _ hS (by omega) (fun j hj => by
   obtain rfl : j = 0 := by simp at hj; omega
   rw [hz1, Nat.mul_one, Nat.add_zero, hcell]; rfl) (fun j _ => blk_free hc _)
  have e1 : w.setCells g (off + zs.length * i0.size) [.int .i64 x] = w.setCell ⟨g, off + zs.length, none⟩ (.int .i64 x) := by rw [hz1, Nat.mul_one]; simp [World.setCells]
  rw [e1] at hr
  refine ⟨_, _, hr, .inr ⟨g, off, cap, cur.setIfInBounds (off + zs.length) (.int .i64 x), by simp, hg, heap_setCell_same w g _ cur _ _ hc, by simp; omega, hm, by simp; omega, ?_⟩, ⟨rfl, rfl, rfl, by simp, fun k _ hk => set_other _ _ _ _ _ (fun e => hk (by rw [e]; rfl))⟩, .inl rfl, fun h0 _ _ _ _ e => by cases e; exact h0 _ _ _ _ rfl⟩
  rw [Array.toList_setIfInBounds]
  apply List.ext_getElem?
  intro j
  simp only [List.length_append, List.length_cons, List.length_nil]
  rcases Nat.lt_or_ge j zs.length with hj | hj
  ·rw [List.getElem?_take_of_lt (by omega), List.getElem?_drop, List.getElem?_set_ne (by omega)]
   have h9 : ((cur.toList.drop off).take zs.length)[j]? = (iC zs)[j]? := by rw [ht]
   rw [List.getElem?_take_of_lt hj, List.getElem?_drop] at h9
   rw [h9]
   simp [iC, List.getElem?_append_left, hj]
  ·rcases Nat.lt_or_ge j (zs.length + 1) with hj2 | hj2
   ·obtain rfl : j = zs.length := by omega
    rw [List.getElem?_take_of_lt (by omega), List.getElem?_drop, List.getElem?_set_self (by simp; omega)]
    simp [iC]
   ·rw [List.getElem?_eq_none (by simp; omega), List.getElem?_eq_none (by simp [iC]; omega)]
 ·have hO : ∃ base cap, v = .slice base zs.length cap ∧ cap < zs.length + 1 ∧ ∀ j u, (iC zs)[j]? = some u → ∃ a, base = some a ∧ w.cell? (a.add j) = some u := by
   rcases h with ⟨rfl, rfl⟩ | ⟨g, off, cap, cur, rfl, hg, hc, hl, hm, hs, ht⟩
   ·exact ⟨none, 0, rfl, by simp, fun j u hu => by simp [iC] at hu⟩
   ·refine ⟨_, cap, rfl, ?_, fun j u hu => ⟨_, rfl, ?_⟩⟩
    ·rcases Nat.lt_or_ge cap (zs.length + 1) with h1 | h1
     ·exact h1
     ·exact absurd ⟨g, off, cap, cur, rfl, hg, hc, h1, hm, hs, ht⟩ hroom
    ·have hj : j < zs.length := by have := (List.getElem?_eq_some_iff.1 hu).1; simp [iC] at this; exact this
     rw [Addr.add_lit]
     refine cell0_of hc ?_
     rw [← Array.getElem?_toList]
     rw [← ht, List.getElem?_take_of_lt hj, List.getElem?_drop] at hu
     exact hu
  obtain ⟨base, cap, rfl, hcap, hold⟩ := hO
  have hS := Src.ofSlice (P := Tryz.prog) w (size := i0.size) (tx := 45) Tryz.underlying45 ad 1 c [.int .i64 x] (by rw [hz1]; rfl) hnews (by simp [Value.oneCell'])
  have hfc : (Builtin.firstCells i0.size zs.length (.slice base zs.length cap)).run Tryz.prog w.drew = .ok (iC zs).toArray w.drew := by
   cases base with
   | none =>
     have h0 : zs = [] := by
      cases zs with
      | nil => rfl
      | cons z r => obtain ⟨a, ha, _⟩ := hold 0 _ rfl; cases ha
     subst h0
     exact run_firstCells_none (P := Tryz.prog) w.drew i0.size 0 0 cap
   | some a => exact run_firstCells_some (P := Tryz.prog) w.drew i0.size zs.length a zs.length cap (iC zs) (by rw [hz1, iC_length]) (fun j u hu => by obtain ⟨a', ha, hc⟩ := hold j u hu; cases ha; simpa using hc)
  have hr := run_append_grow_src (P := Tryz.prog) w 45 45 ty 3 i0 _ Tryz.underlying45 hi0 hz0 base zs.length cap (iC zs) hfc _ 1 _ hS hcap (by omega) (growslice_fits hcap (by rw [hz2]; omega))
  have hge := grownCap_ge w (zs.length + 1) cap 3
  have hle := grownCap_le_maxLen w (zs.length + 1) cap 3 (by unfold maxLen; omega)
  refine ⟨_, _, hr, .inr ⟨w.heap.size, 0, grownCap w (zs.length + 1) cap 3, _, by simp, hB, heap_alloc_new w.drew _, by simp; omega, by omega, ?_, ?_⟩, ⟨rfl, rfl, rfl, by simp, fun k hk _ => (heap_alloc_old w.drew _ hk : _)⟩, .inr rfl, fun _ => at0_of _ _ _⟩
  ·have hc1 : (Value.int .i64 0).cells.size = 1 := rfl
   simp [size_zeroCells, iC, hc1]
   omega
  ·rw [List.drop_zero, Array.toList_append, List.toList_toArray]
   have e2 : iC zs ++ [Value.int .i64 x] = iC (zs ++ [x]) := by simp [iC]
   rw [e2]
   have e3 : (iC (zs ++ [x])).length = (zs ++ [x]).length := by simp [iC]
   rw [← e3]
   exact List.take_left
end Go.Proofs.YtplofbabfkkimaaGreatDoor
/- The lists of numbers that an object owns, no two in one block; the cells of a run's heaps. -/
namespace Go.Proofs.YtplofbabfkkimaaGreatDoor
open Go.RowKit Go.Maps
structure QueAll (w : World) (B : Nat) (L : List (Value × List Int)) : Prop where
 q : ∀ (i : Nat) (z : Value × List Int), L[i]? = some z → Que w B z.1 z.2
 ap : ∀ (i j : Nat) (z y : Value × List Int) (b : Nat), L[i]? = some z → L[j]? = some y → i ≠ j → z.1.ownBlock = some b → y.1.ownBlock ≠ some b
def Foot (L : List (Value × List Int)) (b : Nat) : Prop := ∃ z ∈ L, z.1.ownBlock = some b
theorem QueAll.lt {w : World} {B : Nat} {L : List (Value × List Int)} (h : QueAll w B L) {b : Nat} (hb : Foot L b) : B ≤ b ∧ b < w.heap.size := by
 obtain ⟨z, hz, e⟩ := hb
 obtain ⟨i, hi⟩ := List.mem_iff_getElem?.1 hz
 exact (h.q i z hi).lt b e
theorem QueAll.typed {w : World} {B : Nat} {L : List (Value × List Int)} (h : QueAll w B L) {b : Nat} (hb : Foot L b) : ∃ cs, w.heap[b]? = some (.cells cs 3 (0, 0)) := by
 obtain ⟨z, hz, e⟩ := hb
 obtain ⟨i, hi⟩ := List.mem_iff_getElem?.1 hz
 exact (h.q i z hi).typed e
theorem QueAll.kept {w w' : World} {B : Nat} {L : List (Value × List Int)} {F : Nat → Prop} (h : QueAll w B L) (hk : Kept F w w') (hF : ∀ b, Foot L b → ¬ F b) : QueAll w' B L :=
 ⟨fun i z hz => (h.q i z hz).at fun b hb => hk.block b ((h.q i z hz).lt b hb).2 (hF b ⟨z, List.mem_of_getElem? hz, hb⟩), h.ap⟩
theorem QueAll.below {w w' : World} {B : Nat} {L : List (Value × List Int)} (h : QueAll w B L) (hb : Below w.heap.size w w') : QueAll w' B L := h.kept (F := fun _ => False) ⟨hb.os, hb.tape, hb.output, hb.size, fun i hi _ => hb.block i hi⟩ fun _ _ hf => hf
theorem QueAll.put {w w' : World} {B k : Nat} {L : List (Value × List Int)} {v v' : Value} {zs zs' : List Int} (h : QueAll w B L) (hL : L[k]? = some (v, zs)) (hk : Kept (fun b => v.ownBlock = some b) w w') (hq : Que w' B v' zs') (hat : v'.ownBlock = v.ownBlock ∨ ∀ b, v'.ownBlock = some b → w.heap.size ≤ b) : QueAll w' B (L.set k (v', zs')) := by
 have hkl := (List.getElem?_eq_some_iff.1 hL).1
 have hold : ∀ (j : Nat) (y : Value × List Int) (b : Nat), L[j]? = some y → j ≠ k → y.1.ownBlock = some b → v'.ownBlock ≠ some b := fun j y b hy hj hb e => by
  rcases hat with h1 | h1
  ·rw [h1] at e; exact h.ap j k y (v, zs) b hy hL hj hb e
  ·have h2 := h1 b e
   have h3 := ((h.q j y hy).lt b hb).2
   omega
 refine ⟨fun i z hz => ?_, fun i j z y b hz hy hne hb => ?_⟩
 ·by_cases e : i = k
  ·subst e
   rw [List.getElem?_set_self hkl] at hz
   cases hz
   exact hq
  ·rw [List.getElem?_set_ne (fun e2 => e e2.symm)] at hz
   exact (h.q i z hz).at fun b hb => hk.block b ((h.q i z hz).lt b hb).2 fun hv => h.ap i k z (v, zs) b hz hL e hb hv
 ·by_cases ei : i = k
  ·subst ei
   rw [List.getElem?_set_self hkl] at hz
   cases hz
   rw [List.getElem?_set_ne hne] at hy
   exact fun e => hold j y b hy (fun e2 => hne e2.symm) e hb
  ·rw [List.getElem?_set_ne (fun e2 => ei e2.symm)] at hz
   by_cases ej : j = k
   ·subst ej
    rw [List.getElem?_set_self hkl] at hy
    cases hy
    exact hold i z b hz ei hb
   ·rw [List.getElem?_set_ne (fun e2 => ej e2.symm)] at hy
    exact h.ap i j z y b hz hy hne hb
theorem QueAll.snoc {w w' : World} {B : Nat} {L : List (Value × List Int)} {v' : Value} {zs' : List Int} (h : QueAll w B L) (hb : Below w.heap.size w w') (hq : Que w' B v' zs') (hat : ∀ b, v'.ownBlock = some b → w.heap.size ≤ b) : QueAll w' B (L ++ [(v', zs')]) := by
 have hold : ∀ (j : Nat) (y : Value × List Int) (b : Nat), L[j]? = some y → y.1.ownBlock = some b → v'.ownBlock ≠ some b := fun j y b hy hyb e => by
  have h2 := hat b e
  have h3 := ((h.q j y hy).lt b hyb).2
  omega
 have hN : ∀ (i : Nat) (z : Value × List Int), (L ++ [(v', zs')])[i]? = some z → (i < L.length ∧ L[i]? = some z) ∨ (i = L.length ∧ z = (v', zs')) := fun i z hz => by
  rcases Nat.lt_or_ge i L.length with h1 | h1
  ·rw [List.getElem?_append_left h1] at hz; exact .inl ⟨h1, hz⟩
  ·rw [List.getElem?_append_right h1] at hz
   have h2 := (List.getElem?_eq_some_iff.1 hz).1
   simp at h2
   have h3 : i = L.length := by omega
   subst h3
   simp at hz
   exact .inr ⟨rfl, hz.symm⟩
 refine ⟨fun i z hz => ?_, fun i j z y b hz hy hne hzb => ?_⟩
 ·rcases hN i z hz with ⟨_, h1⟩ | ⟨_, rfl⟩
  ·exact (h.below hb).q i z h1
  ·exact hq
 ·rcases hN i z hz with ⟨_, h1⟩ | ⟨e1, rfl⟩
  ·rcases hN j y hy with ⟨_, h2⟩ | ⟨_, rfl⟩
   ·exact h.ap i j z y b h1 h2 hne hzb
   ·exact hold i z b h1 hzb
  ·rcases hN j y hy with ⟨_, h2⟩ | ⟨e2, rfl⟩
   ·exact fun e => hold j y b h2 e hzb
   ·exact absurd (e1.trans e2.symm) hne
theorem foot_set {L : List (Value × List Int)} {k b : Nat} {z : Value × List Int} (h : Foot (L.set k z) b) : Foot L b ∨ z.1.ownBlock = some b := by
 obtain ⟨y, hy, e⟩ := h
 rcases List.mem_or_eq_of_mem_set hy with h1 | rfl
 ·exact .inl ⟨y, h1, e⟩
 ·exact .inr e
def hpC : List (Value × List Int) → List Nat → List Value
 | z :: r, k :: ks => z.1 :: .int .i64 (k : Int) :: hpC r ks
 | _, _ => []
end Go.Proofs.YtplofbabfkkimaaGreatDoor
/- Queues of numbers in memory: a number of one is another now; one more number goes behind; the last one goes. -/
namespace Go.Proofs.YtplofbabfkkimaaGreatDoor.Ts
open Go.RowKit Go.Maps
theorem que_cell {w : World} {B : Nat} {v : Value} {zs : List Int} (h : Que w B v zs) {i : Nat} {z : Int} (hi : zs[i]? = some z) : ∃ g off cap, v = .slice (some ⟨g, off, none⟩) zs.length cap ∧ zs.length ≤ cap ∧ w.cell? ⟨g, off + i, none⟩ = some (.int .i64 z) ∧ w.frozen? ⟨g, off + i, none⟩ = false := by
 have hl := (List.getElem?_eq_some_iff.1 hi).1
 rcases h with ⟨_, rfl⟩ | ⟨g, off, cap, cur, rfl, hB, hg, hn, hm, hs, ht⟩
 ·simp at hi
 ·refine ⟨g, off, cap, rfl, hn, cell0_of hg ?_, blk_free hg _⟩
  rw [← Array.getElem?_toList]
  have h9 : ((cur.toList.drop off).take zs.length)[i]? = (iC zs)[i]? := by rw [ht]
  rw [List.getElem?_take_of_lt hl, List.getElem?_drop] at h9
  rw [h9]
  simp [iC, hi]
theorem que_set {w : World} {B g off n cap : Nat} {zs : List Int} (h : Que w B (.slice (some ⟨g, off, none⟩) n cap) zs) {i : Nat} (hi : i < zs.length) (z : Int) : Que (w.setCell ⟨g, off + i, none⟩ (.int .i64 z)) B (.slice (some ⟨g, off, none⟩) n cap) (zs.set i z) := by
 rcases h with ⟨e, _⟩ | ⟨g', off', cap', cur, e, hB, hg, hn, hm, hs, ht⟩
 ·cases e
 ·cases e
  refine .inr ⟨g, off, cap, _, by rw [List.length_set], hB, heap_setCell_same w g _ cur _ _ hg, by rw [List.length_set]; exact hn, hm, by simp; omega, ?_⟩
  rw [Array.toList_setIfInBounds, List.length_set]
  apply List.ext_getElem?
  intro j
  rcases Nat.lt_or_ge j zs.length with hj | hj
  ·have h9 : ((cur.toList.drop off).take zs.length)[j]? = (iC zs)[j]? := by rw [ht]
   rw [List.getElem?_take_of_lt hj, List.getElem?_drop] at h9
   rw [List.getElem?_take_of_lt hj, List.getElem?_drop]
   by_cases e : j = i
   ·subst e
    rw [List.getElem?_set_self (by simp; omega)]
    simp [iC, hi]
   ·rw [List.getElem?_set_ne (by omega), h9]
    simp only [iC, List.getElem?_map]
    rw [List.getElem?_set_ne (fun e2 => e e2.symm)]
  ·rw [List.getElem?_eq_none (by simp; omega), List.getElem?_eq_none (by simp [iC]; omega)]
theorem qall_set {w : World} {B k g off n cap i : Nat} {L : List (Value × List Int)} {zs : List Int} (h : QueAll w B L) (hL : L[k]? = some (.slice (some ⟨g, off, none⟩) n cap, zs)) (hi : i < zs.length) (z : Int) : QueAll (w.setCell ⟨g, off + i, none⟩ (.int .i64 z)) B (L.set k (.slice (some ⟨g, off, none⟩) n cap, zs.set i z)) :=
 h.put hL ((Kept.setCell w g (off + i) _).mono fun b _ e => by rw [e]; rfl) (que_set (h.q k _ hL) hi z) (.inl rfl)
theorem box_put {w : World} {b k : Nat} {cs : Array Value} {t : TypeId} (h : w.heap[b]? = some (.cells cs t (0, 0))) (v : Value) : (w.setCell ⟨b, k, none⟩ v).heap[b]? = some (.cells (cs.setIfInBounds k v) t (0, 0)) := heap_setCell_same w b k cs t _ h
theorem qall_box {w : World} {B r k : Nat} {L : List (Value × List Int)} (h : QueAll w B L) (hr : ∀ b, Foot L b → b ≠ r) (v : Value) : QueAll (w.setCell ⟨r, k, none⟩ v) B L := h.kept (Kept.setCell w r k v) fun b hb e => hr b hb e
theorem seven_cells {w : World} {b : Nat} {a0 a1 a2 a3 a4 a5 a6 : Value} {t : TypeId} (h : w.heap[b]? = some (.cells #[a0, a1, a2, a3, a4, a5, a6] t (0, 0))) : w.cell? ⟨b, 0, none⟩ = some a0 ∧ w.cell? ⟨b, 1, none⟩ = some a1 ∧ w.cell? ⟨b, 2, none⟩ = some a2 ∧ w.cell? ⟨b, 3, none⟩ = some a3 ∧ w.cell? ⟨b, 4, none⟩ = some a4 ∧ w.cell? ⟨b, 5, none⟩ = some a5 ∧ w.cell? ⟨b, 6, none⟩ = some a6 :=
 ⟨cell0_of h rfl, cell0_of h rfl, cell0_of h rfl, cell0_of h rfl, cell0_of h rfl, cell0_of h rfl, cell0_of h rfl⟩
theorem wp_que_append {o : Oper} {a : Act} {K : Act → World → Prop} {Q : Exit → Act → World → Prop} (w : World) (s x : Operand) (ho : o.op = .call { callee := .builtin .append, args := #[s, x], argTypes := #[45, 45] })
 (v : Value) (zs : List Int) (B : Nat) (hs : a.eval s = v) (hq : Que w B v zs) (ad : Addr) (c : Nat) (z : Int) (hx : a.eval x = .slice (some ad) 1 c) (hc : w.cell? (ad.add 0) = some (.int .i64 z)) (hn : zs.length ≤ 1000000) (hB : B ≤ w.heap.size)
 (h : ∀ v' w', Que w' B v' (zs ++ [z]) → w.grownBy w' v.ownBlock → (v'.ownBlock = v.ownBlock ∨ v'.ownBlock = some w.heap.size) → (At0 v → At0 v') → K (a.put o.dst v') w') : o.wp Tryz.prog a w K Q := by
 obtain ⟨v', w', hr, h2, h3, h4, h5⟩ := que_append o.type z ad c v zs B w hq hc hn hB
 unfold Oper.wp execOp
 simp only [ho, resolve, invoke, builtin, Sem.run_bind, Sem.run_pure, Result.andThen_ok, List.map_toArray, List.map_cons, List.map_nil, hs, hx, hr]
 exact h v' w' h2 h3 h4 h5
theorem wpList_que_append {ops : Array Oper} {rest : List Oper} {o : Oper} {a : Act} {Q : Exit → Act → World → Prop} (w : World) (hgd : o.guard = none) (s x : Operand) (ho : o.op = .call { callee := .builtin .append, args := #[s, x], argTypes := #[45, 45] })
 (v : Value) (zs : List Int) (B : Nat) (hs : a.eval s = v) (hq : Que w B v zs) (ad : Addr) (c : Nat) (z : Int) (hx : a.eval x = .slice (some ad) 1 c) (hc : w.cell? (ad.add 0) = some (.int .i64 z)) (hn : zs.length ≤ 1000000) (hB : B ≤ w.heap.size)
 (h : ∀ v' w', Que w' B v' (zs ++ [z]) → w.grownBy w' v.ownBlock → (v'.ownBlock = v.ownBlock ∨ v'.ownBlock = some w.heap.size) → (At0 v → At0 v') → wpList Tryz.prog ops Q rest (a.put o.dst v') w') : wpList Tryz.prog ops Q (o :: rest) a w :=
 wpList_plain hgd fun _ hK => wp_que_append w s x ho v zs B hs hq ad c z hx hc hn hB fun v' w' h2 h3 h4 h5 => hK _ _ (h v' w' h2 h3 h4 h5)
theorem que_alloc {w : World} {B : Nat} {v : Value} {zs : List Int} (h : Que w B v zs) (o : Obj) : Que (w.alloc o) B v zs := h.at fun b hb => ((Below.refl _ w).alloc (Nat.le_refl _) o).block b (h.lt b hb).2
theorem que_up {w : World} {v v' : Value} {o : Obj} (h : v'.ownBlock = v.ownBlock ∨ v'.ownBlock = some (w.alloc o).heap.size) : v'.ownBlock = v.ownBlock ∨ ∀ b, v'.ownBlock = some b → w.heap.size ≤ b := by
 rcases h with h | h
 ·exact .inl h
 ·refine .inr fun b hb => ?_
  rw [h] at hb
  have := Option.some.inj hb
  rw [World.size_alloc] at this
  omega
theorem one_cell (w : World) (z : Int) : (w.alloc (.cells #[.int .i64 z] 3)).cell? ((⟨w.heap.size, 0, none⟩ : Addr).add 0) = some (.int .i64 z) := by
 rw [Addr.add_lit]
 exact cell0_of (heap_alloc_new w _) rfl
theorem que_slice {w : World} {B : Nat} {v : Value} {zs : List Int} (h : Que w B v zs) : ∃ a n c, v = .slice a n c := by
 obtain ⟨a, c, e, _⟩ := h.shape
 exact ⟨a, _, c, e⟩
theorem que_pop {w : World} {B g off n cap : Nat} {zs : List Int} {z : Int} (h : Que w B (.slice (some ⟨g, off, none⟩) n cap) (zs ++ [z])) : Que w B (.slice (some ⟨g, off, none⟩) zs.length cap) zs ∧ zs.length ≤ cap ∧ n = zs.length + 1 := by
 rcases h with ⟨e, _⟩ | ⟨g', off', cap', cur, e, hB, hg, hn, hm, hs, ht⟩
 ·cases e
 ·injection e with e1 e2 e3
  injection e1 with e1
  injection e1 with e4 e5
  subst e2; subst e3; subst e4; subst e5
  simp only [List.length_append, List.length_cons, List.length_nil, Nat.zero_add] at hn ht
  refine ⟨.inr ⟨g, off, cap, cur, rfl, hB, hg, by omega, hm, hs, ?_⟩, by omega, by simp⟩
  have h1 := congrArg (List.take zs.length) ht
  rw [List.take_take, Nat.min_eq_left (by omega)] at h1
  rw [h1]
  simp [iC]
end Go.Proofs.YtplofbabfkkimaaGreatDoor.Ts
/- Plain facts on keys that are numbered in the order in which they come, and on rounds. Nothing of the program is in it. -/
namespace Go.Proofs.YtplofbabfkkimaaGreatDoor.Ro
section
variable {K : Type} [DecidableEq K]
def place (c : K) : List K → Nat
 | [] => 0
 | a :: r => if a = c then 0 else place c r + 1
def more (c : K) (l : List K) : List K := if c ∈ l then l else l ++ [c]
def dd (l : List K) : List K := l.foldl (fun s c => more c s) []
def num (l : List K) : List Nat := l.map fun z => place z (dd l)
end
def Rise (l : List Int) : Prop := l.Pairwise (· < ·)
def ins (x : Int) : List Int → List Int
 | [] => [x]
 | a :: r => if x < a then x :: a :: r else if a = x then a :: r else a :: ins x r
def sd : List Int → List Int
 | [] => []
 | a :: r => ins a (sd r)
abbrev St : Type := Int × Int
def cl (c : List Nat) (t : Int) : Nat := (c[t.toNat]?).getD 0
def ends (M : Int) (c : List Nat) (l : List St) : List Int := l.map fun z => z.1 * M + cl c z.2
def leads (c : List Nat) (l : List St) (b : Int) (k : Nat) : Prop := ∃ z ∈ l, z.1 = b ∧ cl c z.2 = k
def key (out : Nat → List St) (c : List Nat) (i : Nat) : Int × List Int := ((c[i]?).getD 0, sd (ends 1001 c (out i)))
def nx (n : Nat) (out : Nat → List St) (c : List Nat) : List Nat := num ((List.range n).map (key out c))
def rnd (n : Nat) (out : Nat → List St) : Nat → List Nat
 | 0 => List.replicate n 0
 | k + 1 => nx n out (rnd n out k)
def Last (n : Nat) (out : Nat → List St) (R : Nat) : Prop := rnd n out (R + 1) = rnd n out R ∧ ∀ j, j < R → rnd n out (j + 1) ≠ rnd n out j
def rounds (n : Nat) (out : Nat → List St) (k : Nat) : List (List Nat) := (List.range k).map (rnd n out)
def rankG (n : Nat) (out : Nat → List St) (p q : Nat) (k : Nat) : Nat → Int
 | 0 => -1
 | f + 1 => if (rnd n out k)[p]? = (rnd n out k)[q]? then rankG n out p q (k + 1) f else k
def rank (n : Nat) (out : Nat → List St) (R p q : Nat) : Int := rankG n out p q 0 (R + 1)
end Go.Proofs.YtplofbabfkkimaaGreatDoor.Ro
/- Cycles of silent steps by one walk: the walk as a plain state, and what always stands. Nothing of the program is in it. -/
namespace Go.Proofs.YtplofbabfkkimaaGreatDoor.Ts
inductive Rt (out : Nat → List Nat) : Nat → Nat → Prop
 | refl (v : Nat) : Rt out v v
 | step {u v w : Nat} : Rt out u v → w ∈ out v → Rt out u w
theorem Rt.trans {out : Nat → List Nat} {a b c : Nat} (h : Rt out a b) (k : Rt out b c) : Rt out a c := by
 induction k with
 | refl => exact h
 | step _ hw ih => exact ih.step hw
theorem Rt.one {out : Nat → List Nat} {a b : Nat} (h : b ∈ out a) : Rt out a b := (Rt.refl a).step h
theorem Rt.stay {out : Nat → List Nat} {P : Nat → Prop} (hP : ∀ v, P v → ∀ t ∈ out v, P t) {a b : Nat} (h : Rt out a b) (ha : P a) : P b := by
 induction h with
 | refl => exact ha
 | step _ hw ih => exact hP _ ih _ hw
structure St where
 path : List (Nat × Nat)
 cnt : Int
 num : Nat → Int
 low : Nat → Int
 cls : Nat → Int
def St.op (s : St) (v : Nat) : Prop := 0 ≤ s.num v ∧ s.cls v = -1
def St.on (s : St) (v : Nat) : Prop := ∃ i, (v, i) ∈ s.path
def St.gone (s : St) (out : Nat → List Nat) (v j : Nat) : Prop := j < (out v).length ∧ ∀ i, (v, i) ∈ s.path → j < i
structure Inv (n : Nat) (out : Nat → List Nat) (s : St) (pd : Nat → Prop) : Prop where
 rng : ∀ v, 0 ≤ s.num v → v < n
 cnt : ∀ v, s.num v < s.cnt
 cnt0 : 0 ≤ s.cnt
 neg : ∀ v, s.num v = -1 ∨ 0 ≤ s.num v
 inj : ∀ u v, 0 ≤ s.num u → s.num u = s.num v → u = v
 clsn : ∀ v, s.cls v ≠ -1 → 0 ≤ s.num v
 pth : s.path.Pairwise fun x y => s.num y.1 < s.num x.1
 pop : ∀ x ∈ s.path, s.op x.1 ∧ x.2 ≤ (out x.1).length
 lown : ∀ v, s.op v → s.low v ≤ s.num v
 lowr : ∀ v, s.op v → ∃ u, s.op u ∧ s.num u = s.low v ∧ Rt out v u
 edge : ∀ v, s.op v → ∀ j t, s.gone out v j → (out v)[j]? = some t → 0 ≤ s.num t ∧ (s.cls t = -1 → s.low v ≤ s.num t)
 shut : ∀ v, s.cls v ≠ -1 → ∀ t ∈ out v, s.cls t ≠ -1
 cyc : ∀ u v, s.cls u ≠ -1 → s.cls v ≠ -1 → (s.cls u = s.cls v ↔ Rt out u v ∧ Rt out v u)
 root : ∀ v, s.cls v ≠ -1 → ∃ u : Nat, s.cls v = (u : Int) ∧ s.cls u ≠ -1 ∧ Rt out u v ∧ Rt out v u
 down : ∀ x ∈ s.path, ∀ v, s.op v → s.num x.1 ≤ s.num v → Rt out x.1 v
 off : ∀ v, s.op v → ¬ s.on v → s.low v < s.num v
 lows : ∀ v, s.op v → ¬ s.on v → ∃ x ∈ s.path, s.num x.1 < s.num v ∧ (∀ y ∈ s.path, s.num y.1 < s.num v → s.num y.1 ≤ s.num x.1) ∧ (s.low x.1 ≤ s.low v ∨ (s.path.head? = some x ∧ ∃ c, pd c ∧ s.op c ∧ (out x.1)[x.2]? = some c ∧ s.low c ≤ s.low v))
 link : ∀ (x y : Nat × Nat) (r : List (Nat × Nat)) (l : List (Nat × Nat)), s.path = l ++ x :: y :: r → (out y.1)[y.2]? = some x.1
def St.enter (s : St) (v : Nat) : St := ⟨(v, 0) :: s.path, s.cnt + 1, fun u => if u = v then s.cnt else s.num u, fun u => if u = v then s.cnt else s.low u, s.cls⟩
def St.pass (s : St) (v i t : Nat) (r : List (Nat × Nat)) : St := ⟨(v, i + 1) :: r, s.cnt, s.num, fun u => if u = v ∧ s.cls t = -1 then min (s.low v) (s.low t) else s.low u, s.cls⟩
def St.leave (s : St) (v : Nat) (r : List (Nat × Nat)) : St := ⟨r, s.cnt, s.num, s.low, fun u => if s.num v ≤ s.low v ∧ s.num v ≤ s.num u ∧ s.cls u = -1 then (v : Int) else s.cls u⟩
theorem Inv.head {n : Nat} {out : Nat → List Nat} {s : St} {pd : Nat → Prop} (h : Inv n out s pd) {v i : Nat} {r : List (Nat × Nat)} (hp : s.path = (v, i) :: r) : s.op v ∧ ∀ x ∈ r, s.num x.1 < s.num v := by
 refine ⟨(h.pop (v, i) (by rw [hp]; exact List.mem_cons_self)).1, fun x hx => ?_⟩
 have h1 := h.pth
 rw [hp] at h1
 exact (List.pairwise_cons.1 h1).1 x hx
theorem Inv.on_head {n : Nat} {out : Nat → List Nat} {s : St} {pd : Nat → Prop} (h : Inv n out s pd) {v i : Nat} {r : List (Nat × Nat)} (hp : s.path = (v, i) :: r) {j : Nat} (hj : (v, j) ∈ s.path) : j = i := by
 rw [hp] at hj
 rcases List.mem_cons.1 hj with e | e
 ·exact (Prod.mk.inj e).2
 ·have := (h.head hp).2 _ e
  simp at this
theorem Inv.start (n : Nat) (out : Nat → List Nat) {pd : Nat → Prop} : Inv n out ⟨[], 0, fun _ => -1, fun _ => 0, fun _ => -1⟩ pd where
 rng := fun v h => by simp at h
 cnt := fun v => by simp
 cnt0 := Int.le_refl _
 neg := fun v => .inl rfl
 inj := fun u v h => by simp at h
 clsn := fun v h => absurd rfl h
 pth := .nil
 pop := fun x h => by simp at h
 lown := fun v h => by simp [St.op] at h
 lowr := fun v h => by simp [St.op] at h
 edge := fun v h => by simp [St.op] at h
 shut := fun v h => absurd rfl h
 cyc := fun u v h => absurd rfl h
 root := fun v h => absurd rfl h
 down := fun x h => by simp at h
 off := fun v h => by simp [St.op] at h
 lows := fun v h => by simp [St.op] at h
 link := fun x y r l h => by simp at h
end Go.Proofs.YtplofbabfkkimaaGreatDoor.Ts
/- The walk in memory: its box, its path, its lists of numbers. -/
namespace Go.Proofs.YtplofbabfkkimaaGreatDoor.Ts
open Go.RowKit Go.Maps
structure Wk where
 vs : Value
 vp : Value
 vo : Value
 cnt : Int
 vn : Value
 vl : Value
 vc : Value
 ps : List (Nat × Nat × Nat)
 os : List Int
 ns : List Int
 ls : List Int
 cs : List Int
def Wk.L (x : Wk) : List (Value × List Int) := [(x.vo, x.os), (x.vn, x.ns), (x.vl, x.ls), (x.vc, x.cs)]
def pC (ps : List (Nat × Nat × Nat)) : List Value := ps.flatMap fun p => [.int .i64 (p.1 : Int), .int .i64 (p.2.1 : Int), .int .i64 (p.2.2 : Int)]
theorem pC_length (ps : List (Nat × Nat × Nat)) : (pC ps).length = ps.length * 3 := by
 unfold pC
 induction ps with
 | nil => rfl
 | cons p r ih => rw [List.flatMap_cons, List.length_append, ih, List.length_cons]; simp; omega
theorem pC_snoc (ps : List (Nat × Nat × Nat)) (p : Nat × Nat × Nat) : pC (ps ++ [p]) = pC ps ++ [.int .i64 (p.1 : Int), .int .i64 (p.2.1 : Int), .int .i64 (p.2.2 : Int)] := by simp [pC]
theorem pC_at (ps : List (Nat × Nat × Nat)) (i : Nat) (p : Nat × Nat × Nat) (h : ps[i]? = some p) : (pC ps)[i * 3]? = some (.int .i64 (p.1 : Int)) ∧ (pC ps)[i * 3 + 1]? = some (.int .i64 (p.2.1 : Int)) ∧ (pC ps)[i * 3 + 2]? = some (.int .i64 (p.2.2 : Int)) := by
 induction ps generalizing i with
 | nil => simp at h
 | cons q r ih =>
   have e : pC (q :: r) = [.int .i64 (q.1 : Int), .int .i64 (q.2.1 : Int), .int .i64 (q.2.2 : Int)] ++ pC r := by simp [pC]
   rw [e]
   cases i with
   | zero =>
     simp only [List.getElem?_cons_zero, Option.some.injEq] at h
     subst h
     exact ⟨rfl, rfl, rfl⟩
   | succ i =>
     rw [List.getElem?_cons_succ] at h
     obtain ⟨h1, h2, h3⟩ := ih i h
     refine ⟨?_, ?_, ?_⟩
     ·rw [List.getElem?_append_right (by simp; omega), ← h1]; congr 1; simp; omega
     ·rw [List.getElem?_append_right (by simp; omega), ← h2]; congr 1; simp; omega
     ·rw [List.getElem?_append_right (by simp; omega), ← h3]; congr 1; simp; omega
def Wk.foot (x : Wk) (b : Nat) : Prop := x.vp.ownBlock = some b ∨ Foot x.L b
structure WkM (w : World) (B r : Nat) (x : Wk) : Prop where
 box : w.heap[r]? = some (.cells #[x.vs, x.vp, x.vo, .int .i64 x.cnt, x.vn, x.vl, x.vc] 121 (0, 0))
 pa : w.ownsRow B 175 3 x.vp x.ps.length (pC x.ps)
 q : QueAll w B x.L
 up : B ≤ r
theorem WkM.r_foot {w : World} {B r : Nat} {x : Wk} (h : WkM w B r x) : ¬ x.foot r := fun hf => by
 rcases hf with hf | hf
 ·exact own_bk h.pa h.box (by decide) hf
 ·obtain ⟨c2, hc⟩ := h.q.typed hf
  have hb := h.box
  rw [hb] at hc
  injection hc with e
  injection e with _ e
  exact absurd e (by decide)
theorem WkM.path_list {w : World} {B r : Nat} {x : Wk} (h : WkM w B r x) {b : Nat} (h1 : x.vp.ownBlock = some b) : ¬ Foot x.L b := fun hf => by
 obtain ⟨c2, hc⟩ := h.q.typed hf
 exact own_bk h.pa hc (by decide) h1
theorem WkM.foot_lt {w : World} {B r : Nat} {x : Wk} (h : WkM w B r x) {b : Nat} (hb : x.foot b) : B ≤ b ∧ b < w.heap.size := hb.elim (fun e => h.pa.lt b e) fun e => h.q.lt e
theorem WkM.kept {w w' : World} {B r : Nat} {x : Wk} {F : Nat → Prop} (h : WkM w B r x) (hk : Kept F w w') (hr : ¬ F r) (hF : ∀ b, x.foot b → ¬ F b) : WkM w' B r x :=
 ⟨(hk.block r (t_lt h.box) hr).trans h.box, own_up h.pa hk fun b hb => hF b (.inl hb), h.q.kept hk fun b hb => hF b (.inr hb), h.up⟩
theorem WkM.below {w w' : World} {B r : Nat} {x : Wk} (h : WkM w B r x) (hb : Below w.heap.size w w') : WkM w' B r x := h.kept (F := fun _ => False) (Kept.of_below hb) (fun h => h) fun _ _ h => h
structure Grew (w w' : World) (r : Nat) (x x' : Wk) : Prop where
 kp : Kept (fun b => b = r ∨ x.foot b) w w'
 ft : ∀ b, x'.foot b → x.foot b ∨ w.heap.size ≤ b
theorem Grew.refl (w : World) (r : Nat) (x : Wk) : Grew w w r x x := ⟨Kept.refl _ _, fun _ h => .inl h⟩
theorem Grew.trans {w w1 w2 : World} {r : Nat} {x x1 x2 : Wk} (h : Grew w w1 r x x1) (k : Grew w1 w2 r x1 x2) : Grew w w2 r x x2 :=
 ⟨h.kp.trans2 k.kp fun b hb => by
  rcases hb with hb | hb
  ·exact .inl (.inl hb)
  ·exact (h.ft b hb).imp .inr id, fun b hb => by
  rcases k.ft b hb with h1 | h1
  ·exact h.ft b h1
  ·have := h.kp.size; exact .inr (by omega)⟩
theorem Grew.below {w w1 w2 : World} {r : Nat} {x x1 : Wk} (h : Grew w w1 r x x1) (hb : Below w1.heap.size w1 w2) : Grew w w2 r x x1 := ⟨h.kp.trans (Kept.of_below hb), h.ft⟩
theorem WkM.parts {w w1 : World} {B r k : Nat} {x : Wk} {v v' : Value} {zs zs' : List Int} (h : WkM w B r x) (hL : x.L[k]? = some (v, zs)) (hk : Kept (fun b => v.ownBlock = some b) w w1) (hq : Que w1 B v' zs') (hat : v'.ownBlock = v.ownBlock ∨ ∀ b, v'.ownBlock = some b → w.heap.size ≤ b) :
 w1.heap[r]? = w.heap[r]? ∧ w1.ownsRow B 175 3 x.vp x.ps.length (pC x.ps) ∧ QueAll w1 B (x.L.set k (v', zs')) ∧ (∀ b, Foot (x.L.set k (v', zs')) b → b ≠ r) ∧ (∀ b, Foot (x.L.set k (v', zs')) b → Foot x.L b ∨ w.heap.size ≤ b) := by
 have hm : (v, zs) ∈ x.L := List.mem_of_getElem? hL
 have hfv : ∀ b, v.ownBlock = some b → Foot x.L b := fun b hb => ⟨_, hm, hb⟩
 have hnew : ∀ b, Foot (x.L.set k (v', zs')) b → Foot x.L b ∨ w.heap.size ≤ b := fun b hb => by
  rcases foot_set hb with h1 | h1
  ·exact .inl h1
  ·rcases hat with h2 | h2
   ·exact .inl (hfv b (by rw [← h2]; exact h1))
   ·exact .inr (h2 b h1)
 refine ⟨hk.block r (t_lt h.box) fun e => h.r_foot (.inr (hfv r e)), own_up h.pa hk fun b hb e => h.path_list hb (hfv b e), h.q.put hL hk hq hat, fun b hb e => ?_, hnew⟩
 rcases hnew b hb with h1 | h1
 ·exact h.r_foot (.inr (by rw [← e]; exact h1))
 ·have := t_lt h.box; omega
theorem WkM.set {w : World} {B r k g off n cap i : Nat} {x x' : Wk} {zs : List Int} (h : WkM w B r x) (hL : x.L[k]? = some (.slice (some ⟨g, off, none⟩) n cap, zs)) (hi : i < zs.length) (z : Int) (hx : x'.L = x.L.set k (.slice (some ⟨g, off, none⟩) n cap, zs.set i z)) (hb : #[x'.vs, x'.vp, x'.vo, .int .i64 x'.cnt, x'.vn, x'.vl, x'.vc] = #[x.vs, x.vp, x.vo, .int .i64 x.cnt, x.vn, x.vl, x.vc]) (hp : x'.vp = x.vp ∧ x'.ps = x.ps) :
 WkM (w.setCell ⟨g, off + i, none⟩ (.int .i64 z)) B r x' ∧ Grew w (w.setCell ⟨g, off + i, none⟩ (.int .i64 z)) r x x' := by
 have hk := Kept.setCell w g (off + i) (.int .i64 z)
 have hf : Foot x.L g := ⟨_, List.mem_of_getElem? hL, rfl⟩
 obtain ⟨h1, h2, h3, h4, h5⟩ := h.parts hL (hk.mono fun b _ e => by rw [e]; rfl) (que_set (h.q.q k _ hL) hi z) (.inl rfl)
 refine ⟨⟨?_, ?_, ?_, h.up⟩, ⟨hk.mono fun b _ e => .inr (.inr (by rw [e]; exact hf)), fun b hb2 => ?_⟩⟩
 ·rw [h1, hb]; exact h.box
 ·rw [hp.1, hp.2]; exact h2
 ·rw [hx]; exact h3
 ·rcases hb2 with hb2 | hb2
  ·exact .inl (.inl (by rw [← hp.1]; exact hb2))
  ·rw [hx] at hb2
   exact (h5 b hb2).imp .inr id
theorem WkM.putOpen {w w1 : World} {B r : Nat} {x : Wk} {v' : Value} {zs' : List Int} (h : WkM w B r x) (hk : Kept (fun b => x.vo.ownBlock = some b) w w1) (hq : Que w1 B v' zs') (hat : v'.ownBlock = x.vo.ownBlock ∨ ∀ b, v'.ownBlock = some b → w.heap.size ≤ b) :
 WkM (w1.setCell ⟨r, 2, none⟩ v') B r { x with vo := v', os := zs' } ∧ Grew w (w1.setCell ⟨r, 2, none⟩ v') r x { x with vo := v', os := zs' } := by
 obtain ⟨h1, h2, h3, h4, h5⟩ := h.parts (k := 0) rfl hk hq hat
 refine ⟨⟨box_put (h1.trans h.box) v', own_up h2 (Kept.setCell w1 r 2 v') fun b hb e => h.r_foot (.inl (by rw [← e]; exact hb)), qall_box h3 h4 v', h.up⟩, ⟨(hk.mono fun b _ e => .inr (.inr ⟨(x.vo, x.os), by simp [Wk.L], e⟩)).trans ((Kept.setCell w1 r 2 v').mono fun b _ e => .inl e), fun b hb => ?_⟩⟩
 rcases hb with hb | hb
 ·exact .inl (.inl hb)
 ·exact (h5 b hb).imp .inr id
theorem WkM.putCnt {w : World} {B r : Nat} {x : Wk} (h : WkM w B r x) (z : Int) : WkM (w.setCell ⟨r, 3, none⟩ (.int .i64 z)) B r { x with cnt := z } ∧ Grew w (w.setCell ⟨r, 3, none⟩ (.int .i64 z)) r x { x with cnt := z } :=
 ⟨⟨box_put h.box _, own_up h.pa (Kept.setCell w r 3 _) fun b hb e => h.r_foot (.inl (by rw [← e]; exact hb)), h.q.kept (Kept.setCell w r 3 _) fun b hb e => h.r_foot (.inr (by rw [← e]; exact hb)), h.up⟩, ⟨(Kept.setCell w r 3 _).mono fun b _ e => .inl e, fun b hb => .inl hb⟩⟩
end Go.Proofs.YtplofbabfkkimaaGreatDoor.Ts
/- tauscc: contract of the walk's number. -/
namespace Go.Proofs.YtplofbabfkkimaaGreatDoor.Ts
open Go.RowKit Go.Maps
attribute [local go_sem ↓] Go.wp_at_zero Go.wp_at_succ
def Wk.numd (x : Wk) (v : Nat) (vo : Value) : Wk := { x with vo := vo, os := x.os ++ [(v : Int)], cnt := x.cnt + 1, ns := x.ns.set v x.cnt, ls := x.ls.set v x.cnt }
set_option linter.unusedSimpArgs false in
set_option maxRecDepth 100000 in
set_option maxHeartbeats 4000000 in
theorem number_any (B r : Nat) (x : Wk) (v : Nat) (w : World) (hM : WkM w B r x) (hv : v < x.ns.length) (hl : x.ls.length = x.ns.length) (hc : 0 ≤ x.cnt ∧ x.cnt ≤ 100000) (ho : x.os.length ≤ 100000) :
 Calls Tryz.prog 152 #[.pointer (some ⟨r, 0, none⟩), .int .i64 v] w fun e w' => e = .returned (.tuple #[]) ∧ ∃ vo, WkM w' B r (x.numd v vo) ∧ Grew w w' r x (x.numd v vo) := by
 obtain ⟨_, _, _, c3, c4, _, _⟩ := seven_cells hM.box
 obtain ⟨z0, hz0⟩ : ∃ z, x.ns[v]? = some z := ⟨_, List.getElem?_eq_getElem hv⟩
 obtain ⟨z1, hz1⟩ : ∃ z, x.ls[v]? = some z := ⟨_, List.getElem?_eq_getElem (by omega)⟩
 obtain ⟨gn, on, cn, hvn, _, cnn, fnn⟩ := que_cell (hM.q.q 1 (x.vn, x.ns) rfl) hz0
 obtain ⟨gl, ol, cl, hvl, _, _, _⟩ := que_cell (hM.q.q 2 (x.vl, x.ls) rfl) hz1
 simp only at hvn hvl
 obtain ⟨N, hN⟩ : ∃ N, N = x.ns.length := ⟨_, rfl⟩
 obtain ⟨ct, hct⟩ : ∃ ct, ct = x.cnt := ⟨_, rfl⟩
 rw [hl] at hvl
 rw [← hN] at hvl hvn
 rw [hvn] at c4
 rw [← hct] at c3
 have p0 : (0 : Int) ≤ (v : Int) := by omega
 have p1 : (v : Int) < (N : Int) := by omega
 have p2 : IntKind.i64.wrap (ct + 1) = ct + 1 := by rw [IntKind.wrap_i64]; omega
 have H : Hid _ := And.intro hM (And.intro hv (And.intro hl (And.intro ho (And.intro hvn (And.intro hvl (And.intro hN hct))))))
 have H1 : Hid _ := hz1
 clear hM hv hl ho hvn hvl hN hct hc hz0 hz1
 go_enter Tryz.func152, Tryz.ntmps152
 go_upto_region 0 with fail
 go_region
 obtain ⟨w1, hw1⟩ : ∃ w1, w1 = (w.setCell ⟨gn, on + v, none⟩ (.int .i64 ct)).drew := ⟨_, rfl⟩
 rw [← hw1]
 obtain ⟨x1, hx1⟩ : ∃ x1 : Wk, x1 = { x with ns := x.ns.set v x.cnt } := ⟨_, rfl⟩
 have h1 : WkM w1 B r x1 ∧ Grew w w1 r x x1 := by
  obtain ⟨e1, e2⟩ := H.out.1.set (x' := x1) (k := 1) (g := gn) (off := on) (n := N) (cap := cn) (zs := x.ns) (i := v) (by show some (x.vn, x.ns) = _; rw [H.out.2.2.2.2.1]) H.out.2.1 x.cnt (by rw [hx1]; show [_, _, _, _] = [_, _, _, _]; simp only; rw [H.out.2.2.2.2.1]) (by rw [hx1]) ⟨by rw [hx1], by rw [hx1]⟩
  rw [hw1, H.out.2.2.2.2.2.2.2]
  exact ⟨e1.below (Below.refl _ _).drew, e2.below (Below.refl _ _).drew⟩
 have hl1 : x1.ls[v]? = some z1 := by rw [hx1]; exact H1.out
 have hv1 : x1.vl = .slice (some ⟨gl, ol, none⟩) N cl := by rw [hx1]; exact H.out.2.2.2.2.2.1
 obtain ⟨_, _, _, d3, _, d5, _⟩ := seven_cells h1.1.box
 obtain ⟨g', o', c', hv', _, dll, dfl⟩ := que_cell (h1.1.q.q 2 (x1.vl, x1.ls) rfl) hl1
 simp only at hv'
 rw [hv1] at hv' d5
 injection hv' with e1 e2 e3
 injection e1 with e1
 injection e1 with e4 e5
 subst e4; subst e5
 rw [show x1.cnt = ct by rw [hx1]; exact H.out.2.2.2.2.2.2.2.symm] at d3
 have H2 : Hid _ := And.intro h1 (And.intro hx1 (And.intro hv1 e3))
 clear h1 hx1 hv1 hl1 e2 e3 hw1 c3 c4 cnn fnn
 go_upto_region 1 with fail
 go_region
 obtain ⟨w2, hw2⟩ : ∃ w2, w2 = (w1.setCell ⟨gl, ol + v, none⟩ (.int .i64 ct)).drew := ⟨_, rfl⟩
 rw [← hw2]
 obtain ⟨x2, hx2⟩ : ∃ x2 : Wk, x2 = { x1 with ls := x1.ls.set v x.cnt } := ⟨_, rfl⟩
 have h2 : WkM w2 B r x2 ∧ Grew w w2 r x x2 := by
  obtain ⟨e1, e2⟩ := H2.out.1.1.set (x' := x2) (k := 2) (g := gl) (off := ol) (n := N) (cap := cl) (zs := x1.ls) (i := v) (by show some (x1.vl, x1.ls) = _; rw [H2.out.2.2.1]) (by rw [H2.out.2.1]; show v < x.ls.length; rw [H.out.2.2.1]; exact H.out.2.1) x.cnt (by rw [hx2]; show [_, _, _, _] = [_, _, _, _]; simp only; rw [H2.out.2.2.1]) (by rw [hx2]) ⟨by rw [hx2], by rw [hx2]⟩
  rw [hw2, H.out.2.2.2.2.2.2.2]
  exact ⟨e1.below (Below.refl _ _).drew, H2.out.1.2.trans (e2.below (Below.refl _ _).drew)⟩
 obtain ⟨_, _, _, f3, _, _, _⟩ := seven_cells h2.1.box
 rw [show x2.cnt = ct by rw [hx2, H2.out.2.1]; exact H.out.2.2.2.2.2.2.2.symm] at f3
 have ff := blk_free h2.1.box 3
 have H3 : Hid _ := And.intro h2 hx2
 clear h2 hx2 hw2 d3 d5 dll dfl
 go_upto_region 3 with fail
 obtain ⟨w3, hw3⟩ : ∃ w3, w3 = w2.setCell ⟨r, 3, none⟩ (.int .i64 (ct + 1)) := ⟨_, rfl⟩
 rw [← hw3]
 obtain ⟨x3, hx3⟩ : ∃ x3 : Wk, x3 = { x2 with cnt := ct + 1 } := ⟨_, rfl⟩
 have h3 : WkM w3 B r x3 ∧ Grew w w3 r x x3 := by
  obtain ⟨e1, e2⟩ := H3.out.1.1.putCnt (ct + 1)
  rw [hw3, hx3]
  exact ⟨e1, H3.out.1.2.trans e2⟩
 have hvo : x3.vo = x.vo ∧ x3.os = x.os := by rw [hx3, H3.out.2, H2.out.2.1]; exact ⟨rfl, rfl⟩
 obtain ⟨b0, b1, b2, b3, b4, b5, b6⟩ := seven_cells h3.1.box
 have hQ := h3.1.q.q 0 (x3.vo, x3.os) rfl
 obtain ⟨ao, no, co, hoe⟩ := que_slice hQ
 simp only at hoe hQ
 rw [hoe] at b2 hQ
 have hB : B ≤ (w3.alloc (.cells #[.int .i64 (v : Int)] 3)).heap.size := by have := t_lt h3.1.box; have := h3.1.up; rw [World.size_alloc]; omega
 have hlen : x3.os.length ≤ 1000000 := by rw [hvo.2]; have := H.out.2.2.2.1; omega
 have HQ : Hid _ := And.intro hQ (And.intro h3 (And.intro hx3 hoe))
 clear hQ h3 hx3 hoe hvo hw3 f3 ff b0 b1 b3 b4 b5 b6
 go_wp2_with (at_builtin; refine wpList_que_append _ rfl _ _ rfl (.slice ao no co) x3.os B rfl (que_alloc HQ.out.1 _) ⟨w3.heap.size, 0, none⟩ 1 (v : Int) rfl (one_cell _ _) hlen hB ?_; intro vn wn hqn hgn han ha0; clear ha0; obtain ⟨an, nn, cn', rfl⟩ := que_slice hqn; have hkn := grown_alloc hgn; have hbx := (hkn.block r (t_lt HQ.out.2.1.1.box) fun e => HQ.out.2.1.1.r_foot (.inr ⟨(x3.vo, x3.os), by simp [Wk.L], by rw [HQ.out.2.2.2]; exact e⟩)).trans HQ.out.2.1.1.box; have bc := (seven_cells hbx).2.2.1; have bf := blk_free hbx 2; have HN : Hid _ := And.intro hqn (And.intro hkn (que_up han)); clear hqn hgn han hkn hbx)
 go_end0
 have hfin := HQ.out.2.1.1.putOpen (w1 := wn) (v' := .slice an nn cn') (zs' := x3.os ++ [(v : Int)]) (by rw [HQ.out.2.2.2]; exact HN.out.2.1) HN.out.1 (by rw [HQ.out.2.2.2]; exact HN.out.2.2)
 have hx : x.numd v (.slice an nn cn') = { x3 with vo := .slice an nn cn', os := x3.os ++ [(v : Int)] } := by
  rw [HQ.out.2.2.1, H3.out.2, H2.out.2.1, H.out.2.2.2.2.2.2.2]
  rfl
 refine ⟨rfl, .slice an nn cn', ?_, ?_⟩
 ·rw [hx]; exact hfin.1
 ·rw [hx]; exact HQ.out.2.1.2.trans hfin.2
end Go.Proofs.YtplofbabfkkimaaGreatDoor.Ts
/- Open states get their class: plain facts. -/
namespace Go.Proofs.YtplofbabfkkimaaGreatDoor.Ts
def setAll (cs : List Int) (l : List Nat) (z : Int) : List Int := l.foldr (fun u c => c.set u z) cs
theorem setAll_length (cs : List Int) (l : List Nat) (z : Int) : (setAll cs l z).length = cs.length := by
 induction l with
 | nil => rfl
 | cons u l ih => show ((setAll cs l z).set u z).length = _; rw [List.length_set, ih]
theorem setAll_not (cs : List Int) (l : List Nat) (z : Int) {u : Nat} (h : u ∉ l) : (setAll cs l z)[u]? = cs[u]? := by
 induction l with
 | nil => rfl
 | cons q l ih =>
   show ((setAll cs l z).set q z)[u]? = _
   rw [List.getElem?_set_ne (fun e => h (by rw [e]; exact List.mem_cons_self)), ih fun e => h (List.mem_cons_of_mem _ e)]
theorem setAll_in (cs : List Int) (l : List Nat) (z : Int) {u : Nat} (h : u ∈ l) (hu : u < cs.length) : (setAll cs l z)[u]? = some z := by
 induction l with
 | nil => cases h
 | cons q l ih =>
   show ((setAll cs l z).set q z)[u]? = _
   by_cases e : q = u
   ·subst e
    rw [List.getElem?_set_self (by rw [setAll_length]; exact hu)]
   ·rw [List.getElem?_set_ne e]
    rcases List.mem_cons.1 h with h1 | h1
    ·exact absurd h1.symm e
    ·exact ih h1
def cast (l : List Nat) : List Int := l.map fun (u : Nat) => (u : Int)
theorem cast_snoc (l : List Nat) (u : Nat) : cast (l ++ [u]) = cast l ++ [(u : Int)] := by simp [cast]
theorem cast_length (l : List Nat) : (cast l).length = l.length := by simp [cast]
def Wk.pop (x : Wk) (v : Nat) (rest popped : List Nat) (vo : Value) : Wk := { x with vo := vo, os := cast rest, cs := setAll x.cs popped (v : Int) }
structure ClAt (w wr : World) (B r : Nat) (x : Wk) (v : Nat) (pre post rest popped : List Nat) (vo : Value) : Prop where
 all : rest ++ popped = pre ++ v :: post
 le : pre.length ≤ rest.length
 m : WkM wr B r (x.pop v rest popped vo)
 gw : Grew w wr r x (x.pop v rest popped vo)
theorem ClAt.end {w wr : World} {B r : Nat} {x : Wk} {v : Nat} {pre post rest popped : List Nat} {vo : Value} (h : ClAt w wr B r x v pre post rest popped vo) (he : rest.length = pre.length) : rest = pre ∧ popped = v :: post := List.append_inj h.all he
theorem ClAt.more {w wr : World} {B r : Nat} {x : Wk} {v : Nat} {pre post rest popped : List Nat} {vo : Value} (h : ClAt w wr B r x v pre post rest popped vo) (hlt : pre.length < rest.length) : ∃ rest' u, rest = rest' ++ [u] ∧ pre.length ≤ rest'.length ∧ rest' ++ (u :: popped) = pre ++ v :: post := by
 have hl : rest.length - 1 + 1 = rest.length := by omega
 obtain ⟨u, hu⟩ : ∃ u, rest[rest.length - 1]? = some u := ⟨_, List.getElem?_eq_getElem (by omega)⟩
 have e : rest = rest.take (rest.length - 1) ++ [u] := by
  rw [← take_succ_of hu, hl, List.take_length]
 refine ⟨rest.take (rest.length - 1), u, e, by rw [List.length_take]; omega, ?_⟩
 rw [← h.all, show rest.take (rest.length - 1) ++ u :: popped = (rest.take (rest.length - 1) ++ [u]) ++ popped by simp, ← e]
theorem ClAt.in_rest {w wr : World} {B r : Nat} {x : Wk} {v : Nat} {pre post rest popped : List Nat} {vo : Value} (h : ClAt w wr B r x v pre post rest popped vo) (hn : (pre ++ v :: post).Nodup) (hlt : pre.length < rest.length) : v ∉ popped := fun hp => by
 have h1 : (pre ++ v :: post)[pre.length]? = some v := by simp
 rw [← h.all, List.getElem?_append_left hlt] at h1
 rw [← h.all] at hn
 exact (List.nodup_append.1 hn).2.2 v (List.mem_of_getElem? h1) v hp rfl
end Go.Proofs.YtplofbabfkkimaaGreatDoor.Ts
/- The walk's path in memory: the stage and the step of an entry are others now; where silent steps lead. -/
namespace Go.Proofs.YtplofbabfkkimaaGreatDoor.Ts
open Go.RowKit Go.Maps
theorem pC_cons (q : Nat × Nat × Nat) (r : List (Nat × Nat × Nat)) : pC (q :: r) = .int .i64 (q.1 : Int) :: .int .i64 (q.2.1 : Int) :: .int .i64 (q.2.2 : Int) :: pC r := by simp [pC]
theorem pC_set (ps : List (Nat × Nat × Nat)) (i s st k : Nat) (h : ps[i]? = some (s, st, k)) (st' k' : Nat) : (pC ps).set (i * 3 + 1) (.int .i64 (st' : Int)) = pC (ps.set i (s, st', k)) ∧ (pC ps).set (i * 3 + 2) (.int .i64 (k' : Int)) = pC (ps.set i (s, st, k')) := by
 induction ps generalizing i with
 | nil => simp at h
 | cons q r ih =>
   cases i with
   | zero =>
     simp only [List.getElem?_cons_zero, Option.some.injEq] at h
     subst h
     simp only [List.set_cons_zero, pC_cons]
     exact ⟨rfl, rfl⟩
   | succ i =>
     rw [List.getElem?_cons_succ] at h
     obtain ⟨h1, h2⟩ := ih i h
     rw [show (i + 1) * 3 + 1 = i * 3 + 1 + 1 + 1 + 1 by omega, show (i + 1) * 3 + 2 = i * 3 + 2 + 1 + 1 + 1 by omega]
     simp only [List.set_cons_succ, pC_cons]
     rw [h1, h2]
     exact ⟨rfl, rfl⟩
theorem WkM.entry {w : World} {B r i s st k : Nat} {x : Wk} (h : WkM w B r x) (hp : x.ps[i]? = some (s, st, k)) : ∃ gp cap, x.vp = .slice (some ⟨gp, 0, none⟩) x.ps.length cap ∧ x.ps.length ≤ cap ∧ w.cell? ⟨gp, i * 3, none⟩ = some (.int .i64 (s : Int)) ∧ w.cell? ⟨gp, i * 3 + 1, none⟩ = some (.int .i64 (st : Int)) ∧ w.cell? ⟨gp, i * 3 + 2, none⟩ = some (.int .i64 (k : Int)) ∧ ∀ j, w.frozen? ⟨gp, j, none⟩ = false := by
 have hl := (List.getElem?_eq_some_iff.1 hp).1
 obtain ⟨gp, cap, h1, h2⟩ := h.pa.form (by omega)
 have hr := h.pa
 rw [h1] at hr
 have hcap : x.ps.length ≤ cap := by
  rcases hr.2 with ⟨e, _⟩ | ⟨_, _, _, e, _, _, h4, _⟩
  ·cases e
  ·cases e; exact h4
 obtain ⟨h3, h4, h5⟩ := pC_at x.ps i _ hp
 exact ⟨gp, cap, h1, hcap, (hr.cellAt (i * 3) (by omega)).trans h3, (hr.cellAt (i * 3 + 1) (by omega)).trans h4, (hr.cellAt (i * 3 + 2) (by omega)).trans h5, fun j => hr.frozenAt j⟩
theorem WkM.setPath {w : World} {B r gp cap j : Nat} {x : Wk} (h : WkM w B r x) (hv : x.vp = .slice (some ⟨gp, 0, none⟩) x.ps.length cap) (u : Value) {ps' : List (Nat × Nat × Nat)} (hl : ps'.length = x.ps.length) (hp : (pC x.ps).set j u = pC ps') :
 WkM (w.setCell ⟨gp, j, none⟩ u) B r { x with ps := ps' } ∧ Grew w (w.setCell ⟨gp, j, none⟩ u) r x { x with ps := ps' } := by
 have hb : x.vp.ownBlock = some gp := by rw [hv]; rfl
 have hr : r ≠ gp := fun e => h.r_foot (.inl (by rw [e]; exact hb))
 refine ⟨⟨(set_other _ _ _ _ _ hr).trans h.box, ?_, h.q.kept (Kept.setCell w gp _ _) fun b hf e => h.path_list hb (by rw [← e]; exact hf), h.up⟩, ⟨(Kept.setCell w gp j u).mono fun b _ e => .inr (.inl (by rw [e]; exact hb)), fun b hf => .inl hf⟩⟩
 have h6 := h.pa
 rw [hv] at h6
 have h7 := (h6.stored j u).1
 rw [hp, ← hl] at h7
 show World.ownsRow _ _ _ _ x.vp _ _
 rw [hv, ← hl]
 exact h7
theorem WkM.setStage {w : World} {B r gp cap i s st k : Nat} {x : Wk} (h : WkM w B r x) (hv : x.vp = .slice (some ⟨gp, 0, none⟩) x.ps.length cap) (hp : x.ps[i]? = some (s, st, k)) (st' : Nat) :
 WkM (w.setCell ⟨gp, i * 3 + 1, none⟩ (.int .i64 (st' : Int))) B r { x with ps := x.ps.set i (s, st', k) } ∧ Grew w (w.setCell ⟨gp, i * 3 + 1, none⟩ (.int .i64 (st' : Int))) r x { x with ps := x.ps.set i (s, st', k) } := h.setPath hv _ (by rw [List.length_set]) (pC_set x.ps i s st k hp st' 0).1
theorem WkM.setStep {w : World} {B r gp cap i s st k : Nat} {x : Wk} (h : WkM w B r x) (hv : x.vp = .slice (some ⟨gp, 0, none⟩) x.ps.length cap) (hp : x.ps[i]? = some (s, st, k)) (k' : Nat) :
 WkM (w.setCell ⟨gp, i * 3 + 2, none⟩ (.int .i64 (k' : Int))) B r { x with ps := x.ps.set i (s, st, k') } ∧ Grew w (w.setCell ⟨gp, i * 3 + 2, none⟩ (.int .i64 (k' : Int))) r x { x with ps := x.ps.set i (s, st, k') } := h.setPath hv _ (by rw [List.length_set]) (pC_set x.ps i s st k hp 0 k').2
structure Sil (w : World) (r : Nat) (x : Wk) (n : Nat) (out : Nat → List Nat) (gs os cap : Nat) : Prop where
 vs : x.vs = .slice (some ⟨gs, os, none⟩) n cap
 lt : gs < w.heap.size
 far : gs ≠ r ∧ ¬ x.foot gs
 at_ : ∀ q, q < n → ∃ vq, w.cell? ⟨gs, os + q, none⟩ = some vq ∧ HasI w vq (cast (out q)) ∧ (out q ≠ [] → ∀ b, vq.ownBlock = some b → b ≠ r ∧ ¬ x.foot b)
theorem Sil.grew {w w' : World} {r : Nat} {x x' : Wk} {n : Nat} {out : Nat → List Nat} {gs os cap : Nat} (h : Sil w r x n out gs os cap) (hg : Grew w w' r x x') (hv : x'.vs = x.vs) : Sil w' r x' n out gs os cap := by
 have hf : ∀ b, b < w.heap.size → ¬ x.foot b → ¬ x'.foot b := fun b hb hn hf => by
  rcases hg.ft b hf with h1 | h1
  ·exact hn h1
  ·omega
 refine ⟨hv.trans h.vs, Nat.lt_of_lt_of_le h.lt hg.kp.size, ⟨h.far.1, hf _ h.lt h.far.2⟩, fun q hq => ?_⟩
 obtain ⟨vq, h1, h2, h3⟩ := h.at_ q hq
 have hne : cast (out q) ≠ [] → out q ≠ [] := fun h e => h (by rw [e]; rfl)
 refine ⟨vq, (World.cell?_of_block (a := ⟨gs, os + q, none⟩) (hg.kp.block gs h.lt fun e => e.elim h.far.1 h.far.2)).trans h1, h2.kept hg.kp fun hn b hb e => e.elim (h3 (hne hn) b hb).1 (h3 (hne hn) b hb).2, fun hn b hb => ⟨(h3 hn b hb).1, hf b (made_far h2 (fun e => hn (by cases ho : out q with
  | nil => rfl
  | cons a l => rw [ho] at e; simp [cast] at e)) hb) (h3 hn b hb).2⟩⟩
end Go.Proofs.YtplofbabfkkimaaGreatDoor.Ts
/- A state's steps are gone one by one: plain facts, and the walk between two of them. -/
namespace Go.Proofs.YtplofbabfkkimaaGreatDoor.Ts
open Go.RowKit Go.Maps
def pass1 (cs : List Int) (s : Nat) (ls : List Int) (t : Nat) : List Int := if cs[t]? = some (-1) then ls.set s (min (ls[s]?.getD 0) (ls[t]?.getD 0)) else ls
theorem pass1_length (cs : List Int) (s : Nat) (ls : List Int) (t : Nat) : (pass1 cs s ls t).length = ls.length := by
 unfold pass1
 split
 ·rw [List.length_set]
 ·rfl
theorem passes_length (cs : List Int) (s : Nat) (l : List Nat) (ls : List Int) : (l.foldl (pass1 cs s) ls).length = ls.length := by
 induction l generalizing ls with
 | nil => rfl
 | cons t l ih => rw [List.foldl_cons, ih, pass1_length]
def Wk.gone (x : Wk) (out : Nat → List Nat) (i s st k j : Nat) : Wk := { x with ps := x.ps.set i (s, st, k + j), ls := (((out s).drop k).take j).foldl (pass1 x.cs s) x.ls }
theorem gone_zero (x : Wk) (out : Nat → List Nat) {i s st k : Nat} (h : x.ps[i]? = some (s, st, k)) : x.gone out i s st k 0 = x := by
 unfold Wk.gone
 rw [Nat.add_zero, set_same h]
 rfl
theorem gone_ls (x : Wk) (out : Nat → List Nat) {i s st k j t : Nat} (h : (out s)[k + j]? = some t) : (x.gone out i s st k (j + 1)).ls = pass1 x.cs s (x.gone out i s st k j).ls t := by
 unfold Wk.gone
 simp only
 rw [take_succ_of (x := t) (by rw [List.getElem?_drop]; exact h), List.foldl_append]
 rfl
structure AhAt (w wr : World) (B r : Nat) (x : Wk) (out : Nat → List Nat) (i s st k j : Nat) : Prop where
 le : k + j ≤ (out s).length
 num : ∀ m t, k ≤ m → m < k + j → (out s)[m]? = some t → x.ns[t]? ≠ some (-1)
 m : WkM wr B r (x.gone out i s st k j)
 gw : Grew w wr r x (x.gone out i s st k j)
def Ahead (e : Ending) (x : Wk) (out : Nat → List Nat) (s k j : Nat) : Prop := (∃ t : Nat, e = .returned (.tuple #[.int .i64 (t : Int), .bool true]) ∧ (out s)[k + j]? = some t ∧ x.ns[t]? = some (-1)) ∨ (e = .returned (.tuple #[.int .i64 0, .bool false]) ∧ k + j = (out s).length)
theorem gone_shut (x : Wk) (out : Nat → List Nat) {i s st k j t : Nat} (h : (out s)[k + j]? = some t) (hc : x.cs[t]? ≠ some (-1)) : x.gone out i s st k (j + 1) = { x.gone out i s st k j with ps := (x.gone out i s st k j).ps.set i (s, st, k + (j + 1)) } := by
 have h1 := gone_ls x out (i := i) (st := st) h
 unfold pass1 at h1
 rw [if_neg hc] at h1
 unfold Wk.gone at h1 ⊢
 simp only at h1 ⊢
 rw [h1, List.set_set]
theorem gone_open (x : Wk) (out : Nat → List Nat) {i s st k j t : Nat} {zs zt : Int} (h : (out s)[k + j]? = some t) (hc : x.cs[t]? = some (-1)) (hs : (x.gone out i s st k j).ls[s]? = some zs) (ht : (x.gone out i s st k j).ls[t]? = some zt) : x.gone out i s st k (j + 1) = { x.gone out i s st k j with ls := (x.gone out i s st k j).ls.set s (min zs zt), ps := (x.gone out i s st k j).ps.set i (s, st, k + (j + 1)) } := by
 have h1 := gone_ls x out (i := i) (st := st) h
 unfold pass1 at h1
 rw [if_pos hc, hs, ht] at h1
 unfold Wk.gone at h1 ⊢
 simp only [Option.getD_some] at h1 ⊢
 rw [h1, List.set_set]
theorem AhAt.next {w wr w2 : World} {B r : Nat} {x x' : Wk} {out : Nat → List Nat} {i s st k j t : Nat} (h : AhAt w wr B r x out i s st k j) (ht : (out s)[k + j]? = some t) (hn : x.ns[t]? ≠ some (-1)) (hm : WkM w2 B r x') (hg : Grew w w2 r x x') (hx : x' = x.gone out i s st k (j + 1)) : AhAt w w2 B r x out i s st k (j + 1) := by
 subst hx
 refine ⟨?_, fun m u h1 h2 h3 => ?_, hm, hg⟩
 ·have := (List.getElem?_eq_some_iff.1 ht).1
  omega
 ·by_cases e : m = k + j
  ·subst e
   rw [ht] at h3
   cases h3
   exact hn
  ·exact h.num m u h1 (by omega) h3
theorem AhAt.below {w wr w2 : World} {B r : Nat} {x : Wk} {out : Nat → List Nat} {i s st k j : Nat} (h : AhAt w wr B r x out i s st k j) (hb : Below wr.heap.size wr w2) : AhAt w w2 B r x out i s st k j := ⟨h.le, h.num, h.m.below hb, h.gw.below hb⟩
end Go.Proofs.YtplofbabfkkimaaGreatDoor.Ts
/- What always stands in the walk stays so: it comes to a state, goes a step, leaves a state. -/
namespace Go.Proofs.YtplofbabfkkimaaGreatDoor.Ts
theorem Inv.enter {n : Nat} {out : Nat → List Nat} {s : St} {pd pd' : Nat → Prop} (h : Inv n out s pd) {v : Nat} (hvn : v < n) (hv : s.num v = -1) (hp : s.path = [] ∨ ∃ p i r, s.path = (p, i) :: r ∧ (out p)[i]? = some v) : Inv n out (s.enter v) pd' := by
 have hcv : s.cls v = -1 := Classical.byContradiction fun hc => by have := h.clsn v hc; omega
 have hc0 := h.cnt0
 have hnv : (s.enter v).num v = s.cnt := by simp [St.enter]
 have hnu : ∀ u, u ≠ v → (s.enter v).num u = s.num u := fun u hu => by simp [St.enter, hu]
 have hlv : (s.enter v).low v = s.cnt := by simp [St.enter]
 have hlu : ∀ u, u ≠ v → (s.enter v).low u = s.low u := fun u hu => by simp [St.enter, hu]
 have hcl : ∀ u, (s.enter v).cls u = s.cls u := fun u => rfl
 have hpa : (s.enter v).path = (v, 0) :: s.path := rfl
 have hne : ∀ u, s.op u → u ≠ v := fun u hu e => by rw [e] at hu; have := hu.1; omega
 have hop : ∀ u, (s.enter v).op u → u = v ∨ (u ≠ v ∧ s.op u) := fun u hu => by
  by_cases e : u = v
  ·exact .inl e
  ·exact .inr ⟨e, by rw [← hnu u e]; exact hu.1, hu.2⟩
 have hop2 : ∀ u, s.op u → (s.enter v).op u := fun u hu => ⟨by rw [hnu u (hne u hu)]; exact hu.1, hu.2⟩
 have hov : (s.enter v).op v := ⟨by rw [hnv]; exact hc0, hcv⟩
 have hxv : ∀ x ∈ s.path, x.1 ≠ v := fun x hx => hne _ (h.pop x hx).1
 have hgone : ∀ u, u ≠ v → ∀ j, (s.enter v).gone out u j → s.gone out u j := fun u hu j hg => ⟨hg.1, fun i hi => hg.2 i (by rw [hpa]; exact List.mem_cons_of_mem _ hi)⟩
 have hlow2 : ∀ u, s.op u → ¬ s.on u → ∃ x ∈ s.path, s.num x.1 < s.num u ∧ (∀ y ∈ s.path, s.num y.1 < s.num u → s.num y.1 ≤ s.num x.1) ∧ s.low x.1 ≤ s.low u := fun u hu hon => by
  obtain ⟨x, hx, h1, h2, h3 | ⟨hh, c, _, hc, ho, _⟩⟩ := h.lows u hu hon
  ·exact ⟨x, hx, h1, h2, h3⟩
  ·rcases hp with e | ⟨p, i, r, e, hv2⟩
   ·rw [e] at hh; cases hh
   ·rw [e] at hh
    cases hh
    rw [hv2] at ho
    have e2 : v = c := Option.some.inj ho
    exact absurd e2.symm (hne c hc)
 exact {
  rng := fun u hu => by
   by_cases e : u = v
   ·rw [e]; exact hvn
   ·rw [hnu u e] at hu; exact h.rng u hu
  cnt := fun u => by
   show (s.enter v).num u < s.cnt + 1
   by_cases e : u = v
   ·rw [e, hnv]; omega
   ·rw [hnu u e]; have := h.cnt u; omega
  cnt0 := by show 0 ≤ s.cnt + 1; omega
  neg := fun u => by
   by_cases e : u = v
   ·rw [e, hnv]; exact .inr hc0
   ·rw [hnu u e]; exact h.neg u
  inj := fun a b ha hab => by
   by_cases e : a = v
   ·by_cases e2 : b = v
    ·rw [e, e2]
    ·rw [e, hnv, hnu b e2] at hab; have := h.cnt b; omega
   ·by_cases e2 : b = v
    ·rw [e2, hnv, hnu a e] at hab; have := h.cnt a; omega
    ·rw [hnu a e] at ha hab; rw [hnu b e2] at hab; exact h.inj a b ha hab
  clsn := fun u hu => by
   by_cases e : u = v
   ·rw [e, hnv]; exact hc0
   ·rw [hnu u e]; exact h.clsn u hu
  pth := by
   rw [hpa]
   refine List.pairwise_cons.2 ⟨fun y hy => ?_, h.pth.imp_of_mem fun {a b} ha hb hab => ?_⟩
   ·rw [hnv, hnu _ (hxv y hy)]; exact h.cnt _
   ·rw [hnu _ (hxv a ha), hnu _ (hxv b hb)]; exact hab
  pop := fun x hx => by
   rw [hpa] at hx
   rcases List.mem_cons.1 hx with rfl | hx
   ·exact ⟨hov, Nat.zero_le _⟩
   ·exact ⟨hop2 _ (h.pop x hx).1, (h.pop x hx).2⟩
  lown := fun u hu => by
   rcases hop u hu with rfl | ⟨e, hu⟩
   ·rw [hlv, hnv]; exact Int.le_refl _
   ·rw [hlu u e, hnu u e]; exact h.lown u hu
  lowr := fun u hu => by
   rcases hop u hu with rfl | ⟨e, hu⟩
   ·exact ⟨u, hov, by rw [hlv, hnv], .refl _⟩
   ·obtain ⟨x, h1, h2, h3⟩ := h.lowr u hu
    exact ⟨x, hop2 x h1, by rw [hlu u e, hnu x (hne x h1)]; exact h2, h3⟩
  edge := fun u hu j t hg ht => by
   rcases hop u hu with rfl | ⟨e, hu⟩
   ·have := hg.2 0 (by rw [hpa]; exact List.mem_cons_self)
    omega
   ·obtain ⟨h1, h2⟩ := h.edge u hu j t (hgone u e j hg) ht
    have et : t ≠ v := fun e2 => by rw [e2] at h1; omega
    rw [hnu t et, hlu u e]
    exact ⟨h1, h2⟩
  shut := h.shut
  cyc := h.cyc
  root := h.root
  down := fun x hx u hu hle => by
   rw [hpa] at hx
   rcases List.mem_cons.1 hx with rfl | hx1
   ·rcases hop u hu with rfl | ⟨e, hu⟩
    ·exact .refl _
    ·simp only at hle
     rw [hnv, hnu u e] at hle
     have := h.cnt u
     omega
   ·rcases hop u hu with rfl | ⟨e, hu⟩
    ·rcases hp with e | ⟨p, i, r, e, hv2⟩
     ·rw [e] at hx1; simp at hx1
     ·have h1 : Rt out x.1 p := by
       rw [e] at hx1
       rcases List.mem_cons.1 hx1 with rfl | hx2
       ·exact .refl _
       ·exact h.down x (by rw [e]; exact List.mem_cons_of_mem _ hx2) p (h.head e).1 (Int.le_of_lt ((h.head e).2 x hx2))
      exact h1.step (List.mem_of_getElem? hv2)
    ·rw [hnu _ (hxv x hx1), hnu u e] at hle
     exact h.down x hx1 u hu hle
  off := fun u hu hon => by
   rcases hop u hu with rfl | ⟨e, hu⟩
   ·exact absurd ⟨0, by rw [hpa]; exact List.mem_cons_self⟩ hon
   ·rw [hlu u e, hnu u e]
    exact h.off u hu fun ⟨i, hi⟩ => hon ⟨i, by rw [hpa]; exact List.mem_cons_of_mem _ hi⟩
  lows := fun u hu hon => by
   rcases hop u hu with rfl | ⟨e, hu⟩
   ·exact absurd ⟨0, by rw [hpa]; exact List.mem_cons_self⟩ hon
   ·obtain ⟨x, hx, h1, h2, h3⟩ := hlow2 u hu fun ⟨i, hi⟩ => hon ⟨i, by rw [hpa]; exact List.mem_cons_of_mem _ hi⟩
    refine ⟨x, by rw [hpa]; exact List.mem_cons_of_mem _ hx, by rw [hnu _ (hxv x hx), hnu u e]; exact h1, fun y hy hlt => ?_, .inl (by rw [hlu _ (hxv x hx), hlu u e]; exact h3)⟩
    rw [hpa] at hy
    rcases List.mem_cons.1 hy with rfl | hy
    ·simp only at hlt
     rw [hnv, hnu u e] at hlt
     have := h.cnt u
     omega
    ·rw [hnu _ (hxv y hy), hnu u e] at hlt
     rw [hnu _ (hxv y hy), hnu _ (hxv x hx)]
     exact h2 y hy hlt
  link := fun x y r l hl => by
   rw [hpa] at hl
   cases l with
   | nil =>
     injection hl with e1 e2
     subst e1
     rcases hp with e | ⟨p, i, r', e, hv2⟩
     ·rw [e] at e2; cases e2
     ·rw [e] at e2
      injection e2 with e3 _
      rw [← e3]
      exact hv2
   | cons a l =>
     injection hl with _ e2
     exact h.link x y r l e2 }
end Go.Proofs.YtplofbabfkkimaaGreatDoor.Ts
