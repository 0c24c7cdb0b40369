/- Texts of this claim, joined: SgCnt, SgSt, SgTk0, SgTk1, SgHist, SgMod, SgCan, RoText, RoSig, RoSig2, RoPart, SyNew, RoOf. -/
import Derived.Test.YtkiapldehlnndaaGreatDoorPart2
import Derived.WideKeyEntry
import Derived.Maps.OwnSet
import Derived.DeepKeys4
import Derived.Test.YtkiapldehlnndaaGreatDoorPart4
import Derived.Test.YtkiapldehlnndaaGreatDoorPart6
import Derived.Test.YtkiapldehlnndaaGreatDoorPart0
import Derived.BigQuiet
import Derived.Deep.QuietTactic
import Derived.Lib.ItoaNum
import Derived.Lib.SlicesCompact
import Derived.Test.YtkiapldehlnndaaGreatDoorPart3
import Derived.Test.YtkiapldehlnndaaGreatDoorPart1
import Derived.Laws.IdiomStrings
import Derived.Lib.AppendIntMem
import Derived.WalkSmall
import Derived.Deep.RegionHeld3
import Derived.Deep.DrawnRows
/- strong: the map of counts in memory: how many steps a state has with a label into a heap. One count more, one count less. -/
namespace Go.Proofs.YtkiapldehlnndaaGreatDoor
open Go.RowKit Go.Maps
open Go.ChangeMaps (setBlock heap_setBlock_same heap_setBlock_other)
theorem Tryz.laidOutIn : laidOutB Tryz.prog = true := by kernel_rfl
theorem Tryz.rowIn : (152 : TypeId) < Tryz.prog.types.size := of_decide_eq_true (by kernel_rfl)
theorem Tryz.wideIn : (match Tryz.prog.underlying 152 with | some (.array _ _) | some (.struct _) => true | _ => false) = true := by kernel_rfl
set_option maxRecDepth 100000 in
theorem Tryz.lawIn : WideMaps.KeyLaw Tryz.prog 152 := deep_law_laid Tryz.laidOutIn (m := 3) (by omega) Tryz.rowIn (by kernel_rfl) Tryz.wideIn
theorem Tryz.lawInK : Keyed Tryz.prog 152 := Keyed.of_law Tryz.lawIn
def inV (p b h : Int) : Value := .agg #[.int .i64 p, .int .i64 b, .int .i64 h]
def inK (p b h : Int) : Lit := .string (keyBytes [.int .i64 p, .int .i64 b, .int .i64 h])
def Sml (z : Int) : Prop := -1000000000 ≤ z ∧ z ≤ 1000000000
theorem Sml.wf {z : Int} (h : Sml z) : (Lit.int .i64 z).wf = true := WalkArith.wf_i64 (by unfold Sml at h; omega)
theorem sml_nat {n : Nat} (h : n ≤ 1000000000) : Sml (n : Int) := by unfold Sml; omega
theorem Tryz.cellsIn : Tryz.prog.cellsOf 152 = 3 := by kernel_rfl
theorem Tryz.cellsIntIn : Tryz.prog.cellsOf 3 = 1 := by kernel_rfl
theorem Tryz.keyTypeIn : Tryz.prog.keyType 152 = true := by kernel_rfl
theorem Tryz.sizeTIn : ∃ m, Tryz.prog.types.size = m + 1 := ⟨_, (by kernel_rfl : Tryz.prog.types.size = 319)⟩
set_option maxRecDepth 100000 in
theorem keyOf_in {p b h : Int} (hp : Sml p) (hb : Sml b) (hh : Sml h) : keyOf Tryz.prog 152 (inV p b h) = some (inK p b h) := by
 obtain ⟨m, hm⟩ := Tryz.sizeTIn
 have hform : (inV p b h).formed Tryz.prog 152 = true := by simp [inV, Value.formed, Tryz.underlying152, Tryz.cellsIn]
 unfold keyOf
 rw [Tryz.underlying152]
 simp only [Tryz.keyTypeIn, hform, Bool.and_self, if_true]
 rw [hm]
 simp [Program.keyLits, Tryz.underlying152, Tryz.underlying3, Tryz.cellsIn, Tryz.cellsIntIn, inV, Value.cells, hp.wf, hb.wf, hh.wf, inK]
theorem inK_inj {p b h p' b' h' : Int} (hp : Sml p) (hb : Sml b) (hh : Sml h) (hp' : Sml p') (hb' : Sml b') (hh' : Sml h') (e : inK p b h = inK p' b' h') : p = p' ∧ b = b' ∧ h = h' := by
 have h1 := keyOf_in hp hb hh
 have h2 := keyOf_in hp' hb' hh'
 rw [← e] at h2
 have h3 := Tryz.lawIn.inj h1 h2
 unfold inV at h3
 simp only [Value.agg.injEq, Array.mk.injEq, List.cons.injEq, Value.int.injEq, true_and, and_true] at h3
 exact h3
theorem inK_key (p b h : Int) : WideAt.IsKeyLit (inK p b h) := by unfold inK; exact trivial
def Cnt (w : World) (mb n : Nat) (f : Int → Int → Int → Int) : Prop := ∃ D, w.ownsMap (H := Unit) Tryz.prog 152 (plainElem Tryz.prog 3) mb n D ∧ ∀ p b h, Sml p → Sml b → Sml h → D.atKey (inK p b h) (.lit (.int .i64 0)) = .lit (.int .i64 (f p b h))
theorem cnt_map {w w' : World} {k : TypeId} {R : Value → Option (DataW Unit × List MemPlace)} {b n : Nat} {D : DataW Unit} (h : w.ownsMap Tryz.prog k R b n D) (hb : w'.heap[b]? = w.heap[b]?) : w'.ownsMap Tryz.prog k R b n D := by
 obtain ⟨es, clock, h1, h2⟩ := h
 exact ⟨es, clock, hb.trans h1, h2⟩
theorem Cnt.at {w w' : World} {mb n : Nat} {f : Int → Int → Int → Int} (h : Cnt w mb n f) (hb : w'.heap[mb]? = w.heap[mb]?) : Cnt w' mb n f := by
 obtain ⟨D, h1, h2⟩ := h
 exact ⟨D, cnt_map h1 hb, h2⟩
theorem Cnt.lt {w : World} {mb n : Nat} {f : Int → Int → Int → Int} (h : Cnt w mb n f) : mb < w.heap.size := by
 obtain ⟨D, h1, h2⟩ := h
 exact h1.lt
theorem Cnt.block {w : World} {mb n : Nat} {f : Int → Int → Int → Int} (h : Cnt w mb n f) : ∃ es clock, w.heap[mb]? = some (.map es clock) := by
 obtain ⟨D, ⟨es, clock, h1, _⟩, h2⟩ := h
 exact ⟨es, clock, h1⟩
theorem Cnt.kept {w w' : World} {mb n : Nat} {f : Int → Int → Int → Int} {F : Nat → Prop} (h : Cnt w mb n f) (hk : Kept F w w') (hF : ¬ F mb) : Cnt w' mb n f := h.at (hk.block mb h.lt hF)
theorem Cnt.below {w w' : World} {mb n : Nat} {f : Int → Int → Int → Int} (h : Cnt w mb n f) (hb : Below w.heap.size w w') : Cnt w' mb n f := h.at (hb.block mb h.lt)
theorem Cnt.congr {w : World} {mb n : Nat} {f f' : Int → Int → Int → Int} (h : Cnt w mb n f) (hf : ∀ p b q, f p b q = f' p b q) : Cnt w mb n f' := by
 obtain ⟨D, h1, h2⟩ := h
 exact ⟨D, h1, fun p b q hp hb hq => by rw [h2 p b q hp hb hq, hf]⟩
theorem Cnt.made (w : World) : Cnt (w.alloc (.map #[] 0)) w.heap.size 0 (fun _ _ _ => 0) := ⟨_, World.ownsMap_made w _ _ _, fun _ _ _ _ _ _ => rfl⟩
theorem Cnt.ne {w : World} {mb n i : Nat} {f : Int → Int → Int → Int} {c : Array Value} {s : TypeId} {x : Nat × Nat} (h : Cnt w mb n f) (hi : w.heap[i]? = some (.cells c s x)) : mb ≠ i := by
 rintro rfl
 obtain ⟨es, clock, h1⟩ := h.block
 rw [hi] at h1
 cases h1
theorem Tryz.zeroInt (u : World) : (zeroValue 3).run Tryz.prog u = .ok (.int .i64 0) u := by kernel_rfl
theorem Cnt.look {w : World} {mb n : Nat} {f : Int → Int → Int → Int} (h : Cnt w mb n f) {p b q : Int} (hp : Sml p) (hb : Sml b) (hq : Sml q) : (Instr.lookup 92 (.map (some mb)) (inV p b q) false).run Tryz.prog w = .ok (.int .i64 (f p b q)) w ∧ (Lit.int .i64 (f p b q)).wf = true := by
 obtain ⟨D, h1, h2⟩ := h
 obtain ⟨c, e1, e2, e3⟩ := h1.lookup_int Tryz.lawInK Tryz.underlying92 Tryz.underlying3 (Tryz.zeroInt w) (keyOf_in hp hb hq)
 rw [h2 p b q hp hb hq] at e2
 injection e2 with e2
 injection e2 with _ e2
 rw [e2]
 exact ⟨e1, e3⟩
def updC (f : Int → Int → Int → Int) (p b q z : Int) : Int → Int → Int → Int := fun p' b' q' => if p' = p ∧ b' = b ∧ q' = q then z else f p' b' q'
set_option maxRecDepth 100000 in
theorem Cnt.entry {w : World} {mb n : Nat} {f : Int → Int → Int → Int} (h : Cnt w mb n f) (hn : n < maxLen) {p b q : Int} (hp : Sml p) (hb : Sml b) (hq : Sml q) :
 ∃ (v0 sv : Value) (w1 : World), (Instr.mapEntry 92 (.map (some mb)) (inV p b q)).run Tryz.prog w = .ok (.tuple #[v0, sv]) w1 ∧ Cnt w1 mb (n + 1) f ∧ Kept (fun i => i = mb) w w1 ∧
  ∀ z : Int, (Lit.int .i64 z).wf = true → ∃ w2, (Instr.entryStore 92 (.map (some mb)) sv (.int .i64 z)).run Tryz.prog w1 = .ok () w2 ∧ Cnt w2 mb (n + 1) (updC f p b q z) ∧ Kept (fun i => i = mb) w w2 := by
 have hkey := keyOf_in hp hb hq
 obtain ⟨D, hD, hf⟩ := h
 obtain ⟨es, clock, hbk, F, hs, hDe⟩ := hD
 obtain ⟨v0, st, es1, clock1, hE, hcase, hS⟩ := WideElems.entry_then_store Tryz.lawIn Tryz.underlying92 (Tryz.zeroInt) hbk F hkey
 have hO : w.ownsMap (H := Unit) Tryz.prog 152 (plainElem Tryz.prog 3) mb n D := ⟨es, clock, hbk, F, hs, hDe⟩
 have hsb : ∀ (u : World) (es0 es' : Array MapEntry) (c0 c' : Nat), u.heap[mb]? = some (.map es0 c0) → Kept (fun i => i = mb) u (setBlock u mb (.map es' c')) := fun u es0 es' c0 c' hu => ⟨rfl, rfl, rfl, by simp [setBlock], fun i _ hi => heap_setBlock_other hu _ hi⟩
 have hput : ∀ (z : Int) (w' : World), w'.ownsMap (H := Unit) Tryz.prog 152 (plainElem Tryz.prog 3) mb (n + 1) (D.put (inK p b q) (.lit (.int .i64 z))) → Cnt w' mb (n + 1) (updC f p b q z) := fun z w' hw' => by
  refine ⟨_, hw', fun p' b' q' hp' hb' hq' => ?_⟩
  unfold updC
  by_cases e : p' = p ∧ b' = b ∧ q' = q
  ·rw [if_pos e, e.1, e.2.1, e.2.2]
   exact atKey_put_same hO.isMap (inK_key _ _ _) _ _
  ·rw [if_neg e, atKey_put_other (fun e2 => e (inK_inj hp' hb' hq' hp hb hq e2)) _ _]
   exact hf p' b' q' hp' hb' hq'
 refine ⟨v0, goInt st, _, hE, ?_, hsb w es _ clock _ hbk, fun z hz => ?_⟩
 ·rcases Tryz.lawIn.find w hkey es.toList F.keys with ⟨h1, h2⟩ | ⟨j, e0, h1, h2, h3⟩
  ·have hlook := hO.lookup_int Tryz.lawInK Tryz.underlying92 Tryz.underlying3 (Tryz.zeroInt w) hkey
   obtain ⟨c, e1, e2, e3⟩ := hlook
   have e4 : (Instr.lookup 92 (.map (some mb)) (inV p b q) false).run Tryz.prog w = .ok (.int .i64 0) w := by simp [Instr.lookup, run_underlying Tryz.underlying92, MapKept.run_getObj_map hbk, Tryz.lawIn.check w _ hkey, h1, Result.andThen]
   rw [e4] at e1
   injection e1 with e1
   injection e1 with _ e1
   obtain ⟨w', hrun, hown, _⟩ := hO.update Tryz.lawInK Tryz.underlying92 hn (val := .int .i64 0) hkey (plainElem_int Tryz.underlying3 (by decide))
   have e5 : (Instr.mapUpdate 92 (.map (some mb)) (inV p b q) (.int .i64 0)).run Tryz.prog w = .ok () (setBlock w mb (.map (es.push ⟨inV p b q, .int .i64 0, clock⟩) (clock + 1))) := by simp [Instr.mapUpdate, run_underlying Tryz.underlying92, MapKept.run_getObj_map hbk, Tryz.lawIn.check w _ hkey, h1, MapKept.run_setObj_map _ hbk, Result.andThen, setBlock]
   have e6 : (Instr.mapEntry 92 (.map (some mb)) (inV p b q)).run Tryz.prog w = .ok (.tuple #[.int .i64 0, goInt clock]) (setBlock w mb (.map (es.push ⟨inV p b q, .int .i64 0, clock⟩) (clock + 1))) := by simp [Instr.mapEntry, run_underlying Tryz.underlying92, MapKept.run_getObj_map hbk, Tryz.lawIn.check w _ hkey, h1, MapKept.run_setObj_map _ hbk, Result.andThen, setBlock]
   rw [hE] at e6
   injection e6 with _ e7
   rw [hrun] at e5
   injection e5 with _ e8
   have h9 := hput 0 w' hown
   rw [e8, ← e7] at h9
   refine h9.congr fun p' b' q' => ?_
   unfold updC
   by_cases e : p' = p ∧ b' = b ∧ q' = q
   ·rw [if_pos e, e.1, e.2.1, e.2.2]
    have h10 := e2.symm.trans (hf p b q hp hb hq)
    injection h10 with h10
    injection h10 with _ h10
    exact e1.trans h10
   ·rw [if_neg e]
  ·have e6 : (Instr.mapEntry 92 (.map (some mb)) (inV p b q)).run Tryz.prog w = .ok (.tuple #[e0.val, goInt e0.born]) (setBlock w mb (.map es clock)) := by
    have hj : es[j]? = some e0 := by simpa using h2
    have hsame : es.modify j (fun e => { e with key := inV p b q }) = es := by
     apply Array.ext'
     rw [Array.toList_modify, ChangeMaps.modify_eq_set _ _ _ _ h2]
     have : ({ e0 with key := inV p b q } : MapEntry) = e0 := by rw [← h3]
     rw [this]
     exact WideElems.set_self _ _ _ h2
    simp [Instr.mapEntry, run_underlying Tryz.underlying92, MapKept.run_getObj_map hbk, Tryz.lawIn.check w _ hkey, h1, hj, h3, Tryz.lawIn.stays w hkey, hsame, MapKept.run_setObj_map _ hbk, Result.andThen, setBlock]
   rw [hE] at e6
   injection e6 with _ e7
   rw [e7]
   exact ⟨D, (cnt_map hO (by rw [heap_setBlock_same hbk, hbk])).mono (Nat.le_succ n), hf⟩
 ·have hw1 : (setBlock w mb (.map es1 clock1)).heap[mb]? = some (.map es1 clock1) := heap_setBlock_same hbk _
  obtain ⟨es', clock', hr1, hr2⟩ := hS (setBlock w mb (.map es1 clock1)) (.int .i64 z) hw1
  obtain ⟨w', hrun, hown, _⟩ := hO.update Tryz.lawInK Tryz.underlying92 hn (val := .int .i64 z) hkey (plainElem_int Tryz.underlying3 hz)
  rw [hr2] at hrun
  injection hrun with _ e8
  refine ⟨_, hr1, hput z _ (cnt_map hown ?_), (hsb w es _ clock _ hbk).trans (hsb _ es1 _ clock1 _ hw1)⟩
  rw [← e8, heap_setBlock_same hw1, heap_setBlock_same hbk]
end Go.Proofs.YtkiapldehlnndaaGreatDoor
/- strong: what a run says of its partition behind a lift; a run, its partition and its counts together. -/
namespace Go.Proofs.YtkiapldehlnndaaGreatDoor
open Go.RowKit Go.Maps
def hc (n : Nat) (H : Nat → Int) (h : Int) : Nat := (List.range n).countP fun e => H e == h
theorem countP_add {α : Type} {l : List α} {f g k : α → Bool} (h : ∀ a ∈ l, f a = (g a || k a) ∧ (g a && k a) = false) : l.countP f = l.countP g + l.countP k := by
 induction l with
 | nil => rfl
 | cons a r ih =>
   obtain ⟨h1, h3⟩ := h a List.mem_cons_self
   have h2 := ih fun a ha => h a (List.mem_cons_of_mem _ ha)
   simp only [List.countP_cons]
   rw [h2, h1]
   cases hy : g a <;> cases hz : k a <;> simp_all <;> omega
theorem mem_count (s : Pst) (b : Nat) : (s.mem b).length = (List.range s.n).countP fun e => decide (s.O e = b) := by
 unfold Pst.mem
 rw [List.length_map, List.countP_eq_length_filter]
theorem mem_nodup (s : Pst) (b : Nat) : (s.mem b).Nodup := by
 unfold Pst.mem
 refine List.pairwise_map.2 ((List.Pairwise.filter _ List.nodup_range).imp fun {a b} hne h => hne (Int.ofNat_inj.1 h))
theorem lift_of {w w' : World} {B r g p mb bl o k z : Nat} {x x' : Rv} {bs : List Int} {s : Pst} (hA : LiftAt w w' B r g p mb x x' bl o k z bs) (hI : RunI s x) (hb : bl < s.nb) (b : Nat) : x'.of b = if b = bl then (x.ks.length : Int) else x.of b := by
 unfold Rv.of
 rw [hA.ow]
 by_cases e : b = bl
 ·rw [if_pos e, e, List.getElem?_set_self (by rw [hI.ow]; exact hb)]; rfl
 ·rw [if_neg e, List.getElem?_set_ne (fun e2 => e e2.symm)]
theorem RunI.lift {w w' : World} {B r g p mb bl o k z : Nat} {x x' : Rv} {bs : List Int} {s : Pst} (hA : LiftAt w w' B r g p mb x x' bl o k z bs) (hI : RunI s x) (hb : bl < s.nb) (how : x.ow[bl]? = some (o : Int)) (hH : (x.H.map (·.2))[o]? = some bs) : RunI s x' := by
 have hol : o < x.ks.length := by have h9 := (List.getElem?_eq_some_iff.1 hH).1; rw [List.length_map, hI.len] at h9; exact h9
 have hLen : (x.H.map (·.2)).length = x.ks.length := by rw [List.length_map, hI.len]
 have hkl : x'.ks.length = x.ks.length + 1 := by rw [hA.ks, List.length_append, List.length_set]; rfl
 have how' : ∀ b, b ≠ bl → x'.ow[b]? = x.ow[b]? := fun b e => by rw [hA.ow, List.getElem?_set_ne (fun e2 => e e2.symm)]
 have hob : x'.ow[bl]? = some (x.ks.length : Int) := by rw [hA.ow, List.getElem?_set_self (by rw [hI.ow]; exact hb)]
 have hHs : ∀ (q : Nat) (cs : List Int), (x'.H.map (·.2))[q]? = some cs → (q = o ∧ cs = bs.filter fun b => !(b == (bl : Int))) ∨ (q = x.ks.length ∧ cs = [(bl : Int)]) ∨ (q ≠ o ∧ q < x.ks.length ∧ (x.H.map (·.2))[q]? = some cs) := fun q cs hq => by
  rw [hA.hs] at hq
  rcases Nat.lt_or_ge q x.ks.length with h1 | h1
  ·rw [List.getElem?_append_left (by rw [List.length_set, hLen]; exact h1)] at hq
   by_cases e : q = o
   ·subst e
    rw [List.getElem?_set_self (by rw [hLen]; exact h1)] at hq
    exact .inl ⟨rfl, (Option.some.inj hq).symm⟩
   ·rw [List.getElem?_set_ne (fun e2 => e e2.symm)] at hq
    exact .inr (.inr ⟨e, h1, hq⟩)
  ·rw [List.getElem?_append_right (by rw [List.length_set, hLen]; exact h1), List.length_set, hLen] at hq
   have h2 := (List.getElem?_eq_some_iff.1 hq).1
   simp only [List.length_cons, List.length_nil] at h2
   have h3 : q = x.ks.length := by omega
   rw [h3, Nat.sub_self] at hq
   exact .inr (.inl ⟨h3, (Option.some.inj hq).symm⟩)
 have hmem : ∀ (q : Nat) (z : Int), q ≠ x.ks.length → ((∃ b : Nat, z = (b : Int) ∧ b < s.nb ∧ x'.ow[b]? = some (q : Int)) ↔ (z ≠ (bl : Int) ∧ ∃ b : Nat, z = (b : Int) ∧ b < s.nb ∧ x.ow[b]? = some (q : Int))) := fun q z hq => by
  constructor
  ·rintro ⟨b, rfl, h1, h2⟩
   have hne : b ≠ bl := fun e => by
    rw [e, hob] at h2
    have := Option.some.inj h2
    omega
   exact ⟨by omega, b, rfl, h1, by rw [← how' b hne]; exact h2⟩
  ·rintro ⟨h0, b, rfl, h1, h2⟩
   exact ⟨b, rfl, h1, by rw [how' b (by omega)]; exact h2⟩
 refine ⟨?_, ?_, fun b hb2 => ?_, fun b hb2 => ?_, fun q cs hq => ?_, fun q cs hq z => ?_, fun q cs hq hc => ?_, ?_, fun z hz => ?_, ?_⟩
 ·rw [hA.ow, List.length_set]; exact hI.ow
 ·rw [hA.sz]; exact hI.sz
 ·rw [hA.sz]; exact hI.szv b hb2
 ·by_cases e : b = bl
  ·rw [e]; exact ⟨x.ks.length, hob, by omega⟩
  ·obtain ⟨q, h1, h2⟩ := hI.own b hb2
   exact ⟨q, by rw [how' b e]; exact h1, by omega⟩
 ·rcases hHs q cs hq with ⟨_, rfl⟩ | ⟨_, rfl⟩ | ⟨_, _, h1⟩
  ·exact List.Pairwise.filter _ (hI.nd o bs hH)
  ·simp
  ·exact hI.nd q cs h1
 ·rcases hHs q cs hq with ⟨rfl, rfl⟩ | ⟨rfl, rfl⟩ | ⟨hne, hlt, h1⟩
  ·rw [hmem q z (by omega), List.mem_filter, hI.hs q bs hH z]
   simp only [Bool.not_eq_true', beq_eq_false_iff_ne, ne_eq]
   exact and_comm
  ·rw [List.mem_singleton]
   constructor
   ·rintro rfl; exact ⟨bl, rfl, hb, hob⟩
   ·rintro ⟨b, rfl, h1, h2⟩
    by_cases e : b = bl
    ·rw [e]
    ·rw [how' b e] at h2
     obtain ⟨q, h3, h4⟩ := hI.own b h1
     rw [h3] at h2
     have := Option.some.inj h2
     omega
  ·rw [hmem q z (by omega), hI.hs q cs h1 z]
   constructor
   ·rintro ⟨b, rfl, h2, h3⟩
    refine ⟨fun e => hne ?_, b, rfl, h2, h3⟩
    have e2 : b = bl := by omega
    rw [e2, how] at h3
    have := Option.some.inj h3
    omega
   ·exact fun h => h.2
 ·rw [hA.wt]
  rcases hHs q cs hq with ⟨rfl, rfl⟩ | ⟨_, rfl⟩ | ⟨_, _, h1⟩
  ·refine hI.wt q bs hH ?_
   have := List.length_filter_le (fun b => !(b == (bl : Int))) bs
   omega
  ·simp at hc
  ·exact hI.wt q cs h1 hc
 ·rw [hA.wt]; exact hI.wtl
 ·rw [hA.wt] at hz
  obtain ⟨q, h1, h2⟩ := hI.wtn z hz
  exact ⟨q, h1, by omega⟩
 ·have h9 := congrArg List.length hA.hs
  rw [List.length_map, List.length_append, List.length_set, List.length_map, hI.len] at h9
  rw [h9, hkl]; rfl
structure Gp where
 B : Nat
 bs : Nat
 bb : Nat
 cs : Nat
 cb : Nat
 n : Nat
 kk : Nat
 st : Int
 es : List Sy.Ed
def Gp.at (G : Gp) (w : World) (g : Nat) : Prop := Gr w G.B g G.bs G.bb G.cs G.cb G.n (G.kk : Int) G.st G.es
def hOf (s : Pst) (x : Rv) (e : Nat) : Int := x.of (s.O e)
structure RunAt (w0 w : World) (r g p mb nm : Nat) (G : Gp) (s : Pst) (x : Rv) : Prop where
 m : RnM w w0.heap.size r g p mb x
 c : ∃ c, Pt w0 w p c ∧ Lay c s
 ok : s.Ok
 bare : s.bare
 n : s.n = G.n
 i : RunI s x
 gr : G.at w0 g
 mu : w0.heap.size ≤ mb
 cnt : Cnt w mb nm (Sg.cf (Sg.tn G.es) (hOf s x))
 ksv : ∀ (o k : Nat), x.ks[o]? = some k → k = hc G.n (hOf s x) (o : Int)
theorem RunAt.below {w0 w w' : World} {r g p mb nm : Nat} {G : Gp} {s : Pst} {x : Rv} (h : RunAt w0 w r g p mb nm G s x) (hb : Below w.heap.size w w') : RunAt w0 w' r g p mb nm G s x := by
 obtain ⟨c, h1, h2⟩ := h.c
 exact ⟨h.m.below hb, ⟨c, h1.below hb, h2⟩, h.ok, h.bare, h.n, h.i, h.gr, h.mu, h.cnt.below hb, h.ksv⟩
theorem Gp.at.below {G : Gp} {w w' : World} {g : Nat} (h : G.at w g) (hb : Below w.heap.size w w') : G.at w' g := Gr.below h hb
theorem RunAt.up {w0 w : World} {r g p mb nm : Nat} {G : Gp} {s : Pst} {x : Rv} (h : RunAt w0 w r g p mb nm G s x) : Below w0.heap.size w0 w := by
 obtain ⟨c, h1, _⟩ := h.c
 exact Arr.bl h1
theorem RunAt.graph {w0 w : World} {r g p mb nm : Nat} {G : Gp} {s : Pst} {x : Rv} (h : RunAt w0 w r g p mb nm G s x) : G.at w g := h.gr.below h.up
theorem RnM.mb_foot {w : World} {B r g p mb mc nm : Nat} {x : Rv} {f : Int → Int → Int → Int} (h : RnM w B r g p mb x) (hC : Cnt w mc nm f) : ¬ x.foot mc ∧ mc ≠ r := by
 refine ⟨fun hf => ?_, hC.ne h.box⟩
 rcases hf with hf | hf
 ·obtain ⟨cs, h1⟩ := row_cells h.hp hf
  exact hC.ne h1 rfl
 ·obtain ⟨cs, h1⟩ := h.q.typed hf
  exact hC.ne h1 rfl
end Go.Proofs.YtkiapldehlnndaaGreatDoor
/- strong: while a taking splits: what stands between two splits; the function that take hands to slices.DeleteFunc. -/
namespace Go.Proofs.YtkiapldehlnndaaGreatDoor
open Go.RowKit Go.Maps
attribute [local go_sem ↓] Go.wp_at_zero Go.wp_at_succ
structure TkS (w0 wd wr : World) (r g p mb : Nat) (s s1 : Pst) (x2 x1 : Rv) (R : Nat → Prop) (Q : Nat → Nat → Prop) : Prop where
 m : RnM wr w0.heap.size r g p mb x1
 c : ∃ c, Pt w0 wr p c ∧ Lay c s1
 ok : s1.Ok
 bare : s1.bare
 n : s1.n = s.n
 i : RunI s1 x1
 of : ∀ e, e < s.n → hOf s1 x1 e = hOf s x2 e
 ks : x1.ks = x2.ks
 eq : ∀ a b, a < s.n → b < s.n → (s1.O a = s1.O b ↔ s.O a = s.O b ∧ Q a b)
 kp : Kept (fun b => b = p ∨ b = r ∨ b = mb ∨ x2.foot b ∨ R b) wd wr
 ft : ∀ b, x1.foot b → x2.foot b ∨ wd.heap.size ≤ b
theorem TkS.kept {w0 wd wr w' : World} {r g p mb : Nat} {s s1 : Pst} {x2 x1 : Rv} {R : Nat → Prop} {Q : Nat → Nat → Prop} {F : Nat → Prop} (h : TkS w0 wd wr r g p mb s s1 x2 x1 R Q) (hk : Kept F wr w') (hF : ∀ b, F b → w0.heap.size ≤ b ∧ b ≠ p ∧ b ≠ r ∧ ¬ x1.foot b ∧ (b = mb ∨ R b ∨ wd.heap.size ≤ b)) : TkS w0 wd w' r g p mb s s1 x2 x1 R Q := by
 obtain ⟨c, h1, h2⟩ := h.c
 refine ⟨h.m.kept hk (fun e => (hF r e).2.2.1 rfl) (fun b hb e => (hF b e).2.2.2.1 hb), ⟨c, h1.kept hk fun b hb => ⟨(hF b hb).1, (hF b hb).2.1⟩, h2⟩, h.ok, h.bare, h.n, h.i, h.of, h.ks, h.eq, h.kp.trans2 hk fun b hb => ?_, h.ft⟩
 rcases (hF b hb).2.2.2.2 with e | e | e
 ·exact .inl (.inr (.inr (.inl e)))
 ·exact .inl (.inr (.inr (.inr (.inr e))))
 ·exact .inr e
theorem TkS.below {w0 wd wr w' : World} {r g p mb : Nat} {s s1 : Pst} {x2 x1 : Rv} {R : Nat → Prop} {Q : Nat → Nat → Prop} (h : TkS w0 wd wr r g p mb s s1 x2 x1 R Q) (hb : Below wr.heap.size wr w') : TkS w0 wd w' r g p mb s s1 x2 x1 R Q := h.kept (F := fun _ => False) (Kept.of_below hb) fun _ h => h.elim
theorem TkS.split {w0 wd wr w' : World} {r g p mb : Nat} {s s1 s' : Pst} {x2 x1 x' : Rv} {R : Nat → Prop} {Q : Nat → Nat → Prop} {c' : Nat → Int} {l : List Nat} (h : TkS w0 wd wr r g p mb s s1 x2 x1 R Q) (hS : SpAt w0 wr w' w0.heap.size r g p mb s1 s' x1 x' c' l) : TkS w0 wd w' r g p mb s s' x2 x' R (fun a b => Q a b ∧ (a ∈ l ↔ b ∈ l)) := by
 refine ⟨hS.m, ⟨c', hS.pt, hS.lay⟩, hS.ok, hS.bare, hS.n.trans h.n, hS.i, fun e he => ?_, hS.ks.trans h.ks, fun a b ha hb => ?_, h.kp.trans2 hS.kp fun b hb => ?_, fun b hb => ?_⟩
 ·have h1 := hS.of e (by rw [h.n]; exact he)
  exact Eq.trans h1 (h.of e he)
 ·rw [hS.eq a b (by rw [h.n]; exact ha) (by rw [h.n]; exact hb), h.eq a b ha hb, and_assoc]
 ·rcases hb with e | e | e
  ·exact .inl (.inl e)
  ·exact .inl (.inr (.inl e))
  ·exact (h.ft b e).imp (fun h => .inr (.inr (.inr (.inl h)))) id
 ·rcases hS.ft b hb with h1 | h1
  ·exact h.ft b h1
  ·exact .inr (Nat.le_trans h.kp.size h1)
theorem TkS.congr {w0 wd wr : World} {r g p mb : Nat} {s s1 : Pst} {x2 x1 : Rv} {R : Nat → Prop} {Q Q' : Nat → Nat → Prop} (h : TkS w0 wd wr r g p mb s s1 x2 x1 R Q) (hQ : ∀ a b, a < s.n → b < s.n → (Q a b ↔ Q' a b)) : TkS w0 wd wr r g p mb s s1 x2 x1 R Q' :=
 ⟨h.m, h.c, h.ok, h.bare, h.n, h.i, h.of, h.ks, fun a b ha hb => by rw [h.eq a b ha hb, hQ a b ha hb], h.kp, h.ft⟩
def RowsF (w : World) (B : Nat) (us : List Value) (j kk : Nat) (E : Nat → List Int) : Prop := ∀ l, j ≤ l → l < kk → ∃ u, us[l]? = some u ∧ OwnI w B u (E l)
theorem RowsF.kept {w w' : World} {B : Nat} {us : List Value} {j kk : Nat} {E : Nat → List Int} {F : Nat → Prop} (h : RowsF w B us j kk E) (hk : Kept F w w') (hF : ∀ l u b, j ≤ l → us[l]? = some u → u.ownBlock = some b → ¬ F b) : RowsF w' B us j kk E := fun l hj hl => by
 obtain ⟨u, h1, h2⟩ := h l hj hl
 exact ⟨u, h1, own_up h2 hk fun b hb => hF l u b hj h1 hb⟩
theorem kcell3 {w w' : World} {F : Nat → Prop} {b o : Nat} {v : Value} (hk : Kept F w w') (hne : ¬ F b) (c : w.cell? ⟨b, o, none⟩ = some v) : w'.cell? ⟨b, o, none⟩ = some v := (World.cell?_of_block (a := ⟨b, o, none⟩) (hk.block b (World.block_lt_of_cell? w _ c) hne)).trans c
set_option linter.unusedSimpArgs false in
set_option maxRecDepth 100000 in
set_option maxHeartbeats 2000000 in
theorem take1_asks (rb lb sb r mb nm : Nat) (f : Int → Int → Int → Int) (l rest : Int) (zs : List Int) (v : Value) (w : World) (hr : w.cell? ⟨rb, 0, none⟩ = some (.pointer (some ⟨r, 0, none⟩))) (hl : w.cell? ⟨lb, 0, none⟩ = some (.int .i64 l)) (hs : w.cell? ⟨sb, 0, none⟩ = some (.int .i64 rest)) (hm : w.cell? ⟨r, 5, none⟩ = some (.map (some mb))) (hC : Cnt w mb nm f) (hne : ∀ b, v.ownBlock = some b → b ≠ rb ∧ b ≠ lb ∧ b ≠ sb ∧ b ≠ r ∧ b ≠ mb) (h1 : Sml l) (h2 : Sml rest) (h3 : ∀ z ∈ zs, Sml z) :
 Asks 117 #[.pointer (some ⟨rb, 0, none⟩), .pointer (some ⟨lb, 0, none⟩), .pointer (some ⟨sb, 0, none⟩)] (fun z => decide (0 < f z l rest)) zs fun W => Kept (fun b => v.ownBlock = some b) w W := fun z W hz hk => by
 have c0 := kcell3 hk (fun e => (hne _ e).1 rfl) hr
 have c1 := kcell3 hk (fun e => (hne _ e).2.1 rfl) hl
 have c2 := kcell3 hk (fun e => (hne _ e).2.2.1 rfl) hs
 have c3 := kcell3 hk (fun e => (hne _ e).2.2.2.1 rfl) hm
 have hL := ((hC.kept hk (fun e => (hne _ e).2.2.2.2 rfl)).at (w' := W.drew) rfl).look (h3 z hz) h1 h2
 unfold inV at hL
 have hL1 := hL.1
 obtain ⟨y, hy⟩ : ∃ y, y = f z l rest := ⟨_, rfl⟩
 rw [← hy] at hL1
 have HY : Hid _ := hy
 obtain ⟨d, hd⟩ : ∃ d, d = decide (0 < y) := ⟨_, rfl⟩
 have q1 := hd.symm
 have HD : Hid _ := hd
 clear hr hl hs hm hC hne h1 h2 h3 hk hL hz hy hd
 show Calls Tryz.prog 117 #[.int .i64 z, .pointer (some ⟨rb, 0, none⟩), .pointer (some ⟨lb, 0, none⟩), .pointer (some ⟨sb, 0, none⟩)] W _
 go_enter Tryz.func117, Tryz.ntmps117
 go_upto_region 1 with fail
 refine wp_region_held_drew (S := (fun w' => w'.cell? ⟨rb, 0, none⟩ = some (.pointer (some ⟨r, 0, none⟩)) ∧ w'.cell? ⟨lb, 0, none⟩ = some (.int .i64 l) ∧ w'.cell? ⟨sb, 0, none⟩ = some (.int .i64 rest) ∧ w'.cell? ⟨r, 5, none⟩ = some (.map (some mb)))) (by kernel_rfl) ?_ (fun hHeld => ?_)
 ·exact ⟨c0, c1, c2, c3⟩
 refine tk9 0 ?_ rfl (by kernel_rfl) (fun _ _ _ h => h) ⟨by rfl, ?_⟩ (by assumption) ?_; rotate_left; (focus (intro w hSw; (try dsimp only at hSw); go_simp; (try with_reducible rfl))); (try simp only [ty9, Act.put])
 refine tk9 1 ?_ rfl (by kernel_rfl) (fun _ _ _ h => h) ⟨by rfl, ?_⟩ (by assumption) ?_; rotate_left; (focus (intro w hSw; (try dsimp only at hSw); go_simp; (try with_reducible rfl))); (try simp only [ty9, Act.put])
 refine tk9 2 ?_ rfl (by kernel_rfl) (fun _ _ _ h => h) ⟨by rfl, ?_⟩ (by assumption) ?_; rotate_left; (focus (intro w hSw; (try dsimp only at hSw); go_simp; (try with_reducible rfl))); (try simp only [ty9, Act.put])
 refine tk9 3 ?_ rfl (by kernel_rfl) (fun _ _ _ h => h) ⟨by rfl, ?_⟩ (by assumption) ?_; rotate_left; (focus (intro w hSw; (try dsimp only at hSw); go_simp; (try with_reducible rfl))); (try simp only [ty9, Act.put])
 refine tk9 4 ?_ rfl (by kernel_rfl) (fun _ _ _ h => h) ⟨by rfl, ?_⟩ (by assumption) ?_; rotate_left; (focus (intro w hSw; (try dsimp only at hSw); go_simp; (try with_reducible rfl))); (try simp only [ty9, Act.put])
 refine tk9 5 ?_ rfl (by kernel_rfl) (fun _ _ _ h => h) ⟨by rfl, ?_⟩ (by assumption) ?_; rotate_left; (focus (intro w hSw; (try dsimp only at hSw); go_simp; (try with_reducible rfl))); (try simp only [ty9, Act.put])
 refine tk9 6 ?_ rfl (by kernel_rfl) (fun _ _ _ h => h) ⟨by rfl, ?_⟩ (by assumption) ?_; rotate_left; (focus (intro w hSw; (try dsimp only at hSw); go_simp; (try with_reducible rfl))); (try simp only [ty9, Act.put])
 refine tk9 7 ?_ rfl (by kernel_rfl) (fun _ _ _ h => h) ⟨by rfl, ?_⟩ (by assumption) ?_; rotate_left; (focus (intro w hSw; (try dsimp only at hSw); go_simp; (try with_reducible rfl))); (try simp only [ty9, Act.put])
 refine wpAnyH_ready (rs := [8]) (by kernel_rfl) (by simp) ?_
 refine AllReadyH.cons (o := _) rfl (fun K hK => ?_) ?_
 ·(go_simp)
  (try go_wp2_with fail)
  refine hK.out _ _ ?_ (fun hHeld => ?_)
  ·exact hHeld
  clear hK K
  (try simp only [ty9, Act.put])
  refine tk9 9 ?_ rfl (by kernel_rfl) (fun _ _ _ h => h) ⟨by rfl, ?_⟩ (by assumption) ?_; rotate_left; (focus (intro w hSw; (try dsimp only at hSw); go_simp; (try with_reducible rfl))); (try simp only [ty9, Act.put])
  refine tk9 10 ?_ rfl (by kernel_rfl) (fun _ _ _ h => h) ⟨by rfl, ?_⟩ (by assumption) ?_; rotate_left; (focus (intro w hSw; (try dsimp only at hSw); go_simp; (try with_reducible rfl))); (try simp only [ty9, Act.put])
  refine wpAnyH_done (by kernel_rfl) ?_ _
  (try go_simp)
  clear hHeld
  go_wp2_with fail
  go_ret
  exact ⟨by rw [← HY.out, ← HD.out]; (try rfl), (Below.refl _ _).drew⟩
 exact AllReadyH.nil
end Go.Proofs.YtkiapldehlnndaaGreatDoor
/- strong: plain facts on a taking: the counts step by step, the sources as lists of states, what all splits together make. -/
namespace Go.Proofs.YtkiapldehlnndaaGreatDoor
open Go.RowKit Go.Maps
namespace Sg
theorem withC_step {f : Int → Int → Int → Int} {rest own : Int} {E : Nat → List Int} {j i : Nat} {z : Int} (hne : rest ≠ own) (h : (E j)[i]? = some z) (p b q : Int) :
 updC (updC (withC f rest own (gAt E j i)) z (j : Int) rest (withC f rest own (gAt E j i) z (j : Int) rest - 1)) z (j : Int) own (withC f rest own (gAt E j i) z (j : Int) own + 1) p b q = withC f rest own (gAt E j (i + 1)) p b q := by
 unfold updC
 by_cases hb : b = (j : Int)
 ·subst hb
  unfold withC
  rw [gAt_step E j i h]
  simp only [List.count_append, List.count_singleton]
  by_cases hp : p = z
  ·subst hp
   by_cases h1 : q = rest
   ·subst h1
    simp [hne]; omega
   ·by_cases h2 : q = own
    ·subst h2
     simp; omega
    ·simp [h1, h2]
  ·have hp2 : (z == p) = false := by simp; exact fun e => hp e.symm
   simp [hp, hp2]
 ·unfold withC
  rw [gAt_other E j i hb]
  simp [hb]
theorem gAt_len {E : Nat → List Int} {c : Nat} (h : ∀ l, (E l).length ≤ c) (j i : Nat) (b : Int) : (gAt E j i b).length ≤ c := by
 unfold gAt
 split
 ·exact h _
 ·split
  ·rw [List.length_take]; have := h j; omega
  ·exact Nat.zero_le _
theorem withC_le {f : Int → Int → Int → Int} {rest own : Int} {Gf : Int → List Int} {c : Nat} (hf : ∀ p b q, 0 ≤ f p b q ∧ f p b q ≤ (c : Int)) (hG : ∀ b, (Gf b).length ≤ c) (p b q : Int) : -(c : Int) ≤ withC f rest own Gf p b q ∧ withC f rest own Gf p b q ≤ 2 * (c : Int) := by
 have h1 := hf p b q
 have h2 := hG b
 have h3 := List.count_le_length (a := p) (l := Gf b)
 unfold withC
 split
 ·omega
 ·split <;> omega
theorem cf_le {T : List Sy.Ed} {c : Nat} (h : T.length ≤ c) (H : Nat → Int) (p b q : Int) : 0 ≤ cf T H p b q ∧ cf T H p b q ≤ (c : Int) := by
 unfold cf
 have := cn_le T (fun t => H t.toNat == q) p b
 omega
def srcE (G : Gp) (s : Pst) (bl l : Nat) : List Int := ends (inAll (insOf G.n G.es) (s.mem bl)) (l : Int)
def srcN (G : Gp) (s : Pst) (bl l : Nat) : List Nat := (srcE G s bl l).map Int.toNat
theorem tn_right {G : Gp} (h : Sy.right G.n (G.kk : Int) G.st G.es = true) : ∀ e ∈ tn G.es, (0 ≤ e.1 ∧ e.1 < (G.n : Int)) ∧ (0 ≤ e.2.1 ∧ e.2.1 < (G.kk : Int)) ∧ (0 ≤ e.2.2 ∧ e.2.2 < (G.n : Int)) := fun e he => by
 have h1 := (right_parts h).2.2.2.2.2 _ ((Sy.nf_mem _ _).1 (tn_mem.1 he))
 simp only [Sy.turn] at h1
 exact ⟨⟨h1.2.2.1, h1.2.2.2.1⟩, ⟨h1.2.2.2.2.1, h1.2.2.2.2.2⟩, ⟨h1.1, h1.2.1⟩⟩
theorem tn_len {G : Gp} (h : Sy.right G.n (G.kk : Int) G.st G.es = true) : (tn G.es).length ≤ 10000 := by
 have h1 := (right_parts h).2.2.1
 have h2 := Sy.nf_len G.es
 have h3 := nf_turn_len G.es
 unfold tn
 omega
theorem mem_small {s : Pst} {bl : Nat} : ∀ q ∈ s.mem bl, 0 ≤ q ∧ q < (s.n : Int) := fun q hq => by
 obtain ⟨e, h1, _, rfl⟩ := mem_mem.1 hq
 omega
theorem srcE_count {G : Gp} {s : Pst} {bl : Nat} (hr : Sy.right G.n (G.kk : Int) G.st G.es = true) (hn : s.n = G.n) (l : Nat) (p : Int) : (srcE G s bl l).count p = cn (tn G.es) (fun t => decide (s.O t.toNat = bl)) p (l : Int) := by
 unfold srcE
 have h1 : insOf G.n G.es = Sy.rowOf G.n (tn G.es) := rfl
 rw [h1, count_ends (fun q hq => by have := mem_small q hq; omega) (mem_nodup s bl)]
 refine cn_congr (fun e he => ?_) p _
 have h2 := (tn_right hr e he).1
 refine decide_eq_decide.2 ?_
 rw [mem_mem]
 constructor
 ·rintro ⟨a, h3, h4, h5⟩
  rw [h5]; exact h4
 ·intro h3
  exact ⟨e.1.toNat, by omega, h3, by omega⟩
theorem srcE_len {G : Gp} {s : Pst} {bl : Nat} (hr : Sy.right G.n (G.kk : Int) G.st G.es = true) (l : Nat) : (srcE G s bl l).length ≤ 10000 := by
 have h1 := ends_len (inAll (insOf G.n G.es) (s.mem bl)) (l : Int)
 have h2 : insOf G.n G.es = Sy.rowOf G.n (tn G.es) := rfl
 have h3 := inAll_le (T := tn G.es) (n := G.n) (mem_nodup s bl)
 have h4 := tn_len hr
 rw [← h2] at h3
 unfold srcE
 omega
theorem srcE_mem {G : Gp} {s : Pst} {bl : Nat} (hr : Sy.right G.n (G.kk : Int) G.st G.es = true) (hn : s.n = G.n) {l : Nat} {z : Int} (h : z ∈ srcE G s bl l) : 0 ≤ z ∧ z < (G.n : Int) := by
 have h1 := List.count_pos_iff.2 h
 rw [srcE_count hr hn, cn_pos] at h1
 obtain ⟨e, he, _, _, rfl⟩ := h1
 exact (tn_right hr e he).2.2
theorem srcN_nat {G : Gp} {s : Pst} {bl : Nat} (hr : Sy.right G.n (G.kk : Int) G.st G.es = true) (hn : s.n = G.n) (l : Nat) : natI (srcN G s bl l) = srcE G s bl l := by
 unfold natI srcN
 rw [List.map_map]
 conv => rhs; rw [← List.map_id (srcE G s bl l)]
 refine List.map_congr_left fun z hz => ?_
 have := srcE_mem hr hn hz
 show ((z.toNat : Nat) : Int) = z
 omega
def outG (G : Gp) (i : Nat) : List (Int × Int) := Sy.rowOf G.n (Sy.nf G.es) (i : Int)
theorem srcN_mem {G : Gp} {s : Pst} {bl : Nat} (hr : Sy.right G.n (G.kk : Int) G.st G.es = true) (hn : s.n = G.n) {l a : Nat} (ha : a < G.n) : a ∈ srcN G s bl l ↔ into (outG G) (fun t => s.O t = bl) (l : Int) a := by
 have h1 : a ∈ srcN G s bl l ↔ (a : Int) ∈ srcE G s bl l := by
  rw [← srcN_nat hr hn]
  unfold natI
  rw [List.mem_map]
  exact ⟨fun h => ⟨a, h, rfl⟩, fun ⟨b, h, e⟩ => by rw [← Int.ofNat_inj.1 e]; exact h⟩
 rw [h1, ← List.count_pos_iff, srcE_count hr hn]
 have h2 := into_cn (n := G.n) (es := G.es) (X := fun t => decide (s.O t = bl)) ha (l : Int)
 rw [← h2]
 unfold into outG
 simp only [decide_eq_true_eq]
def srcF (G : Gp) (s : Pst) (bl : Nat) (F : Int → Int → Int → Int) (o : Int) (l : Nat) : List Nat := (srcN G s bl l).filter fun a => !decide (0 < F (a : Int) (l : Int) o)
theorem srcF_nat {G : Gp} {s : Pst} {bl : Nat} {F : Int → Int → Int → Int} {o : Int} (hr : Sy.right G.n (G.kk : Int) G.st G.es = true) (hn : s.n = G.n) (l : Nat) : natI (srcF G s bl F o l) = (srcE G s bl l).filter fun z => !decide (0 < F z (l : Int) o) := by
 rw [← srcN_nat hr hn]
 unfold srcF natI
 rw [List.filter_map]
 rfl
end Sg
structure TakeAt (w w' : World) (r p mb nm nm' : Nat) (G : Gp) (s s' : Pst) (x x' : Rv) (bl : Nat) : Prop where
 nm : nm' ≤ nm + 10000000
 ks : x'.ks.length = x.ks.length + 1
 hp : ∀ e, e < s.n → hOf s' x' e = if s.O e = bl then (x.ks.length : Int) else hOf s x e
 sp : Sg.Split s.n (Sg.By (Sg.outG G) (fun t => s.O t = bl) fun t => hOf s x t = x.of bl ∧ ¬ s.O t = bl) s.O s'.O
 kp : Kept (fun b => b = p ∨ b = r ∨ b = mb ∨ x.foot b) w w'
 ft : ∀ b, x'.foot b → x.foot b ∨ w.heap.size ≤ b
def Sg.Qj (G : Gp) (s : Pst) (bl : Nat) (F : Int → Int → Int → Int) (o : Int) (j a b : Nat) : Prop := ∀ l, l < j → (a ∈ Sg.srcN G s bl l ↔ b ∈ Sg.srcN G s bl l) ∧ (a ∈ Sg.srcF G s bl F o l ↔ b ∈ Sg.srcF G s bl F o l)
theorem Sg.Qj_next (G : Gp) (s : Pst) (bl : Nat) (F : Int → Int → Int → Int) (o : Int) (j a b : Nat) : Sg.Qj G s bl F o (j + 1) a b ↔ (Sg.Qj G s bl F o j a b ∧ (a ∈ Sg.srcN G s bl j ↔ b ∈ Sg.srcN G s bl j)) ∧ (a ∈ Sg.srcF G s bl F o j ↔ b ∈ Sg.srcF G s bl F o j) := by
 constructor
 ·intro h
  exact ⟨⟨fun l hl => h l (by omega), (h j (by omega)).1⟩, (h j (by omega)).2⟩
 ·rintro ⟨⟨h1, h2⟩, h3⟩ l hl
  by_cases e : l = j
  ·subst e; exact ⟨h2, h3⟩
  ·exact h1 l (by omega)
theorem Sg.final {f : Int → Int → Int → Int} {rest own : Int} (E : Nat → List Int) {l j : Nat} (h : l < j) (z q : Int) : Sg.withC f rest own (Sg.gAt E j 0) z (l : Int) q = Sg.withC f rest own (Sg.gAt E (l + 1) 0) z (l : Int) q := by
 have h1 : Sg.gAt E j 0 (l : Int) = Sg.gAt E (l + 1) 0 (l : Int) := by
  unfold Sg.gAt
  rw [if_pos (show 0 ≤ (l : Int) ∧ (l : Int) < (j : Int) by omega), if_pos (show 0 ≤ (l : Int) ∧ (l : Int) < ((l + 1 : Nat) : Int) by omega)]
 unfold Sg.withC
 rw [h1]
theorem take_done {w0 w wb wc wd wr : World} {r g p mb nm nm' bl o k : Nat} {G : Gp} {s s1 : Pst} {x x2 x1 : Rv} {bs : List Int} {R : Nat → Prop} (hR : RunAt w0 w r g p mb nm G s x) (hb : bl < s.nb) (how : x.ow[bl]? = some (o : Int)) (hol : o < x.ks.length) (hks : x.ks[o]? = some k)
 (hA : LiftAt wb wc w0.heap.size r g p mb x x2 bl o k (s.mem bl).length bs) (hw1 : Below w.heap.size w wb) (hw2 : Below wc.heap.size wc wd) (hRb : ∀ b, R b → w.heap.size ≤ b)
 (hT : TkS w0 wd wr r g p mb s s1 x2 x1 R (Sg.Qj G s bl (Sg.withC (Sg.cf (Sg.tn G.es) (hOf s x)) (o : Int) (x.ks.length : Int) (Sg.gAt (Sg.srcE G s bl) G.kk 0)) (o : Int) G.kk)) (hC : Cnt wr mb nm' (Sg.withC (Sg.cf (Sg.tn G.es) (hOf s x)) (o : Int) (x.ks.length : Int) (Sg.gAt (Sg.srcE G s bl) G.kk 0))) (hnm : nm' ≤ nm + 10000000) :
 RunAt w0 wr r g p mb nm' G s1 x1 ∧ TakeAt w wr r p mb nm nm' G s s1 x x1 bl := by
 have hr : Sy.right G.n (G.kk : Int) G.st G.es = true := hR.gr.right
 have hn := hR.n
 have hofb : x.of bl = (o : Int) := by unfold Rv.of; rw [how]; rfl
 have hH2 : ∀ e, e < s.n → hOf s1 x1 e = if s.O e = bl then (x.ks.length : Int) else hOf s x e := fun e he => by
  rw [hT.of e he]
  exact lift_of hA hR.i hb (s.O e)
 have hnew : ∀ e, e < s.n → hOf s x e ≠ (x.ks.length : Int) := fun e he h => by
  obtain ⟨q, h1, h2⟩ := hR.i.own (s.O e) (hR.ok.o e he).1
  unfold hOf Rv.of at h
  rw [h1] at h
  simp only [Option.getD_some] at h
  omega
 have hBo : ∀ e, s.O e = bl → hOf s x e = (o : Int) := fun e he => by unfold hOf; rw [he]; exact hofb
 have hne : (o : Int) ≠ (x.ks.length : Int) := by omega
 have hcf : ∀ p b q, Sg.withC (Sg.cf (Sg.tn G.es) (hOf s x)) (o : Int) (x.ks.length : Int) (Sg.gAt (Sg.srcE G s bl) G.kk 0) p b q = Sg.cf (Sg.tn G.es) (hOf s1 x1) p b q := fun p b q => by
  refine (Sg.cf_take (X := fun e => decide (s.O e = bl)) hne (fun e _ hx => hBo _ (of_decide_eq_true hx)) (fun e he => ?_) (fun e he => ?_) ?_ q).symm
  ·have h1 := (Sg.tn_right hr e he).1
   rw [hH2 _ (by omega)]
   simp only [decide_eq_true_eq]
  ·have h1 := (Sg.tn_right hr e he).1
   exact hnew _ (by omega)
  ·unfold Sg.gAt
   by_cases h1 : 0 ≤ b ∧ b < (G.kk : Int)
   ·rw [if_pos h1, Sg.srcE_count hr hn, show ((b.toNat : Nat) : Int) = b by omega]
   ·rw [if_neg h1]
    have h2 : Sg.cn (Sg.tn G.es) (fun t => decide (s.O t.toNat = bl)) p b = 0 := by
     refine Nat.eq_zero_of_not_pos fun h3 => ?_
     obtain ⟨e, he, _, h4, _⟩ := Sg.cn_pos.1 h3
     have := (Sg.tn_right hr e he).2.1
     omega
    rw [h2]
    split <;> simp
 have hks2 : x1.ks = x.ks.set o (k - (s.mem bl).length) ++ [(s.mem bl).length] := by rw [hT.ks, hA.ks]
 have hB : (s.mem bl).length = (List.range G.n).countP fun e => decide (s.O e = bl) := by rw [mem_count, hn]
 have hcnt : ∀ q : Int, hc G.n (hOf s1 x1) q = (List.range G.n).countP fun e => (if s.O e = bl then (x.ks.length : Int) else hOf s x e) == q := fun q => by
  unfold hc
  refine List.countP_congr fun e he => ?_
  rw [hH2 e (by rw [hn]; exact List.mem_range.1 he)]
 refine ⟨⟨hT.m, hT.c, hT.ok, hT.bare, hT.n.trans hn, hT.i, hR.gr, hR.mu, hC.congr hcf, fun q k' hq => ?_⟩, ⟨hnm, ?_, hH2, ?_, ?_, ?_⟩⟩
 ·rw [hcnt]
  rw [hks2] at hq
  rcases Nat.lt_or_ge q x.ks.length with h1 | h1
  ·rw [List.getElem?_append_left (by rw [List.length_set]; exact h1)] at hq
   by_cases e : q = o
   ·subst e
    rw [List.getElem?_set_self h1] at hq
    have h2 := Option.some.inj hq
    have h3 := hR.ksv q k hks
    have h4 : hc G.n (hOf s x) (q : Int) = ((List.range G.n).countP fun e => (if s.O e = bl then (x.ks.length : Int) else hOf s x e) == (q : Int)) + (List.range G.n).countP fun e => decide (s.O e = bl) := countP_add fun e _ => by
     by_cases h5 : s.O e = bl
     ·rw [hBo e h5]
      simp [h5]; omega
     ·simp [h5]
    omega
   ·rw [List.getElem?_set_ne (fun e2 => e e2.symm)] at hq
    rw [hR.ksv q k' hq]
    unfold hc
    refine List.countP_congr fun e he => ?_
    by_cases h5 : s.O e = bl
    ·rw [hBo e h5, if_pos h5]
     simp; omega
    ·rw [if_neg h5]
  ·rw [List.getElem?_append_right (by rw [List.length_set]; exact h1), List.length_set] at hq
   have h2 := (List.getElem?_eq_some_iff.1 hq).1
   simp only [List.length_cons, List.length_nil] at h2
   have h3 : q = x.ks.length := by omega
   rw [h3, Nat.sub_self] at hq
   have h4 := Option.some.inj hq
   rw [← h4, hB, h3]
   refine List.countP_congr fun e he => ?_
   by_cases h5 : s.O e = bl
   ·simp [h5]
   ·have := hnew e (by rw [hn]; exact List.mem_range.1 he)
    simp [h5, this]
 ·rw [hks2, List.length_append, List.length_set]; rfl
 ·intro a b ha hb2
  rw [hT.eq a b ha hb2]
  refine and_congr_right fun _ => ?_
  rw [hn] at ha hb2
  have hY : ∀ (c : Nat) (l : Nat), c < G.n → l < G.kk → (c ∈ Sg.srcF G s bl (Sg.withC (Sg.cf (Sg.tn G.es) (hOf s x)) (o : Int) (x.ks.length : Int) (Sg.gAt (Sg.srcE G s bl) G.kk 0)) (o : Int) l ↔ (Sg.into (Sg.outG G) (fun t => s.O t = bl) (l : Int) c ∧ ¬ Sg.into (Sg.outG G) (fun t => hOf s x t = x.of bl ∧ ¬ s.O t = bl) (l : Int) c)) := fun c l hc hl => by
   unfold Sg.srcF
   rw [List.mem_filter, Sg.srcN_mem hr hn hc, hcf]
   refine and_congr_right fun _ => ?_
   rw [Bool.not_eq_true', decide_eq_false_iff_not]
   refine not_congr ?_
   unfold Sg.cf
   have h1 := Sg.into_cn (n := G.n) (es := G.es) (X := fun t => hOf s1 x1 t == (o : Int)) hc (l : Int)
   rw [show (0 : Int) < ((Sg.cn (Sg.tn G.es) (fun t => hOf s1 x1 t.toNat == (o : Int)) (c : Int) (l : Int) : Nat) : Int) ↔ 0 < Sg.cn (Sg.tn G.es) (fun t => hOf s1 x1 t.toNat == (o : Int)) (c : Int) (l : Int) by omega, ← h1]
   have hf : Sg.Fits G.n (Sg.outG G) := fun p hp z hz => by
    unfold Sg.outG Sy.rowOf at hz
    rw [if_pos ⟨by omega, by omega⟩] at hz
    have h2 := (right_parts hr).2.2.2.2.2 _ ((Sy.nf_mem _ _).1 (Sy.steps_mem.1 hz))
    simp only at h2
    exact ⟨h2.2.2.1, h2.2.2.2.1⟩
   refine Sg.into_congr hf (fun t ht => ?_) hc
   rw [hH2 t (by rw [hn]; exact ht), hofb]
   by_cases h5 : s.O t = bl
   ·rw [if_pos h5]
    simp [h5]; omega
   ·rw [if_neg h5]
    simp [h5]
  constructor
  ·intro hQ X hX
   obtain ⟨l, hX⟩ := hX
   by_cases hl : 0 ≤ l ∧ l < (G.kk : Int)
   ·obtain ⟨lN, rfl⟩ : ∃ lN : Nat, l = lN := ⟨l.toNat, by omega⟩
    have h1 := hQ lN (by omega)
    rcases hX with rfl | rfl
    ·rw [← Sg.srcN_mem hr hn ha, ← Sg.srcN_mem hr hn hb2]; exact h1.1
    ·have h2 := h1.2
     rw [hY a lN ha (by omega), hY b lN hb2 (by omega)] at h2
     exact h2
   ·have hno : ∀ (Z : Nat → Prop) (c : Nat), c < G.n → ¬ Sg.into (Sg.outG G) Z l c := fun Z c hc ⟨z, hz, h1, _⟩ => by
     unfold Sg.outG Sy.rowOf at hz
     rw [if_pos ⟨by omega, by omega⟩] at hz
     have h2 := (right_parts hr).2.2.2.2.2 _ ((Sy.nf_mem _ _).1 (Sy.steps_mem.1 hz))
     simp only at h2
     omega
    rcases hX with rfl | rfl
    ·exact ⟨fun h => absurd h (hno _ a ha), fun h => absurd h (hno _ b hb2)⟩
    ·exact ⟨fun h => absurd h.1 (hno _ a ha), fun h => absurd h.1 (hno _ b hb2)⟩
  ·intro h l hl
   refine ⟨?_, ?_⟩
   ·rw [Sg.srcN_mem hr hn ha, Sg.srcN_mem hr hn hb2]
    exact h _ ⟨(l : Int), .inl rfl⟩
   ·rw [hY a l ha hl, hY b l hb2 hl]
    exact h _ ⟨(l : Int), .inr rfl⟩
 ·have h1 : Kept (fun b => b = p ∨ b = r ∨ b = mb ∨ x.foot b) w wc := (Kept.of_below hw1).trans2 hA.gw.kp fun b hb => .inl (hb.elim (fun e => .inr (.inl e)) fun e => .inr (.inr (.inr e)))
  refine (h1.trans (Kept.of_below hw2)).trans2 hT.kp fun b hb => ?_
  rcases hb with e | e | e | e | e
  ·exact .inl (.inl e)
  ·exact .inl (.inr (.inl e))
  ·exact .inl (.inr (.inr (.inl e)))
  ·rcases hA.gw.ft b e with h2 | h2
   ·exact .inl (.inr (.inr (.inr h2)))
   ·exact .inr (Nat.le_trans hw1.size h2)
  ·exact .inr (hRb b e)
 ·intro b hb2
  rcases hT.ft b hb2 with h1 | h1
  ·rcases hA.gw.ft b h1 with h2 | h2
   ·exact .inl h2
   ·exact .inr (Nat.le_trans hw1.size h2)
  ·exact .inr (Nat.le_trans hw1.size (Nat.le_trans hA.gw.kp.size (Nat.le_trans hw2.size h1)))
end Go.Proofs.YtkiapldehlnndaaGreatDoor
/- What a run of takings makes of blocks and heaps: plain facts, by induction over the takings. Nothing of the program is in it. -/
namespace Go.Proofs.YtkiapldehlnndaaGreatDoor.Sg
open Ro
def EvenI (n : Nat) (out : Nat → List St) (O : Nat → Nat) (H : Nat → Int) : Prop := ∀ p q, p < n → q < n → O p = O q → ∀ b k, into out (fun t => H t = k) b p → into out (fun t => H t = k) b q
theorem take_evenI {n : Nat} {out : Nat → List St} {O O' : Nat → Nat} {H H' : Nat → Int} (hf : Fits n out) {h0 own : Int} {B : Nat → Prop}
 (hB : ∀ t, t < n → B t → H t = h0) (hH' : ∀ t, t < n → (H' t = own ↔ B t)) (hO' : ∀ t, t < n → ¬ B t → H' t = H t) (hne : h0 ≠ own) (hnew : ∀ t, t < n → H t ≠ own)
 (hE : EvenI n out O H ∨ ∀ t, t < n → B t) (hS : Split n (By out B fun t => H t = h0 ∧ ¬ B t) O O') : EvenI n out O' H' := by
 intro p q hp hq e b k hk
 obtain ⟨e0, hX⟩ := (hS p q hp hq).1 e
 have hA : into out B b p ↔ into out B b q := hX _ ⟨b, .inl rfl⟩
 have hC : (into out B b p ∧ ¬ into out (fun t => H t = h0 ∧ ¬ B t) b p) ↔ (into out B b q ∧ ¬ into out (fun t => H t = h0 ∧ ¬ B t) b q) := hX _ ⟨b, .inr rfl⟩
 by_cases h1 : k = own
 ·subst h1
  exact (into_congr hf hH' hq).2 (hA.1 ((into_congr hf hH' hp).1 hk))
 ·rcases hE with hE | hall
  ·by_cases h2 : k = h0
   ·subst h2
    have key : ∀ t, t < n → (H' t = k ↔ H t = k ∧ ¬ B t) := fun t ht => by
     constructor
     ·intro h
      have hb : ¬ B t := fun hb => by have := (hH' t ht).2 hb; omega
      exact ⟨by rw [← hO' t ht hb]; exact h, hb⟩
     ·rintro ⟨h, hb⟩
      rw [hO' t ht hb]; exact h
    rw [into_congr hf key hp] at hk
    rw [into_congr hf key hq]
    by_cases hb : into out B b p
    ·by_cases hz : into out (fun t => H t = k ∧ ¬ B t) b q
     ·exact hz
     ·exact absurd hk (hC.2 ⟨hA.1 hb, hz⟩).2
    ·have hz : into out (fun t => H t = k) b p := by
      obtain ⟨z, h3, h4, h5⟩ := hk
      exact ⟨z, h3, h4, h5.1⟩
     obtain ⟨z, h3, h4, h5⟩ := hE p q hp hq e0 b k hz
     by_cases h6 : B z.2.toNat
     ·exact absurd (hA.2 ⟨z, h3, h4, h6⟩) hb
     ·exact ⟨z, h3, h4, h5, h6⟩
   ·have key : ∀ t, t < n → (H' t = k ↔ H t = k) := fun t ht => by
     by_cases hb : B t
     ·have h3 := (hH' t ht).2 hb
      have h4 := hB t ht hb
      constructor <;> intro h <;> omega
     ·rw [hO' t ht hb]
    rw [into_congr hf key hp] at hk
    rw [into_congr hf key hq]
    exact hE p q hp hq e0 b k hk
  ·obtain ⟨z, h3, h4, h5⟩ := hk
   have ht : z.2.toNat < n := by have := hf p hp z h3; omega
   have := (hH' _ ht).2 (hall _ ht)
   exact absurd (h5.symm.trans this) h1
theorem take_coarseI {n : Nat} {out : Nat → List St} {R : Nat} {O O' : Nat → Nat} {H : Nat → Int} (hn : n ≤ 1000) (hf : Fits n out) (hR : Last n out R) {B : Nat → Prop} {h0 : Int} (hB : Sat n (rnd n out R) B) (hH : Sat n (rnd n out R) fun t => H t = h0) (hc : Coarse n (rnd n out R) O) (hS : Split n (By out B fun t => H t = h0 ∧ ¬ B t) O O') : Coarse n (rnd n out R) O' := by
 refine hS.coarse hc ?_
 rintro X ⟨b, rfl | rfl⟩
 ·exact last_into hn hf hR hB b
 ·exact (last_into hn hf hR hB b).and (last_into hn hf hR (hH.and hB.not) b).not
theorem even_stableI {n : Nat} {out : Nat → List St} {O : Nat → Nat} {H : Nat → Int} (hf : Fits n out) (hE : EvenI n out O H) (h1 : ∀ p q, p < n → q < n → (O p = O q ↔ H p = H q)) : Stable n out O := by
 intro p q hp hq e b B ⟨z, h2, h3, h4⟩
 have ht : z.2.toNat < n := by have := hf p hp z h2; omega
 obtain ⟨z', h5, h6, h7⟩ := hE p q hp hq e b (H z.2.toNat) ⟨z, h2, h3, rfl⟩
 have ht' : z'.2.toNat < n := by have := hf q hq z' h5; omega
 exact ⟨z', h5, h6, by rw [← h4]; exact (h1 _ _ ht' ht).2 h7⟩
theorem nodup_sub {α : Type} [DecidableEq α] : ∀ (l m : List α), l.Nodup → (∀ a ∈ l, a ∈ m) → l.length ≤ m.length
 | [], _, _, _ => Nat.zero_le _
 | a :: r, m, hd, h => by
   obtain ⟨h1, h2⟩ := List.nodup_cons.1 hd
   have h3 := nodup_sub r (m.erase a) h2 fun b hb => by
    refine (List.mem_erase_of_ne ?_).2 (h b (List.mem_cons_of_mem _ hb))
    rintro rfl
    exact h1 hb
   have h4 := List.length_erase_of_mem (h a List.mem_cons_self)
   have h5 : 0 < m.length := List.length_pos_of_mem (h a List.mem_cons_self)
   rw [List.length_cons]
   omega
def memb (n : Nat) (O : Nat → Nat) (bl : Nat) : List Int := ((List.range n).filter fun e => decide (O e = bl)).map fun e : Nat => (e : Int)
def bc (n : Nat) (O : Nat → Nat) (bl : Nat) : Nat := (List.range n).countP fun e => decide (O e = bl)
inductive Hist (G : Gp) : List (List Int) → (Nat → Nat) → (Nat → Int) → Nat → Prop
 | nil : Hist G [] (fun _ => 0) (fun _ => 0) 1
 | step {tk : List (List Int)} {O O' : Nat → Nat} {H H' : Nat → Int} {h : Nat} (e0 : Nat) (hh : Hist G tk O H h) (he : e0 < G.n) (half : H e0 = 0 ∨ 2 * bc G.n O (O e0) ≤ hc G.n H (H e0))
    (sp : Split G.n (By (outG G) (fun t => O t = O e0) fun t => H t = H e0 ∧ ¬ O t = O e0) O O') (hp : ∀ e, e < G.n → H' e = if O e = O e0 then (h : Int) else H e) : Hist G (tk ++ [memb G.n O (O e0)]) O' H' (h + 1)
structure HistI (G : Gp) (tk : List (List Int)) (O : Nat → Nat) (H : Nat → Int) (h : Nat) : Prop where
 len : h = tk.length + 1
 first : tk = [] → (∀ e, e < G.n → O e = 0 ∧ H e = 0)
 rng : ∀ e, e < G.n → (0 ≤ H e ∧ H e < (h : Int)) ∧ (tk ≠ [] → 1 ≤ H e)
 fn : ∀ a b, a < G.n → b < G.n → O a = O b → H a = H b
 full : ∀ o : Nat, 1 ≤ o → o < h → ∃ e, e < G.n ∧ H e = (o : Int)
 one : tk ≠ [] → 0 < G.n
theorem exists_not {n : Nat} {p q : Nat → Bool} (h1 : (List.range n).countP p < (List.range n).countP q) : ∃ e, e < n ∧ q e = true ∧ p e = false := by
 refine Classical.byContradiction fun hn => ?_
 have h2 : (List.range n).countP q ≤ (List.range n).countP p := List.countP_mono_left fun e he hq => by
  cases hp : p e with
  | true => rfl
  | false => exact absurd ⟨e, List.mem_range.1 he, hq, hp⟩ hn
 omega
theorem Hist.inv {G : Gp} {tk : List (List Int)} {O : Nat → Nat} {H : Nat → Int} {h : Nat} (hh : Hist G tk O H h) : HistI G tk O H h := by
 induction hh with
 | nil => exact ⟨rfl, fun _ _ _ => ⟨rfl, rfl⟩, fun e _ => ⟨⟨by omega, by omega⟩, fun h => absurd rfl h⟩, fun _ _ _ _ _ => rfl, fun o h1 h2 => by omega, fun h => absurd rfl h⟩
 | @step tk O O' H H' h e0 hh he half sp hp ih =>
   have hpos : 0 < bc G.n O (O e0) := List.countP_pos_iff.2 ⟨e0, List.mem_range.2 he, decide_eq_true rfl⟩
   have hl := ih.len
   refine ⟨by rw [List.length_append, hl]; rfl, fun h => by simp at h, fun e hE => ?_, fun a b ha hb e => ?_, fun o h1 h2 => ?_, fun _ => by omega⟩
   ·rw [hp e hE]
    have h1 := ih.rng e hE
    by_cases h2 : O e = O e0
    ·rw [if_pos h2]
     exact ⟨⟨by omega, by omega⟩, fun _ => by omega⟩
    ·rw [if_neg h2]
     refine ⟨⟨h1.1.1, by omega⟩, fun _ => ?_⟩
     by_cases h3 : tk = []
     ·exact absurd ((ih.first h3 e hE).1.trans (ih.first h3 e0 he).1.symm) h2
     ·exact h1.2 h3
   ·have h1 := sp.finer ha hb e
    rw [hp a ha, hp b hb, h1, ih.fn a b ha hb h1]
   ·by_cases h3 : o = h
    ·exact ⟨e0, he, by rw [hp e0 he, if_pos rfl, h3]⟩
    ·obtain ⟨e, hE, h4⟩ := ih.full o h1 (by omega)
     by_cases h5 : O e = O e0
     ·have h6 : H e0 = (o : Int) := by rw [← ih.fn e e0 hE he h5]; exact h4
      have h7 : 2 * bc G.n O (O e0) ≤ hc G.n H (H e0) := half.resolve_left (by omega)
      obtain ⟨e', h8, h9, h10⟩ := exists_not (n := G.n) (p := fun e => decide (O e = O e0)) (q := fun e => H e == H e0) (by unfold bc hc at h7; unfold bc at hpos; omega)
      refine ⟨e', h8, ?_⟩
      rw [hp e' h8, if_neg (of_decide_eq_false h10), ← h6]
      exact eq_of_beq h9
     ·exact ⟨e, hE, by rw [hp e hE, if_neg h5]; exact h4⟩
theorem Hist.heaps {G : Gp} {tk : List (List Int)} {O : Nat → Nat} {H : Nat → Int} {h : Nat} (hh : Hist G tk O H h) : h ≤ G.n + 1 := by
 have hi := hh.inv
 have h1 := nodup_sub ((List.range (h - 1)).map fun o : Nat => ((o + 1 : Nat) : Int)) ((List.range G.n).map H) (List.pairwise_map.2 (List.nodup_range.imp fun {a b} hne e => hne (by omega))) fun a ha => by
  obtain ⟨o, ho, rfl⟩ := List.mem_map.1 ha
  have h2 := List.mem_range.1 ho
  obtain ⟨e, h3, h4⟩ := hi.full (o + 1) (by omega) (by omega)
  exact List.mem_map.2 ⟨e, List.mem_range.2 h3, h4⟩
 rw [List.length_map, List.length_map, List.length_range, List.length_range] at h1
 omega
theorem outG_fits {G : Gp} (hr : Sy.right G.n (G.kk : Int) G.st G.es = true) : Fits G.n (outG G) := fun p hp z hz => by
 unfold outG Sy.rowOf at hz
 rw [if_pos ⟨by omega, by omega⟩] at hz
 have h2 := (right_parts hr).2.2.2.2.2 _ ((Sy.nf_mem _ _).1 (Sy.steps_mem.1 hz))
 simp only at h2
 exact ⟨h2.2.2.1, h2.2.2.2.1⟩
theorem Hist.coarse {G : Gp} {tk : List (List Int)} {O : Nat → Nat} {H : Nat → Int} {h : Nat} (hr : Sy.right G.n (G.kk : Int) G.st G.es = true) {R : Nat} (hR : Last G.n (outG G) R) (hh : Hist G tk O H h) : Coarse G.n (rnd G.n (outG G) R) O := by
 have hn : G.n ≤ 1000 := by have := (right_parts hr).1; omega
 induction hh with
 | nil => intro p q _ _ _; rfl
 | @step tk O O' H H' h e0 hh he half sp hp ih =>
   have hi := hh.inv
   refine take_coarseI hn (outG_fits hr) hR (ih.sat fun t => t = O e0) ?_ ih sp
   intro p q hp2 hq2 e hx
   show H q = H e0
   rw [← hi.fn p q hp2 hq2 (ih p q hp2 hq2 e)]
   exact hx
theorem Hist.even {G : Gp} {tk : List (List Int)} {O : Nat → Nat} {H : Nat → Int} {h : Nat} (hr : Sy.right G.n (G.kk : Int) G.st G.es = true) (hh : Hist G tk O H h) (ht : tk ≠ []) : EvenI G.n (outG G) O H := by
 induction hh with
 | nil => exact absurd rfl ht
 | @step tk O O' H H' h e0 hh he half sp hp ih =>
   have hi := hh.inv
   have hne : ∀ t, t < G.n → H t ≠ (h : Int) := fun t ht e => by have := (hi.rng t ht).1.2; omega
   refine take_evenI (outG_fits hr) (h0 := H e0) (own := (h : Int)) (B := fun t => O t = O e0) (H := H) (fun t ht hb => hi.fn t e0 ht he hb) (fun t ht => ?_) (fun t ht hb => by rw [hp t ht, if_neg hb]) (hne e0 he) hne ?_ sp
   ·rw [hp t ht]
    by_cases h2 : O t = O e0
    ·rw [if_pos h2]; exact ⟨fun _ => h2, fun _ => rfl⟩
    ·rw [if_neg h2]; exact ⟨fun e => absurd e (hne t ht), fun e => absurd e h2⟩
   ·by_cases h3 : tk = []
    ·exact .inr fun t ht => (hi.first h3 t ht).1.trans (hi.first h3 e0 he).1.symm
    ·exact .inl (ih h3)
theorem Hist.ends {G : Gp} {tk : List (List Int)} {O : Nat → Nat} {H : Nat → Int} {h : Nat} (hr : Sy.right G.n (G.kk : Int) G.st G.es = true) {R : Nat} (hR : Last G.n (outG G) R) (hh : Hist G tk O H h) (ht : tk ≠ []) (hd : ∀ a b, a < G.n → b < G.n → H a = H b → O a = O b) : num ((List.range G.n).map O) = rnd G.n (outG G) R := by
 have hn : G.n ≤ 1000 := by have := (right_parts hr).1; omega
 have hi := hh.inv
 exact blocks_last hn (outG_fits hr) (even_stableI (outG_fits hr) (hh.even hr ht) fun p q hp hq => ⟨hi.fn p q hp hq, hd p q hp hq⟩) (hh.coarse hr hR)
end Go.Proofs.YtkiapldehlnndaaGreatDoor.Sg
/- A run that is played, as a plain function: what a run of takings comes to, if it may be played. Nothing of the program is in it. -/
namespace Go.Proofs.YtkiapldehlnndaaGreatDoor.Sg
open Ro
def intoB (G : Gp) (X : Nat → Bool) (l p : Nat) : Bool := G.es.any fun e => e.1 == (p : Int) && (e.2.1 == (l : Int) && X e.2.2.toNat)
theorem intoB_iff {G : Gp} {X : Nat → Bool} {l p : Nat} (hp : p < G.n) : intoB G X l p = true ↔ into (outG G) (fun t => X t = true) (l : Int) p := by
 unfold intoB into
 rw [List.any_eq_true]
 simp only [Bool.and_eq_true, beq_iff_eq]
 have hm : ∀ z : Int × Int, z ∈ outG G p ↔ ((p : Int), z.1, z.2) ∈ G.es := fun z => by
  unfold outG Sy.rowOf
  rw [if_pos ⟨by omega, by omega⟩]
  exact Sy.steps_mem.trans (Sy.nf_mem _ _)
 constructor
 ·rintro ⟨e, he, h1, h2, h3⟩
  exact ⟨(e.2.1, e.2.2), (hm _).2 (by rw [← h1]; exact he), h2, h3⟩
 ·rintro ⟨z, hz, h1, h2⟩
  exact ⟨_, (hm z).1 hz, rfl, h1, h2⟩
def spl (G : Gp) (X : Nat → Bool) (O : List Nat) : List Nat := num ((List.range G.n).map fun p => (O.getD p 0, (List.range G.kk).map fun l => intoB G X l p))
theorem spl_len (G : Gp) (X : Nat → Bool) (O : List Nat) : (spl G X O).length = G.n := by unfold spl; rw [num_len]; simp
theorem getD_at {l : List Nat} {i : Nat} (h : i < l.length) : l[i]? = some (l.getD i 0) := by rw [List.getD_eq_getElem?_getD, List.getElem?_eq_getElem h]; rfl
theorem spl_eq {G : Gp} {X : Nat → Bool} {O : List Nat} {a b : Nat} (ha : a < G.n) (hb : b < G.n) : (spl G X O).getD a 0 = (spl G X O).getD b 0 ↔ O.getD a 0 = O.getD b 0 ∧ ∀ l, l < G.kk → intoB G X l a = intoB G X l b := by
 have h1 : ∀ i, i < G.n → ((List.range G.n).map fun p => (O.getD p 0, (List.range G.kk).map fun l => intoB G X l p))[i]? = some (O.getD i 0, (List.range G.kk).map fun l => intoB G X l i) := fun i hi => by rw [List.getElem?_map, List.getElem?_range hi]; rfl
 have h2 := num_eq (h1 a ha) (h1 b hb) (getD_at (l := spl G X O) (i := a) (by rw [spl_len]; exact ha)) (getD_at (l := spl G X O) (i := b) (by rw [spl_len]; exact hb))
 rw [h2, Prod.mk.injEq]
 refine and_congr_right fun _ => ?_
 rw [List.map_inj_left]
 simp only [List.mem_range]
structure Ms where
 O : List Nat
 H : List Nat
 h : Nat
def mFirst (G : Gp) (l : List Int) : Option Ms := if 0 < G.n ∧ l = (List.range G.n).map (fun e : Nat => (e : Int)) then some ⟨spl G (fun _ => true) (List.replicate G.n 0), List.replicate G.n 0, 1⟩ else none
def mBlock (G : Gp) (O : List Nat) (b : Nat) : List Int := ((List.range G.n).filter fun e => decide (O.getD e 0 = b)).map fun e : Nat => (e : Int)
def mGo (G : Gp) (st : Ms) (b o : Nat) (l : List Int) (z : Int) : Option Ms :=
 if (0 ≤ z ∧ z < (G.n : Int)) ∧ l = mBlock G st.O b ∧ 2 * l.length ≤ (List.range G.n).countP (fun e => decide (st.H.getD e 0 = o)) then
  some ⟨spl G (fun t => decide (st.H.getD t 0 = o) && !decide (st.O.getD t 0 = b)) (spl G (fun t => decide (st.O.getD t 0 = b)) st.O), (List.range G.n).map (fun t => if st.O.getD t 0 = b then st.h else st.H.getD t 0), st.h + 1⟩
 else none
def mNext (G : Gp) (st : Ms) : List Int → Option Ms
 | [] => none
 | z :: r => mGo G st (st.O.getD z.toNat 0) (st.H.getD z.toNat 0) (z :: r) z
def mRun (G : Gp) : List (List Int) → Option Ms
 | [] => none
 | l :: r => r.foldl (fun st l => st.bind fun st => mNext G st l) (mFirst G l)
def mReplay (G : Gp) (tk : List (List Int)) : Option (List Nat) :=
 if G.n = 0 then (if tk = [] then some [] else none)
 else match mRun G tk with
  | none => none
  | some st => if (dd st.O).length = st.h then some (num st.O) else none
structure Rl (G : Gp) (O : Nat → Nat) (H : Nat → Int) (k : Nat) (st : Ms) : Prop where
 o : ∀ a b, a < G.n → b < G.n → (O a = O b ↔ st.O.getD a 0 = st.O.getD b 0)
 h : ∀ a, a < G.n → H a = (st.H.getD a 0 : Int) + 1
 k : k = st.h + 1
 lo : st.O.length = G.n
theorem getD_range {n : Nat} (f : Nat → Nat) {i : Nat} (h : i < n) : ((List.range n).map f).getD i 0 = f i := by rw [List.getD_eq_getElem?_getD, List.getElem?_map, List.getElem?_range h]; rfl
theorem bool_iff {a b : Bool} : a = b ↔ (a = true ↔ b = true) := Bool.eq_iff_iff
theorem first_rl {G : Gp} {O O' : Nat → Nat} {H H' : Nat → Int} {e0 : Nat} (hr : Sy.right G.n (G.kk : Int) G.st G.es = true) (he : e0 < G.n) (h0 : ∀ e, e < G.n → O e = 0 ∧ H e = 0)
 (sp : Split G.n (By (outG G) (fun t => O t = O e0) fun t => H t = H e0 ∧ ¬ O t = O e0) O O') (hp : ∀ e, e < G.n → H' e = if O e = O e0 then ((1 : Nat) : Int) else H e) : Rl G O' H' 2 ⟨spl G (fun _ => true) (List.replicate G.n 0), List.replicate G.n 0, 1⟩ := by
 have hf := outG_fits hr
 have hall : ∀ e, e < G.n → O e = O e0 := fun e hE => (h0 e hE).1.trans (h0 e0 he).1.symm
 refine ⟨fun a b ha hb => ?_, fun a ha => ?_, rfl, spl_len _ _ _⟩
 ·rw [sp a b ha hb, spl_eq ha hb]
  have hz : ∀ i, i < G.n → (List.replicate G.n 0).getD i 0 = 0 := fun i hi => by rw [List.getD_eq_getElem?_getD, List.getElem?_replicate, if_pos hi]; rfl
  rw [hz a ha, hz b hb]
  have hI : ∀ (p : Nat) (l : Int), p < G.n → (into (outG G) (fun t => O t = O e0) l p ↔ into (outG G) (fun t => (fun _ : Nat => true) t = true) l p) := fun p l hp => into_congr hf (fun t ht => ⟨fun _ => rfl, fun _ => hall t ht⟩) hp
  have hY : ∀ (p : Nat) (l : Int), p < G.n → ¬ into (outG G) (fun t => H t = H e0 ∧ ¬ O t = O e0) l p := fun p l hp ⟨z, hz, _, hx⟩ => by
   have h1 := hf p hp z hz
   exact hx.2 (hall z.2.toNat (by omega))
  constructor
  ·rintro ⟨_, h2⟩
   refine ⟨rfl, fun l hl => bool_iff.2 ?_⟩
   rw [intoB_iff ha, intoB_iff hb, ← hI a l ha, ← hI b l hb]
   exact h2 _ ⟨(l : Int), .inl rfl⟩
  ·rintro ⟨_, h2⟩
   refine ⟨(hall a ha).trans (hall b hb).symm, fun X hX => ?_⟩
   obtain ⟨l, hX⟩ := hX
   have key : into (outG G) (fun t => O t = O e0) l a ↔ into (outG G) (fun t => O t = O e0) l b := by
    by_cases hl : 0 ≤ l ∧ l < (G.kk : Int)
    ·obtain ⟨lN, rfl⟩ : ∃ lN : Nat, l = lN := ⟨l.toNat, by omega⟩
     rw [hI a _ ha, hI b _ hb, ← intoB_iff ha, ← intoB_iff hb]
     exact bool_iff.1 (h2 lN (by omega))
    ·have hno : ∀ p, p < G.n → ¬ into (outG G) (fun t => O t = O e0) l p := fun p hp ⟨z, hz, h1, _⟩ => by
      unfold outG Sy.rowOf at hz
      rw [if_pos ⟨by omega, by omega⟩] at hz
      have h3 := (right_parts hr).2.2.2.2.2 _ ((Sy.nf_mem _ _).1 (Sy.steps_mem.1 hz))
      simp only at h3
      omega
     exact ⟨fun h => absurd h (hno a ha), fun h => absurd h (hno b hb)⟩
   rcases hX with rfl | rfl
   ·exact key
   ·exact ⟨fun h => ⟨key.1 h.1, hY b l hb⟩, fun h => ⟨key.2 h.1, hY a l ha⟩⟩
 ·rw [hp a ha, if_pos (hall a ha), List.getD_eq_getElem?_getD, List.getElem?_replicate, if_pos ha]
  rfl
theorem next_rl {G : Gp} {O O' : Nat → Nat} {H H' : Nat → Int} {e0 k : Nat} {st : Ms} (hr : Sy.right G.n (G.kk : Int) G.st G.es = true) (he : e0 < G.n) (hR : Rl G O H k st) (hE : EvenI G.n (outG G) O H)
 (sp : Split G.n (By (outG G) (fun t => O t = O e0) fun t => H t = H e0 ∧ ¬ O t = O e0) O O') (hp : ∀ e, e < G.n → H' e = if O e = O e0 then (k : Int) else H e) :
 Rl G O' H' (k + 1) ⟨spl G (fun t => decide (st.H.getD t 0 = st.H.getD e0 0) && !decide (st.O.getD t 0 = st.O.getD e0 0)) (spl G (fun t => decide (st.O.getD t 0 = st.O.getD e0 0)) st.O), (List.range G.n).map (fun t => if st.O.getD t 0 = st.O.getD e0 0 then st.h else st.H.getD t 0), st.h + 1⟩ := by
 have hf := outG_fits hr
 have hB : ∀ t, t < G.n → (O t = O e0 ↔ (fun t => decide (st.O.getD t 0 = st.O.getD e0 0)) t = true) := fun t ht => by rw [hR.o t e0 ht he]; simp
 have hY : ∀ t, t < G.n → ((H t = H e0 ∧ ¬ O t = O e0) ↔ (fun t => decide (st.H.getD t 0 = st.H.getD e0 0) && !decide (st.O.getD t 0 = st.O.getD e0 0)) t = true) := fun t ht => by
  rw [hR.h t ht, hR.h e0 he, hR.o t e0 ht he]
  simp
  omega
 have cB : ∀ (p l : Nat), p < G.n → (into (outG G) (fun t => O t = O e0) (l : Int) p ↔ intoB G (fun t => decide (st.O.getD t 0 = st.O.getD e0 0)) l p = true) := fun p l hp => by rw [intoB_iff hp]; exact into_congr hf hB hp
 have cY : ∀ (p l : Nat), p < G.n → (into (outG G) (fun t => H t = H e0 ∧ ¬ O t = O e0) (l : Int) p ↔ intoB G (fun t => decide (st.H.getD t 0 = st.H.getD e0 0) && !decide (st.O.getD t 0 = st.O.getD e0 0)) l p = true) := fun p l hp => by rw [intoB_iff hp]; exact into_congr hf hY hp
 refine ⟨fun a b ha hb => ?_, fun a ha => ?_, by rw [hR.k], spl_len _ _ _⟩
 ·rw [sp a b ha hb, spl_eq ha hb, spl_eq ha hb, ← hR.o a b ha hb]
  constructor
  ·rintro ⟨h1, h2⟩
   refine ⟨⟨h1, fun l _ => bool_iff.2 ?_⟩, fun l _ => bool_iff.2 ?_⟩
   ·rw [← cB a l ha, ← cB b l hb]
    exact h2 _ ⟨(l : Int), .inl rfl⟩
   ·rw [← cY a l ha, ← cY b l hb]
    have hX : into (outG G) (fun t => O t = O e0) (l : Int) a ↔ into (outG G) (fun t => O t = O e0) (l : Int) b := h2 _ ⟨(l : Int), .inl rfl⟩
    have hZ : (into (outG G) (fun t => O t = O e0) (l : Int) a ∧ ¬ into (outG G) (fun t => H t = H e0 ∧ ¬ O t = O e0) (l : Int) a) ↔ (into (outG G) (fun t => O t = O e0) (l : Int) b ∧ ¬ into (outG G) (fun t => H t = H e0 ∧ ¬ O t = O e0) (l : Int) b) := h2 _ ⟨(l : Int), .inr rfl⟩
    have half : ∀ p q, p < G.n → q < G.n → O p = O q → (into (outG G) (fun t => O t = O e0) (l : Int) p ↔ into (outG G) (fun t => O t = O e0) (l : Int) q) → ((into (outG G) (fun t => O t = O e0) (l : Int) p ∧ ¬ into (outG G) (fun t => H t = H e0 ∧ ¬ O t = O e0) (l : Int) p) ↔ (into (outG G) (fun t => O t = O e0) (l : Int) q ∧ ¬ into (outG G) (fun t => H t = H e0 ∧ ¬ O t = O e0) (l : Int) q)) → into (outG G) (fun t => H t = H e0 ∧ ¬ O t = O e0) (l : Int) p → into (outG G) (fun t => H t = H e0 ∧ ¬ O t = O e0) (l : Int) q := fun p q hp hq e hX hZ hi => by
     by_cases hb2 : into (outG G) (fun t => O t = O e0) (l : Int) p
     ·refine Classical.byContradiction fun hn => ?_
      exact (hZ.2 ⟨hX.1 hb2, hn⟩).2 hi
     ·obtain ⟨z, h3, h4, h5⟩ := hi
      obtain ⟨z', h6, h7, h8⟩ := hE p q hp hq e (l : Int) (H e0) ⟨z, h3, h4, h5.1⟩
      refine ⟨z', h6, h7, h8, fun h9 => hb2 (hX.2 ⟨z', h6, h7, h9⟩)⟩
    exact ⟨half a b ha hb h1 hX hZ, half b a hb ha h1.symm hX.symm hZ.symm⟩
  ·rintro ⟨⟨h1, h2⟩, h3⟩
   refine ⟨h1, fun X hX => ?_⟩
   obtain ⟨l, hX⟩ := hX
   by_cases hl : 0 ≤ l ∧ l < (G.kk : Int)
   ·obtain ⟨lN, rfl⟩ : ∃ lN : Nat, l = lN := ⟨l.toNat, by omega⟩
    have k1 := bool_iff.1 (h2 lN (by omega))
    have k2 := bool_iff.1 (h3 lN (by omega))
    rw [← cB a lN ha, ← cB b lN hb] at k1
    rw [← cY a lN ha, ← cY b lN hb] at k2
    rcases hX with rfl | rfl
    ·exact k1
    ·exact and_congr k1 (not_congr k2)
   ·have hno : ∀ (Z : Nat → Prop) (p : Nat), p < G.n → ¬ into (outG G) Z l p := fun Z p hp ⟨z, hz, h4, _⟩ => by
     unfold outG Sy.rowOf at hz
     rw [if_pos ⟨by omega, by omega⟩] at hz
     have h5 := (right_parts hr).2.2.2.2.2 _ ((Sy.nf_mem _ _).1 (Sy.steps_mem.1 hz))
     simp only at h5
     omega
    rcases hX with rfl | rfl
    ·exact ⟨fun h => absurd h (hno _ a ha), fun h => absurd h (hno _ b hb)⟩
    ·exact ⟨fun h => absurd h.1 (hno _ a ha), fun h => absurd h.1 (hno _ b hb)⟩
 ·rw [hp a ha, getD_range _ ha]
  by_cases h1 : O a = O e0
  ·rw [if_pos h1, if_pos ((hR.o a e0 ha he).1 h1), hR.k]
   simp
  ·rw [if_neg h1, if_neg (fun h2 => h1 ((hR.o a e0 ha he).2 h2)), hR.h a ha]
end Go.Proofs.YtkiapldehlnndaaGreatDoor.Sg
/- The one form by the numbers of keys. Plain facts. -/
namespace Go.Proofs.YtkiapldehlnndaaGreatDoor
namespace Sg
theorem seen_more (l : List Int) : ∀ seen, Sy.seenG seen l = l.foldl (fun s c => Ro.more c s) seen := by
 have hp : ∀ (c : Int) (l : List Int), Sy.place c l = Ro.place c l := fun c l => by
  induction l with
  | nil => rfl
  | cons a r ih => simp only [Sy.place, Ro.place, ih]
 induction l with
 | nil => intro seen; rfl
 | cons c r ih =>
   intro seen
   simp only [Sy.seenG, List.foldl_cons, ih, hp]
   congr 1
   unfold Ro.more
   by_cases h : c ∈ seen
   ·rw [if_pos h, if_pos (Ro.place_lt.2 h)]
   ·rw [if_neg h, if_neg (fun h1 => h (Ro.place_lt.1 h1))]
theorem canon_num (l : List Int) : Sy.canon l = Ro.num l := by
 have hp : ∀ (c : Int) (l : List Int), Sy.place c l = Ro.place c l := fun c l => by
  induction l with
  | nil => rfl
  | cons a r ih => simp only [Sy.place, Ro.place, ih]
 rw [Sy.canon_map, seen_more]
 unfold Ro.num
 exact List.map_congr_left fun z _ => hp z _
theorem canon_nat (l : List Nat) : Sy.canon (l.map fun e : Nat => (e : Int)) = Ro.num l := by
 rw [canon_num]
 refine Ro.num_congr (by simp) fun i j x y u v hx hy hu hv => ?_
 rw [List.getElem?_map, hu] at hx
 rw [List.getElem?_map, hv] at hy
 cases hx; cases hy
 exact Int.ofNat_inj
end Sg
end Go.Proofs.YtkiapldehlnndaaGreatDoor
/- The text of a state's signature: no two signatures have one. What slices.Compact leaves of numbers in order. Nothing of the program is in it. -/
namespace Go.Proofs.YtkiapldehlnndaaGreatDoor.Ro
open Go.Lib
def val (l : List UInt8) : Nat := l.foldl (fun a b => a * 10 + (b.toNat - 48)) 0
def words (es : List Int) : List UInt8 := es.flatMap fun e => 32 :: itoa e
def sigL (c : Int) (es : List Int) : List UInt8 := itoa c ++ words es
end Go.Proofs.YtkiapldehlnndaaGreatDoor.Ro
/- Contract of the program's signature: the text of a state's class, and of the labels and classes that its steps lead to. -/
namespace Go.Proofs.YtkiapldehlnndaaGreatDoor
open Go.RowKit Go.Maps
attribute [local go_sem ↓] Go.wp_at_zero Go.wp_at_succ
def Pow (w : World) : Prop := Lib.TabBelow Tryz.prog w.heap.size w "internal/strconv.uint64pow10" .u64 Lib.pow10Tab
structure SgAt (w wr : World) (g : Nat) (tv : Value) (txt : List UInt8) (es : List Int) : Prop where
 bl : Below w.heap.size w wr
 gu : w.heap.size ≤ g
 row : ∃ cur, wr.heap[g]? = some (.cells cur 3 (0, 0)) ∧ ∀ (i : Nat) (z : Int), es[i]? = some z → cur[i]? = some (.int .i64 z)
 text : wr.ownsRow w.heap.size 5 1 tv txt.length (Lib.byteCells txt)
end Go.Proofs.YtkiapldehlnndaaGreatDoor
/- Contract of the program's signature: the walk. -/
namespace Go.Proofs.YtkiapldehlnndaaGreatDoor
open Go.RowKit Go.Maps
attribute [local go_sem ↓] Go.wp_at_zero Go.wp_at_succ
def sigB (c : Int) (es : List Int) : ByteArray := ⟨(Ro.sigL c es).toArray⟩
theorem ends_set {N i : Nat} {xs : List Int} {x : Int} (hl : xs.length = i) (hi : i < N) : (iC xs ++ List.replicate (N - i) (Value.int .i64 0)).set i (.int .i64 x) = iC (xs ++ [x]) ++ List.replicate (N - (i + 1)) (.int .i64 0) := by
 have e : N - i = (N - (i + 1)) + 1 := by omega
 have hl2 : (iC xs).length = i := by simp [iC, hl]
 rw [e, List.replicate_succ, List.set_append_right _ _ (by omega), hl2, Nat.sub_self, List.set_cons_zero]
 simp [iC]
end Go.Proofs.YtkiapldehlnndaaGreatDoor
/- Contract of the program's parted: the classes of the round behind one. -/
namespace Go.Proofs.YtkiapldehlnndaaGreatDoor
open Go.RowKit Go.Maps
attribute [local go_sem ↓] Go.wp_at_zero Go.wp_at_succ
structure Stp (w : World) (gs n : Nat) (out : Nat → List Ro.St) : Prop where
 row : ∀ i, i < n → ∃ a c, w.cell? ⟨gs, i, none⟩ = some (.slice a (out i).length c) ∧ BSteps.Has w (.slice a (out i).length c) (out i)
def Fit (n : Nat) (out : Nat → List Ro.St) : Prop := ∀ i, i < n → (out i).length ≤ 10000 ∧ ∀ z ∈ out i, (0 ≤ z.1 ∧ z.1 ≤ 300) ∧ 0 ≤ z.2 ∧ z.2 < (n : Int)
def tkey (s : ByteArray) : Lit := .string s.data.toList
structure MapT (D : DataW Unit) (ns : List ByteArray) : Prop where
 yes : ∀ (i : Nat) (s : ByteArray), ns[i]? = some s → Maps.has D (tkey s) = true ∧ D.atKey (tkey s) (.lit (.int .i64 0)) = .lit (.int .i64 i)
 no : ∀ s : ByteArray, s ∉ ns → Maps.has D (tkey s) = false
 size : Maps.size D = ns.length
def stx (n : Nat) (out : Nat → List Ro.St) (c : List Nat) (i : Nat) : ByteArray := sigB ((c[i]?).getD 0) (Ro.sd (Ro.ends n c (out i)))
def stxs (n : Nat) (out : Nat → List Ro.St) (c : List Nat) : List ByteArray := (List.range n).map (stx n out c)
structure PtAt (w wr : World) (ts : List ByteArray) (n i : Nat) (D : DataW Unit) (seen : List ByteArray) : Prop where
 arr : Arr 3 w wr (w.heap.size + 1) (natC (Ro.num (ts.take i)) ++ List.replicate (n - i) (.int .i64 0))
 own : wr.ownsMap (H := Unit) Tryz.prog 9 (plainElem Tryz.prog 3) w.heap.size seen.length D
 map : MapT D seen
end Go.Proofs.YtkiapldehlnndaaGreatDoor
/- Contract of the program's New: a graph of the system's one form. -/
namespace Go.Proofs.YtkiapldehlnndaaGreatDoor
open Go.RowKit Go.Maps
attribute [local go_sem ↓] Go.wp_at_zero Go.wp_at_succ
theorem inOrder_turn {es os : List Sy.Ed} (h : InOrder Sy.turn (Sy.nf es) os) : os.map Sy.turn = Sy.nf ((Sy.nf es).map Sy.turn) := by
 refine Sy.nf_of ?_ fun x => ?_
 ·have hnd : os.Nodup := by
   rw [h.1.nodup_iff]
   have hs := Sy.nf_str es
   generalize Sy.nf es = l at hs
   induction l with
   | nil => exact List.nodup_nil
   | cons a r ih =>
     refine List.nodup_cons.2 ⟨fun ha => ?_, ih hs.tail⟩
     have h1 := hs.head a ha
     rw [Sy.lt_irrefl] at h1
     cases h1
  have hp := h.2
  clear h
  induction os with
  | nil => trivial
  | cons a r ih =>
    obtain ⟨h1, h2⟩ := List.pairwise_cons.1 hp
    obtain ⟨h3, h4⟩ := List.nodup_cons.1 hnd
    rw [List.map_cons]
    refine Sy.Str.cons (ih h4 h2) fun x hx => ?_
    obtain ⟨b, hb, rfl⟩ := List.mem_map.1 hx
    have h5 := h1 b hb
    cases h6 : Sy.lt (Sy.turn a) (Sy.turn b) with
    | true => rfl
    | false =>
      have h7 := congrArg Sy.turn (Sy.eq_of_not h6 h5)
      rw [turn_turn, turn_turn] at h7
      rw [h7] at h3
      exact absurd hb h3
 ·rw [List.mem_map, List.mem_map]
  constructor
  ·rintro ⟨a, ha, rfl⟩; exact ⟨a, h.1.mem_iff.1 ha, rfl⟩
  ·rintro ⟨a, ha, rfl⟩; exact ⟨a, h.1.mem_iff.2 ha, rfl⟩
theorem rg_up4' {w2 wa wb : World} {a0 a1 a2 a3 : Addr} {x0 x1 x2 x3 : Value} (h : (wa.cell? a0 = some x0 ∧ wa.cell? a1 = some x1 ∧ wa.cell? a2 = some x2 ∧ wa.cell? a3 = some x3) ∧ Hid (Below w2.heap.size w2 wa)) (hb : Below wa.heap.size wa wb) : (wb.cell? a0 = some x0 ∧ wb.cell? a1 = some x1 ∧ wb.cell? a2 = some x2 ∧ wb.cell? a3 = some x3) ∧ Hid (Below w2.heap.size w2 wb) := rg_up4 hb h
def NewAt (a : Addr) (n k s : Int) (es : List Sy.Ed) (w : World) (r : Ending) (w' : World) : Prop :=
 if Sy.right n k s es = true then ∃ (g bs bb cs cb m : Nat), n = (m : Int) ∧ r = .returned (.tuple #[.pointer (some ⟨g, 0, none⟩), .nilIface]) ∧ Gr w' w.heap.size g bs bb cs cb m k s es ∧ Below w.heap.size w w'
 else ∃ x, r = .returned (.tuple #[.pointer none, x]) ∧ Chain w' 0 0 a [sysB] x ∧ Below w.heap.size w w'
set_option maxRecDepth 100000 in
set_option maxHeartbeats 8000000 in
theorem new_any {M : Nat} (hS : SortOk M) (n k s : Int) (v : Value) (es : List Sy.Ed) (a : Addr) (w : World) (hA : Sent w 0 a) (hv : BEdges.Has w v es) (hM : es.length ≤ M) (hm : es.length ≤ 100000) :
 Calls Tryz.prog 28 #[sysV n k s v] w (NewAt a n k s es w) := by
 obtain ⟨w1, hw1⟩ : ∃ w1, w1 = w.alloc (.cells #[.int .i64 n, .int .i64 k, .int .i64 s, v] 24) := ⟨_, rfl⟩
 have hb1 : Below w.heap.size w w1 := by rw [hw1]; exact (Below.refl _ _).alloc (Nat.le_refl _) _
 have hg1 : w1.heap[w.heap.size]? = some (.cells #[.int .i64 n, .int .i64 k, .int .i64 s, v] 24 (0, 0)) := by rw [hw1]; exact heap_alloc_new w _
 have hN := normal_any hS n k s v es a w1 (hA.below hb1) (hv.below hb1) hM (by omega)
 obtain ⟨ao, cap, rfl, _⟩ := hv
 obtain ⟨m0, hm0⟩ : ∃ m0, m0 = es.length := ⟨_, rfl⟩
 rw [← hm0] at hN hg1 hw1 ⊢
 unfold sysV at hN ⊢
 have H1 : Hid _ := And.intro hN (And.intro hb1 (And.intro hg1 (And.intro hw1 hS)))
 have HM : Hid _ := And.intro hM hm
 cases hq : Sy.right n k s es with
 | false =>
   rw [hq] at H1
   unfold NewAt
   rw [hq]
   clear hN hb1 hg1 hw1 hS hA hq hm0 hM hm
   go_enter Tryz.func28, Tryz.ntmps28
   go_wp2_with fail
   rw [← H1.out.2.2.2.1]
   refine Calls.mono H1.out.1 ?_
   rintro r w2 ⟨x, u, rfl, hx, _, hb2⟩
   have hch : Chain w2 0 0 a [sysB] x := by simpa [SErr] using hx
   obtain ⟨T, y, rfl⟩ := hch.iface
   have hg2 := (hb2.block _ (t_lt H1.out.2.2.1)).trans H1.out.2.2.1
   obtain ⟨y0, y1, y2, y3⟩ := four_cells hg2
   have z0 := blk_free hg2 0
   have z1 := blk_free hg2 1
   have z2 := blk_free hg2 2
   have z3 := blk_free hg2 3
   have hbw := H1.out.2.1.trans (hb2.mono H1.out.2.1.size)
   have H2 : Hid _ := And.intro hch (And.intro hbw hg2)
   clear hb2 hg2 hbw hch hx
   go_wp2_with fail
   have hbf := four_below H2.out.2.1 (b := w.heap.size) (Nat.le_refl _) (.int .i64 0) (.int .i64 0) (.int .i64 0) (.slice none 0 0)
   have hcf := chain_st4 H2.out.1 H2.out.2.2 (.int .i64 0) (.int .i64 0) (.int .i64 0) (.slice none 0 0)
   unfold st4 at hcf
   go_ret2
   exact ⟨_, rfl, hcf, hbf⟩
 | true =>
   rw [hq] at H1
   have hrp := right_parts hq
   obtain ⟨q, rfl⟩ : ∃ q : Nat, n = (q : Int) := ⟨n.toNat, by omega⟩
   have HQ : Hid _ := And.intro hq hrp
   unfold NewAt
   rw [hq]
   clear hN hb1 hg1 hw1 hS hA hq hm0 hM hm hrp
   go_enter Tryz.func28, Tryz.ntmps28
   go_wp2_with fail
   rw [← H1.out.2.2.2.1]
   refine Calls.mono H1.out.1 ?_
   rintro r w2 ⟨x, u, rfl, hx, hO, hb2⟩
   have hO := hO trivial
   obtain rfl : x = .nilIface := by simpa [SErr] using hx
   obtain ⟨au, cu, rfl⟩ := row_shape hO
   have hg2 := (hb2.block _ (t_lt H1.out.2.2.1)).trans H1.out.2.2.1
   obtain ⟨y0, y1, y2, y3⟩ := four_cells hg2
   have z0 := blk_free hg2 0
   have z1 := blk_free hg2 1
   have z2 := blk_free hg2 2
   have z3 := blk_free hg2 3
   have hbw := H1.out.2.1.trans (hb2.mono H1.out.2.1.size)
   obtain ⟨L, hL⟩ : ∃ L, L = (Sy.nf es).length := ⟨_, rfl⟩
   obtain ⟨w3, hw3⟩ : ∃ w3, w3 = (((w2.setCell ⟨w.heap.size, 0, none⟩ (.int .i64 q)).setCell ⟨w.heap.size, 1, none⟩ (.int .i64 k)).setCell ⟨w.heap.size, 2, none⟩ (.int .i64 s)).setCell ⟨w.heap.size, 3, none⟩ (.slice au L cu) := ⟨_, rfl⟩
   rw [← hL]
   have hg3 : w3.heap[w.heap.size]? = some (.cells #[.int .i64 q, .int .i64 k, .int .i64 s, .slice au L cu] 24 (0, 0)) := by rw [hw3]; exact four_set hg2
   have hb3 : Below w.heap.size w w3 := by rw [hw3]; exact four_below hbw (Nat.le_refl _) _ _ _ _
   have hO3 : BEdges.Own w3 w.heap.size (.slice au (Sy.nf es).length cu) (Sy.nf es) := by
    rw [hw3]
    refine row_base (trow_at hO fun b hb => ?_) H1.out.2.1.size
    have n1 : b ≠ w.heap.size := fun e => own_bk hO hg2 (by decide) (e ▸ hb)
    rw [set_other _ _ _ _ _ n1, set_other _ _ _ _ _ n1, set_other _ _ _ _ _ n1, set_other _ _ _ _ _ n1]
   have H3 : Hid _ := And.intro hb3 (And.intro hO3 (And.intro hg3 (And.intro hw3 hL)))
   clear hO hb2 hg2 hbw hx hg3 hb3 hO3 hw3 hL
   have hle : L ≤ 10000 := by have := HQ.out.2.2.2.1; have := Sy.nf_len es; have := H3.out.2.2.2.2; omega
   have hqn : q ≤ 1000 := by have := HQ.out.2.1; omega
   have hnr : ∀ e ∈ Sy.nf es, 0 ≤ e.1 ∧ e.1 < (q : Int) ∧ 0 ≤ e.2.2 ∧ e.2.2 < (q : Int) := fun e he => by
    have := HQ.out.2.2.2.2.2.2 e ((Sy.nf_mem es e).1 he)
    exact ⟨this.1, this.2.1, this.2.2.1, this.2.2.2.1⟩
   have hTf : ∀ W, Below w3.heap.size w3 W → Calls Tryz.prog 99 #[.int .i64 q, .slice au L cu, .func (.func 100) #[] #[]] W fun r w' => ∃ bs bb, r = .returned (.agg #[.slice (some ⟨bs, 0, none⟩) L L, .slice (some ⟨bb, 0, none⟩) (q + 1) (q + 1)]) ∧ Tb w' w.heap.size bs bb q (Sy.nf es) ∧ Below W.heap.size W w' := fun W hb => by
    have hLL := H3.out.2.2.2.2
    have hOW : BEdges.Has W (.slice au (Sy.nf es).length cu) (Sy.nf es) := H3.out.2.1.has.below hb
    have h9 := tableOf_any _ _ forward_at q (.slice au (Sy.nf es).length cu) (Sy.nf es) W (by omega) (by omega) hOW (by rw [List.map_id']; exact fun e he => ⟨(hnr e he).1, (hnr e he).2.1⟩) (by rw [List.map_id']; exact nf_rows es)
    rw [List.map_id'] at h9
    rw [← hLL] at h9
    refine h9.mono fun r w' ⟨bs, bb, hr, h1, h2⟩ => ⟨bs, bb, hr, ⟨(Blk.of_arr h1).base ?_, (Blk.of_arr h2).base ?_⟩, h1.bl⟩
    ·have := H3.out.1.size; have := hb.size; omega
    ·have := H3.out.1.size; have := hb.size; omega
   have hOr : ∀ W, Below w3.heap.size w3 W → Calls Tryz.prog 101 #[.slice au L cu, .func (.func 102) #[] #[]] W fun r w' => ∃ u os, r = .returned u ∧ InOrder Sy.turn (Sy.nf es) os ∧ BEdges.Own w' W.heap.size u os ∧ Below W.heap.size W w' := fun W hb => by
    have hLL := H3.out.2.2.2.2
    have hOW : BEdges.Has W (.slice au (Sy.nf es).length cu) (Sy.nf es) := H3.out.2.1.has.below hb
    have h9 := ordered_any H1.out.2.2.2.2 _ _ backward_at (.slice au (Sy.nf es).length cu) (Sy.nf es) W (by have := Sy.nf_len es; have := HM.out.1; omega) (by omega) hOW
    rw [← hLL] at h9
    exact h9
   have hTb : ∀ W u os B, Below w3.heap.size w3 W → InOrder Sy.turn (Sy.nf es) os → BEdges.Own W B u os → Calls Tryz.prog 99 #[.int .i64 q, u, .func (.func 102) #[] #[]] W fun r w' => ∃ bs bb, r = .returned (.agg #[.slice (some ⟨bs, 0, none⟩) L L, .slice (some ⟨bb, 0, none⟩) (q + 1) (q + 1)]) ∧ Tb w' w.heap.size bs bb q (Sy.nf ((Sy.nf es).map Sy.turn)) ∧ Below W.heap.size W w' := fun W u os B hb hI hO => by
    have hLL := H3.out.2.2.2.2
    have hlo := hI.1.length_eq
    have het := inOrder_turn hI
    have h9 := tableOf_any _ _ backward_at q u os W (by omega) (by omega) hO.has (by
     rw [het]
     intro e he
     rw [Sy.nf_mem] at he
     obtain ⟨x, hx, rfl⟩ := List.mem_map.1 he
     exact ⟨(hnr x hx).2.2.1, (hnr x hx).2.2.2⟩) (by rw [het]; exact nf_rows _)
    rw [het, hlo, ← hLL] at h9
    refine h9.mono fun r w' ⟨bs, bb, hr, h1, h2⟩ => ⟨bs, bb, hr, ⟨(Blk.of_arr h1).base ?_, (Blk.of_arr h2).base ?_⟩, h1.bl⟩
    ·have := H3.out.1.size; have := hb.size; omega
    ·have := H3.out.1.size; have := hb.size; omega
   have HT : Hid _ := And.intro hTf (And.intro hOr hTb)
   clear hTf hOr hTb hnr
   go_upto_region 4 with fail
   rw [← H3.out.2.2.2.1]
   clear y0 y1 y2 y3 z0 z1 z2 z3
   obtain ⟨x0, x1, x2, x3⟩ := four_cells H3.out.2.2.1
   go_region_held3 (fun w' => (w'.cell? ⟨w.heap.size, 0, none⟩ = some (.int .i64 q) ∧ w'.cell? ⟨w.heap.size, 1, none⟩ = some (.int .i64 k) ∧ w'.cell? ⟨w.heap.size, 2, none⟩ = some (.int .i64 s) ∧ w'.cell? ⟨w.heap.size, 3, none⟩ = some (.slice au L cu)) ∧ Hid (Below w3.heap.size w3 w')) (first | exact rg_up4' (by assumption) hba | exact rg_up4' (by assumption) hbb | exact rg_up4' (by assumption) hbc | exact rg_up4' (by assumption) ((Below.refl _ _).alloc (Nat.le_refl _) _) | exact ⟨⟨x0, x1, x2, x3⟩, ((Below.refl _ _).drew : Below w3.heap.size w3 w3.drew)⟩ | go_keep)
    ((first
      | (go_at_call_of 99 (Value.slice au L cu); refine (HT.out.1 _ (rg_b (by assumption))).mono ?_; rintro r wa ⟨bs, bb, rfl, hTa, hba⟩)
      | (go_at_call 101; refine (HT.out.2.1 _ (rg_b (by assumption))).mono ?_; rintro r wb ⟨u5, os, rfl, hIo, hOb, hbb⟩)
      | (go_at_call_of 99 u5; refine (HT.out.2.2 _ _ os _ (rg_b (by assumption)) hIo (by first | exact hOb | exact trow_at hOb fun b hb => hba.block _ (hOb.lt b hb).2)).mono ?_; rintro r wc ⟨cs, cb, rfl, hTc, hbc⟩)
      | fail))
   have hal : Below wc.heap.size wc (wc.alloc (.cells #[.int .i64 q, .int .i64 k, .int .i64 s, .slice (some ⟨bs, 0, none⟩) L L, .slice (some ⟨bb, 0, none⟩) (q + 1) (q + 1), .slice (some ⟨cs, 0, none⟩) L L, .slice (some ⟨cb, 0, none⟩) (q + 1) (q + 1)] 139)) := (Below.refl _ _).alloc (Nat.le_refl _) _
   have hbx := heap_alloc_new wc (.cells #[.int .i64 q, .int .i64 k, .int .i64 s, .slice (some ⟨bs, 0, none⟩) L L, .slice (some ⟨bb, 0, none⟩) (q + 1) (q + 1), .slice (some ⟨cs, 0, none⟩) L L, .slice (some ⟨cb, 0, none⟩) (q + 1) (q + 1)] 139)
   have hba' := below_of_drew3 hba
   have hsz : w.heap.size ≤ wc.heap.size := by have := H3.out.1.size; have := hba'.size; have := hbb.size; have := hbc.size; omega
   have hbw : Below w.heap.size w (wc.alloc (.cells #[.int .i64 q, .int .i64 k, .int .i64 s, .slice (some ⟨bs, 0, none⟩) L L, .slice (some ⟨bb, 0, none⟩) (q + 1) (q + 1), .slice (some ⟨cs, 0, none⟩) L L, .slice (some ⟨cb, 0, none⟩) (q + 1) (q + 1)] 139)) :=
    (((H3.out.1.trans (hba'.mono H3.out.1.size)).trans (hbb.mono (by have := H3.out.1.size; have := hba'.size; omega))).trans (hbc.mono (by have := H3.out.1.size; have := hba'.size; have := hbb.size; omega))).trans (hal.mono hsz)
   have hGr : Gr (wc.alloc (.cells #[.int .i64 q, .int .i64 k, .int .i64 s, .slice (some ⟨bs, 0, none⟩) L L, .slice (some ⟨bb, 0, none⟩) (q + 1) (q + 1), .slice (some ⟨cs, 0, none⟩) L L, .slice (some ⟨cb, 0, none⟩) (q + 1) (q + 1)] 139)) w.heap.size wc.heap.size bs bb cs cb q k s es :=
    ⟨by rw [← H3.out.2.2.2.2]; exact hbx, hsz, ((hTa.below hbb).below hbc).below hal, hTc.below hal, HQ.out.1⟩
   have HF : Hid _ := And.intro hGr hbw
   clear hal hbx hba' hbw hGr hba hbb hbc hTa hTc hOb hIo x0 x1 x2 x3
   rename_i hS9
   clear hS9
   go_wp2_with fail
   go_ret2
   exact ⟨_, _, _, _, _, q, rfl, rfl, HF.out.1, HF.out.2⟩
theorem new_ok {M : Nat} (hS : SortOk M) (n k s : Int) (v : Value) (es : List Sy.Ed) (a : Addr) (w : World) (hA : Sent w 0 a) (hv : BEdges.Has w v es) (hM : es.length ≤ M) (hm : es.length ≤ 100000) (hq : Sy.right n k s es = true) :
 Calls Tryz.prog 28 #[sysV n k s v] w fun r w' => ∃ (g bs bb cs cb m : Nat), n = (m : Int) ∧ r = .returned (.tuple #[.pointer (some ⟨g, 0, none⟩), .nilIface]) ∧ Gr w' w.heap.size g bs bb cs cb m k s es ∧ Below w.heap.size w w' :=
 (new_any hS n k s v es a w hA hv hM hm).mono fun r w' h => by unfold NewAt at h; rw [if_pos hq] at h; exact h
theorem new_bad {M : Nat} (hS : SortOk M) (n k s : Int) (v : Value) (es : List Sy.Ed) (a : Addr) (w : World) (hA : Sent w 0 a) (hv : BEdges.Has w v es) (hM : es.length ≤ M) (hm : es.length ≤ 100000) (hq : Sy.right n k s es = false) :
 Calls Tryz.prog 28 #[sysV n k s v] w fun r w' => ∃ x, r = .returned (.tuple #[.pointer none, x]) ∧ Chain w' 0 0 a [sysB] x ∧ Below w.heap.size w w' :=
 (new_any hS n k s v es a w hA hv hM hm).mono fun r w' h => by unfold NewAt at h; rw [if_neg (by rw [hq]; simp)] at h; exact h
end Go.Proofs.YtkiapldehlnndaaGreatDoor
/- Contract of the program's roundsOf: the rows of steps, and the function that tells the rounds. -/
namespace Go.Proofs.YtkiapldehlnndaaGreatDoor
open Go.RowKit Go.Maps
attribute [local go_sem ↓] Go.wp_at_zero Go.wp_at_succ
theorem bel6 {w W w8 : World} (hb : Below W.heap.size W w8) (h : Below w.heap.size w W) : Below w.heap.size w w8 := h.trans (hb.mono h.size)
theorem res_up6 {W w8 : World} {b : Nat} {o : Obj} (hb : Below W.heap.size W w8) (h : W.heap[b]? = some o) : w8.heap[b]? = some o := (hb.block b (t_lt h)).trans h
def rndB : ByteArray := ⟨#[114, 111, 117, 110, 100, 115]⟩
structure StAt (w wr : World) (gs n i : Nat) (us : List Value) (out : Nat → List BSteps.El) : Prop where
 arr : Arr 132 w wr gs us
 len : us.length = n
 row : ∀ j, j < i → ∃ u, us[j]? = some u ∧ BSteps.Own wr w.heap.size u (out j)
def outOf (m : Nat) (es : List Sy.Ed) (i : Nat) : List BSteps.El := Sy.rowOf m (Sy.nf es) i
structure OfAt (w w' : World) (b1 b2 gs m : Nat) (es : List Sy.Ed) : Prop where
 bl : Below w.heap.size w w'
 l1 : b1 < w'.heap.size
 l2 : b2 < w'.heap.size
 c1 : w'.cell? ⟨b1, 0, none⟩ = some (.int .i64 m)
 c2 : w'.cell? ⟨b2, 0, none⟩ = some (.slice (some ⟨gs, 0, none⟩) m m)
 st : Stp w' gs m (outOf m es)
end Go.Proofs.YtkiapldehlnndaaGreatDoor
