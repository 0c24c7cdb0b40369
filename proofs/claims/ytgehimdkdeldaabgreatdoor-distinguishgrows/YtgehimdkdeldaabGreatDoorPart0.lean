/- Texts of this claim, joined: Tk0, JoinBy, OwnDGrowsJ, SyPure, Copy, Base, SyOut0, BookApp, BXSteps, SyReaP, BXEdges, SyRight, SySort, SySorted, Is, Sent, ErIs, ErCode, ErTold, SyNormal, SyArr, SyCanon, SyForms, SyProg, SyChk. -/
import Derived.OrdersHeld
import Derived.RowKit
import Derived.Tactics
import Derived.Test.YtgehimdkdeldaabGreatDoorTie
import Derived.Stop.Joined
import Derived.Test.YtgehimdkdeldaabGreatDoorCards
import GoSem.Claim
import Derived.Test.YtgehimdkdeldaabGreatDoorProg
import Derived.WalkKit
import Derived.Maps.AppendAt
import Derived.RowKitTokens
import Derived.WalkSmall
import Derived.ProofKit
import Derived.Maps.OwnSet
import Derived.Maps.Range
import Derived.OneCell
import Derived.DeepKeys4
import Derived.Deep.AppendLies
import Derived.Deep.RegionLaw
import Derived.Deep.RegionHeld3
import Derived.Deep.DrawnRows
import Derived.Deep.DeepCutAuto
import Derived.Deep.LoopGhost
import Derived.Below
import Derived.ArgAppend
import Derived.Deep.QuietTactic
import Derived.BigQuiet
import Derived.LaidEql
import Derived.Stop.Asserts
import Derived.Laws.MakeOwn
import Derived.Shelf.Abstract
namespace Go.Proofs.YtgehimdkdeldaabGreatDoor
section
/-- An operation that only reads is taken first. -/
theorem tk9 {P : Program} {md : Region.Mode} {ops : Array Oper} {Q : Exit → Act → World → Prop} {S : World → Prop} (i : Nat) {oi : Oper} (v : Value) {fuel : Nat} {listed : Array Bool} {a : Act} {w : World} (hi : ops[i]? = some oi) (hy : ∀ w, S w → (execOp a.eval oi).run P w = .ok (.value v) w)
    (h : wpAnyH P md ops Q S fuel (listed.setIfInBounds i true) (a.put oi.dst v) w)
    (hb : (Region.noSelect ops && (Region.free md ops listed i && (Region.ready md ops listed).contains i)) = true := by kernel_rfl) (hQ : ∀ c a w, Q (.panic c) (a.put oi.dst v) w → Q (.panic c) a w := by exact fun _ _ _ h => h) (hw : Region.wanted oi (yielded ops a.tmps) = true := by rfl) (hS : S w := by assumption) : wpAnyH P md ops Q S (fuel + 1) listed a w := by
  rw [Bool.and_eq_true, Bool.and_eq_true] at hb
  exact wpAnyH_take hi hb.1 hb.2.1 hb.2.2 hQ (Or.inl ⟨hw, hy⟩) hS h
/-- As tk9, what is read found by the walk itself. -/
theorem tk8 {P : Program} {md : Region.Mode} {ops : Array Oper} {Q : Exit → Act → World → Prop} {S : World → Prop} (i : Nat) {oi : Oper} {v : Value} {fuel : Nat} {listed : Array Bool} {a : Act} {w : World} (hi : ops[i]? = some oi)
    (h : wpAnyH P md ops Q S fuel (listed.setIfInBounds i true) (a.put oi.dst v) w)
    (hb : (Region.noSelect ops && (Region.free md ops listed i && (Region.ready md ops listed).contains i)) = true := by kernel_rfl) (hQ : ∀ c a w, Q (.panic c) (a.put oi.dst v) w → Q (.panic c) a w := by exact fun _ _ _ h => h) (hw : Region.wanted oi (yielded ops a.tmps) = true := by rfl) (hS : S w := by assumption)
    (hy : ∀ w, S w → (execOp a.eval oi).run P w = .ok (.value v) w := by intro w hSw; (try dsimp only at hSw); go_simp; (try with_reducible rfl)) : wpAnyH P md ops Q S (fuel + 1) listed a w := tk9 i v hi hy h hb hQ hw hS
theorem ty9 : (∀ {α : Type} {l : List α} {i : Nat} (h : i < l.toArray.size), l.toArray[i] = l[i]'h) ∧ (∀ {α : Type} (a : α) (xs : List α) (i : Nat) (h : i + 1 < (a :: xs).length), (a :: xs)[i + 1] = xs[i]'(Nat.lt_of_succ_lt_succ h)) ∧ (∀ {α : Type} (a : α) (xs : List α) (h : 0 < (a :: xs).length), (a :: xs)[0] = a) ∧ (∀ {α : Type} (l : List α) (i : Nat) (a : α), l.toArray.setIfInBounds i a = (l.set i a).toArray) ∧ (∀ {α : Type} (a : α) (xs : List α) (b : α), (a :: xs).set 0 b = b :: xs) ∧ (∀ {α : Type} (a : α) (xs : List α) (n : Nat) (b : α), (a :: xs).set (n + 1) b = a :: xs.set n b) :=
  ⟨fun h => List.getElem_toArray h, fun _ _ _ h => List.getElem_cons_succ _ _ _ h, fun _ _ _ => rfl, fun l i a => by simp, fun _ _ _ => rfl, fun _ _ _ _ => rfl⟩
end
section
def kindsOf (P : Program) (fn : Func) : List (Option IntKind) := fn.params.toList.map fun t => match P.underlying t with | some (.int k) => some k | _ => none
theorem joined_by {P : Program} {f : FuncId} {fn : Func} {s : ChangeSpec} {c : OpenClaim}
 (h1 : c.wf (OpenSpec.ofChange s) = true) (h2 : laidOutB P = true) (h3 : mapsRowed P = true)
 (h4 : fn.params.all (P.readableRec ·) = true) (h5 : namedTie P c.named s.vars = true)
 (h6 : ((c.stops == []) && (P.stops == []) && (c.knobs == []) && (P.stopKnobs == [])) = true)
 (h7 : (c.inPlace == P.inPlace f) = true) (h8 : (c.unfollowed == P.unfollowed f) = true) (h9 : (c.recurses == P.recurses f) = true) (h10 : (c.named == P.varsNamed f) = true)
 (h11 : ((c.maps == (fn.params.toList ++ s.plain.varTypes P).any (P.mapsRec ·)) && (c.ifaces == (fn.params.toList ++ s.plain.varTypes P).any (P.ifacesRec ·)) && (c.mapsOut == P.mapsAmong fn.resultTypes.toList) &&
   (c.loops == (fn.params.toList ++ s.plain.varTypes P).any (P.loopsFrom ·)) && (c.wideKeys == (fn.params.toList ++ s.plain.varTypes P ++ fn.resultTypes.toList).any (P.wideKeysFrom ·))) = true)
 (h12 : (s.vars.all (P.varReadable ·) && fn.resultTypes.all (fun t => P.readableRec t && decide (t < P.types.size)) && (c.ifacesOut == fn.resultTypes.toList.any (P.ifacesRec ·)) && (c.loopsOut == fn.resultTypes.toList.any (P.loopsFrom ·))) = true)
 (h13 : (c.plainKeys == P.plainKeys) = true) (h14 : c.shortTexts.isNone = true) (h15 : P.stopsHeard = true) (h16 : P.mayEnter = true) (h17 : (c.lifted == P.liftsFinal) = true) (h18 : (P.make == some c.make) = true)
 (h19 : ((c.kinds == (if c.domain.isEmpty then [] else kindsOf P fn)) && (c.pinned == c.pinnedBy)) = true)
 (h20 : ((c.veiled == (fn.params.toList ++ s.plain.varTypes P ++ fn.resultTypes.toList).any (P.veiledRec ·)) && c.veiledFits P fn.params.toList (fn.params.toList ++ s.plain.varTypes P ++ fn.resultTypes.toList)) = true) :
 joinedFacts P f fn s c = true := by
 simp only [Bool.and_eq_true] at h6 h11 h12 h19 h20
 unfold joinedFacts
 simp only [Bool.and_eq_true, and_assoc]
 obtain ⟨⟨⟨a1, a2⟩, a3⟩, a4⟩ := h6
 obtain ⟨⟨⟨⟨b1, b2⟩, b3⟩, b4⟩, b5⟩ := h11
 obtain ⟨⟨⟨c1, c2⟩, c3⟩, c4⟩ := h12
 exact ⟨h1, h2, h3, h4, h5, a1, a2, a3, a4, h7, h8, h9, h10, b1, b2, b3, b4, b5, c1, c2, c3, c4, h13, h14, h15, h16, h17, h18, h19.1, h19.2, h20.1, h20.2⟩
#print axioms joined_by
end
section
theorem dg_j1 : Rows.distinguishGrowsRow.wf (OpenSpec.ofChange Rows.distinguishGrowsSpec) = true := by kernel_rfl
theorem dg_j2 : laidOutB Tryz.prog = true := by kernel_rfl
theorem dg_j3 : mapsRowed Tryz.prog = true := by kernel_rfl
theorem dg_j4 : Tryz.f3.params.all (Tryz.prog.readableRec ·) = true := by kernel_rfl
theorem dg_j5 : namedTie Tryz.prog Rows.distinguishGrowsRow.named Rows.distinguishGrowsSpec.vars = true := by kernel_rfl
theorem dg_j6 : ((Rows.distinguishGrowsRow.stops == []) && (Tryz.prog.stops == []) && (Rows.distinguishGrowsRow.knobs == []) && (Tryz.prog.stopKnobs == [])) = true := by kernel_rfl
theorem dg_j7 : (Rows.distinguishGrowsRow.inPlace == Tryz.prog.inPlace 3) = true := by kernel_rfl
theorem dg_j8 : (Rows.distinguishGrowsRow.unfollowed == Tryz.prog.unfollowed 3) = true := by kernel_rfl
theorem dg_j9 : (Rows.distinguishGrowsRow.recurses == Tryz.prog.recurses 3) = true := by kernel_rfl
theorem dg_j10 : (Rows.distinguishGrowsRow.named == Tryz.prog.varsNamed 3) = true := by kernel_rfl
theorem dg_j11 : ((Rows.distinguishGrowsRow.maps == (Tryz.f3.params.toList ++ Rows.distinguishGrowsSpec.plain.varTypes Tryz.prog).any (Tryz.prog.mapsRec ·)) && (Rows.distinguishGrowsRow.ifaces == (Tryz.f3.params.toList ++ Rows.distinguishGrowsSpec.plain.varTypes Tryz.prog).any (Tryz.prog.ifacesRec ·)) && (Rows.distinguishGrowsRow.mapsOut == Tryz.prog.mapsAmong Tryz.f3.resultTypes.toList) && (Rows.distinguishGrowsRow.loops == (Tryz.f3.params.toList ++ Rows.distinguishGrowsSpec.plain.varTypes Tryz.prog).any (Tryz.prog.loopsFrom ·)) && (Rows.distinguishGrowsRow.wideKeys == (Tryz.f3.params.toList ++ Rows.distinguishGrowsSpec.plain.varTypes Tryz.prog ++ Tryz.f3.resultTypes.toList).any (Tryz.prog.wideKeysFrom ·))) = true := by kernel_rfl
theorem dg_j12 : (Rows.distinguishGrowsSpec.vars.all (Tryz.prog.varReadable ·) && Tryz.f3.resultTypes.all (fun t => Tryz.prog.readableRec t && decide (t < Tryz.prog.types.size)) && (Rows.distinguishGrowsRow.ifacesOut == Tryz.f3.resultTypes.toList.any (Tryz.prog.ifacesRec ·)) && (Rows.distinguishGrowsRow.loopsOut == Tryz.f3.resultTypes.toList.any (Tryz.prog.loopsFrom ·))) = true := by kernel_rfl
theorem dg_j13 : (Rows.distinguishGrowsRow.plainKeys == Tryz.prog.plainKeys) = true := by kernel_rfl
theorem dg_j14 : Rows.distinguishGrowsRow.shortTexts.isNone = true := by kernel_rfl
theorem dg_j15 : Tryz.prog.stopsHeard = true := by kernel_rfl
theorem dg_j16 : Tryz.prog.mayEnter = true := by kernel_rfl
theorem dg_j17 : (Rows.distinguishGrowsRow.lifted == Tryz.prog.liftsFinal) = true := by kernel_rfl
theorem dg_j18 : (Tryz.prog.make == some Rows.distinguishGrowsRow.make) = true := by kernel_rfl
theorem dg_j19 : ((Rows.distinguishGrowsRow.kinds == (if Rows.distinguishGrowsRow.domain.isEmpty then [] else kindsOf Tryz.prog Tryz.f3)) && (Rows.distinguishGrowsRow.pinned == Rows.distinguishGrowsRow.pinnedBy)) = true := by kernel_rfl
theorem dg_j20 : ((Rows.distinguishGrowsRow.veiled == (Tryz.f3.params.toList ++ Rows.distinguishGrowsSpec.plain.varTypes Tryz.prog ++ Tryz.f3.resultTypes.toList).any (Tryz.prog.veiledRec ·)) && Rows.distinguishGrowsRow.veiledFits Tryz.prog Tryz.f3.params.toList (Tryz.f3.params.toList ++ Rows.distinguishGrowsSpec.plain.varTypes Tryz.prog ++ Tryz.f3.resultTypes.toList)) = true := by kernel_rfl
theorem dg_joined : joinedFacts Tryz.prog 3 Tryz.f3 Rows.distinguishGrowsSpec Rows.distinguishGrowsRow = true :=
 joined_by dg_j1 dg_j2 dg_j3 dg_j4 dg_j5 dg_j6 dg_j7 dg_j8 dg_j9 dg_j10 dg_j11 dg_j12 dg_j13 dg_j14 dg_j15 dg_j16 dg_j17 dg_j18 dg_j19 dg_j20
theorem dg_named : Tryz.prog.funcNamed "semblance/semblancelaw16.DistinguishGrows" = some 3 := by kernel_rfl
theorem dg_inst : Tryz.f3.isInstance Tryz.prog Rows.distinguishGrowsRow.origin Rows.distinguishGrowsRow.targs := of_decide_eq_true (by kernel_rfl)
theorem dg_wrap : Tryz.f3.isWrapper Tryz.prog Rows.distinguishGrowsRow.wrapper Rows.distinguishGrowsRow.mainSum := by unfold Func.isWrapper; rw [if_neg (of_decide_eq_false (by kernel_rfl))]; exact ⟨rfl, rfl⟩
#print axioms dg_joined
#print axioms dg_wrap
end
namespace Sy
abbrev Ed : Type := Int × Int × Int
def lt (a b : Ed) : Bool := if a.1 != b.1 then decide (a.1 < b.1) else if a.2.1 != b.2.1 then decide (a.2.1 < b.2.1) else decide (a.2.2 < b.2.2)
theorem lt_iff (a b : Ed) : lt a b = true ↔ a.1 < b.1 \/ a.1 = b.1 /\ (a.2.1 < b.2.1 \/ a.2.1 = b.2.1 /\ a.2.2 < b.2.2) := by
 unfold lt
 by_cases h1 : a.1 = b.1
 ·by_cases h2 : a.2.1 = b.2.1 <;> simp [h1, h2]
 ·simp [h1]
theorem lt_irrefl (a : Ed) : lt a a = false := by
 cases h : lt a a with
 | false => rfl
 | true => rw [lt_iff] at h; omega
theorem lt_trans {a b c : Ed} (h1 : lt a b = true) (h2 : lt b c = true) : lt a c = true := by
 rw [lt_iff] at *; omega
theorem lt_asymm {a b : Ed} (h : lt a b = true) : lt b a = false := by
 cases h2 : lt b a with
 | false => rfl
 | true => rw [lt_iff] at h h2; omega
theorem eq_of_not {a b : Ed} (h1 : lt a b = false) (h2 : lt b a = false) : a = b := by
 have h3 : ¬ lt a b = true := by rw [h1]; simp
 have h4 : ¬ lt b a = true := by rw [h2]; simp
 rw [lt_iff] at h3 h4
 obtain ⟨x, y, z⟩ := a
 obtain ⟨u, v, w⟩ := b
 simp only at h3 h4
 have e1 : x = u := by omega
 have e2 : y = v := by omega
 have e3 : z = w := by omega
 rw [e1, e2, e3]
def Str : List Ed -> Prop
 | [] => True
 | [_] => True
 | a :: b :: r => lt a b = true /\ Str (b :: r)
theorem Str.tail {a : Ed} {r : List Ed} (h : Str (a :: r)) : Str r := by
 cases r with
 | nil => trivial
 | cons b s => exact h.2
theorem Str.head {a : Ed} {r : List Ed} (h : Str (a :: r)) : ∀ x ∈ r, lt a x = true := by
 induction r generalizing a with
 | nil => intro x hx; simp at hx
 | cons b s ih =>
   intro x hx
   rcases List.mem_cons.1 hx with rfl | hx
   ·exact h.1
   ·exact lt_trans h.1 (ih h.2 x hx)
theorem Str.cons {a : Ed} {r : List Ed} (h : Str r) (h2 : ∀ x ∈ r, lt a x = true) : Str (a :: r) := by
 cases r with
 | nil => trivial
 | cons b s => exact ⟨h2 b List.mem_cons_self, h⟩
theorem Str.snoc {l : List Ed} {x : Ed} (h : Str l) (h2 : ∀ y ∈ l, lt y x = true) : Str (l ++ [x]) := by
 induction l with
 | nil => trivial
 | cons a r ih =>
   refine Str.cons (ih h.tail fun y hy => h2 y (List.mem_cons_of_mem _ hy)) fun y hy => ?_
   rcases List.mem_append.1 hy with hy | hy
   ·exact h.head y hy
   ·rw [List.mem_singleton.1 hy]; exact h2 a List.mem_cons_self
theorem Str.unique {l m : List Ed} (hl : Str l) (hm : Str m) (h : ∀ x, x ∈ l ↔ x ∈ m) : l = m := by
 induction l generalizing m with
 | nil =>
   cases m with
   | nil => rfl
   | cons b s => exact absurd ((h b).2 List.mem_cons_self) (by simp)
 | cons a r ih =>
   cases m with
   | nil => exact absurd ((h a).1 List.mem_cons_self) (by simp)
   | cons b s =>
     have e : a = b := by
      rcases List.mem_cons.1 ((h a).1 List.mem_cons_self) with e | ha
      ·exact e
      ·rcases List.mem_cons.1 ((h b).2 List.mem_cons_self) with e | hb
       ·exact e.symm
       ·have h1 := hm.head a ha
        have h2 := hl.head b hb
        rw [lt_asymm h1] at h2
        cases h2
     subst e
     congr 1
     refine ih hl.tail hm.tail fun x => ⟨fun hx => ?_, fun hx => ?_⟩
     ·rcases List.mem_cons.1 ((h x).1 (List.mem_cons_of_mem _ hx)) with e | hx2
      ·subst e; have h1 := hl.head x hx; rw [lt_irrefl] at h1; cases h1
      ·exact hx2
     ·rcases List.mem_cons.1 ((h x).2 (List.mem_cons_of_mem _ hx)) with e | hx2
      ·subst e; have h1 := hm.head x hx; rw [lt_irrefl] at h1; cases h1
      ·exact hx2
def ins (x : Ed) : List Ed -> List Ed
 | [] => [x]
 | a :: r => if lt x a then x :: a :: r else if lt a x then a :: ins x r else a :: r
theorem ins_mem (x y : Ed) (l : List Ed) : y ∈ ins x l ↔ y = x \/ y ∈ l := by
 induction l with
 | nil => simp [ins]
 | cons a r ih =>
   unfold ins
   cases h1 : lt x a with
   | true => simp
   | false =>
     cases h2 : lt a x with
     | true =>
       simp only [Bool.false_eq_true, if_false, if_true, List.mem_cons, ih]
       constructor
       ·rintro (h | h | h) <;> simp [h]
       ·rintro (h | h | h) <;> simp [h]
     | false =>
       have e := eq_of_not h1 h2
       subst e
       simp
theorem ins_str (x : Ed) (l : List Ed) (h : Str l) : Str (ins x l) := by
 induction l with
 | nil => trivial
 | cons a r ih =>
   unfold ins
   cases h1 : lt x a with
   | true => exact ⟨h1, h⟩
   | false =>
     cases h2 : lt a x with
     | true =>
       simp only [Bool.false_eq_true, if_false, if_true]
       refine Str.cons (ih h.tail) fun y hy => ?_
       rcases (ins_mem x y r).1 hy with rfl | hy
       ·exact h2
       ·exact h.head y hy
     | false => exact h
def nf : List Ed -> List Ed
 | [] => []
 | a :: r => ins a (nf r)
theorem nf_mem (l : List Ed) (x : Ed) : x ∈ nf l ↔ x ∈ l := by
 induction l with
 | nil => simp [nf]
 | cons a r ih => simp [nf, ins_mem, ih]
theorem nf_str (l : List Ed) : Str (nf l) := by
 induction l with
 | nil => trivial
 | cons a r ih => exact ins_str a _ ih
theorem nf_of {l m : List Ed} (h : Str m) (hm : ∀ x, x ∈ m ↔ x ∈ l) : m = nf l := h.unique (nf_str l) fun x => (hm x).trans (nf_mem l x).symm
theorem ins_len (x : Ed) (l : List Ed) : (ins x l).length <= l.length + 1 := by
 induction l with
 | nil => simp [ins]
 | cons a r ih =>
   unfold ins
   cases h1 : lt x a <;> cases h2 : lt a x <;> simp <;> omega
theorem nf_len (l : List Ed) : (nf l).length <= l.length := by
 induction l with
 | nil => simp [nf]
 | cons a r ih => have := ins_len a (nf r); simp only [nf, List.length_cons]; omega
theorem str_len {m l : List Ed} (h : Str m) (hs : ∀ x ∈ m, x ∈ l) : m.length <= l.length := by
 have e : m = nf m := nf_of h fun _ => Iff.rfl
 induction m generalizing l with
 | nil => simp
 | cons a r ih =>
   have ha := hs a List.mem_cons_self
   have h1 : r.length <= (l.erase a).length := by
    refine ih h.tail (fun x hx => ?_) (nf_of h.tail fun _ => Iff.rfl)
    have h2 := h.head x hx
    have hne : x ≠ a := fun e => by rw [e, lt_irrefl] at h2; cases h2
    exact (List.mem_erase_of_ne hne).2 (hs x (List.mem_cons_of_mem _ hx))
   rw [List.length_erase_of_mem ha] at h1
   have := List.length_pos_of_mem ha
   simp only [List.length_cons]
   omega
def put (out : List Ed) (e : Ed) : List Ed := if out.getLast? = some e then out else out ++ [e]
theorem put_str {out : List Ed} {e : Ed} (h : Str out) (hle : ∀ x ∈ out, lt e x = false) : Str (put out e) := by
 unfold put
 split
 ·exact h
 ·rename_i hne
  refine h.snoc fun y hy => ?_
  have hys : ∀ (l : List Ed) (z : Ed), Str l -> l.getLast? = some z -> ∀ y ∈ l, y = z \/ lt y z = true := fun l => by
   induction l with
   | nil => intro z _ hz; simp at hz
   | cons a r ih =>
     intro z hs hz y hy
     cases r with
     | nil => simp at hz hy; subst hz; exact .inl hy
     | cons b s =>
       rw [List.getLast?_cons_cons] at hz
       rcases List.mem_cons.1 hy with rfl | hy
       ·have hzm := List.mem_of_getLast? hz
        exact .inr (hs.head z hzm)
       ·exact ih z hs.tail hz y hy
  cases hl : out.getLast? with
  | none => rw [List.getLast?_eq_none_iff] at hl; subst hl; simp at hy
  | some z =>
    have hzm := List.mem_of_getLast? hl
    have hz1 : lt z e = true := by
     cases h1 : lt z e with
     | true => rfl
     | false => exact absurd (by rw [hl, eq_of_not h1 (hle z hzm)]) hne
    rcases hys out z h hl y hy with rfl | h2
    ·exact hz1
    ·exact lt_trans h2 hz1
theorem put_mem (out : List Ed) (e x : Ed) : x ∈ put out e ↔ x ∈ out \/ x = e := by
 unfold put
 split
 ·rename_i h
  have := List.mem_of_getLast? h
  constructor
  ·exact .inl
  ·rintro (h | rfl)
   ·exact h
   ·exact this
 ·simp
structure Mg (a b : List Ed) (i k : Nat) (out : List Ed) : Prop where
 s : Str out
 m : ∀ x, x ∈ out ↔ x ∈ a.take i \/ x ∈ b.take k
 ha : ∀ x ∈ out, ∀ y ∈ a.drop i, lt y x = false
 hb : ∀ x ∈ out, ∀ y ∈ b.drop k, lt y x = false
def right (n k s : Int) (es : List Ed) : Bool :=
 decide (0 <= n /\ n <= 1000 /\ 1 <= k /\ k <= 201 /\ es.length <= 10000) && decide ((n = 0 -> s = 0) /\ (0 < n -> 0 <= s /\ s < n)) && es.all fun e => decide (0 <= e.1 /\ e.1 < n /\ 0 <= e.2.2 /\ e.2.2 < n /\ 0 <= e.2.1 /\ e.2.1 < k)
def turn (e : Ed) : Ed := (e.2.2, e.2.1, e.1)
def place (c : Int) : List Int -> Nat
 | [] => 0
 | a :: r => if a = c then 0 else place c r + 1
theorem place_le (c : Int) (l : List Int) : place c l <= l.length := by
 induction l with
 | nil => simp [place]
 | cons a r ih => unfold place; split <;> simp <;> omega
def canonG : List Int -> List Int -> List Nat
 | _, [] => []
 | seen, c :: r => place c seen :: canonG (if place c seen < seen.length then seen else seen ++ [c]) r
def canon (l : List Int) : List Nat := canonG [] l
def seenG : List Int -> List Int -> List Int
 | seen, [] => seen
 | seen, c :: r => seenG (if place c seen < seen.length then seen else seen ++ [c]) r
theorem canonG_len (l : List Int) : ∀ seen, (canonG seen l).length = l.length := by
 induction l with
 | nil => intro _; rfl
 | cons c r ih => intro seen; simp [canonG, ih]
theorem canonG_app (a b : List Int) : ∀ seen, canonG seen (a ++ b) = canonG seen a ++ canonG (seenG seen a) b := by
 induction a with
 | nil => intro _; rfl
 | cons c r ih => intro seen; simp only [List.cons_append, canonG, seenG]; rw [ih]
theorem seenG_app (a b : List Int) : ∀ seen, seenG seen (a ++ b) = seenG (seenG seen a) b := by
 induction a with
 | nil => intro _; rfl
 | cons c r ih => intro seen; simp only [List.cons_append, seenG]; rw [ih]
theorem seenG_len (l : List Int) : ∀ seen, (seenG seen l).length <= seen.length + l.length := by
 induction l with
 | nil => intro _; simp [seenG]
 | cons c r ih =>
   intro seen
   simp only [seenG]
   have h1 := ih (if place c seen < seen.length then seen else seen ++ [c])
   have h2 : (if place c seen < seen.length then seen else seen ++ [c]).length <= seen.length + 1 := by split <;> simp
   simp only [List.length_cons]
   omega
def top : List Nat -> Nat
 | [] => 0
 | k :: r => max (k + 1) (top r)
def together (l : List Int) : Nat := top (canon l)
def formG : Nat -> List Int -> Bool
 | _, [] => true
 | n, c :: r => decide (0 <= c /\ c <= n) && formG (if c = (n : Int) then n + 1 else n) r
end Sy
section
open Go.RowKit
end
section
open Go.RowKit Go.Maps
theorem t_lt {w : World} {b : Nat} {o : Obj} (h : w.heap[b]? = some o) : b < w.heap.size := (Array.getElem?_eq_some_iff.1 h).1
theorem cell_up {w W : World} {b o : Nat} {v : Value} (hc : w.cell? ⟨b, o, none⟩ = some v) (hb : Below w.heap.size w W) : W.cell? ⟨b, o, none⟩ = some v := (hb.cell (World.block_lt_of_cell? w _ hc)).trans hc
theorem blk_free {w : World} {b : Nat} {cs : Array Value} {t : TypeId} (h : w.heap[b]? = some (.cells cs t (0, 0))) (k : Nat) : w.frozen? ⟨b, k, none⟩ = false := by simp [World.frozen?, h]
theorem cell0_of {w : World} {b : Nat} {cs : Array Value} {ty : TypeId} {v : Value} {k : Nat} (h : w.heap[b]? = some (.cells cs ty (0, 0))) (h0 : cs[k]? = some v) : w.cell? ⟨b, k, none⟩ = some v := by simp [World.cell?, h, h0]
theorem addz (g i : Nat) : (⟨g, 0, none⟩ : Addr).add i = ⟨g, i, none⟩ := by unfold Addr.add; split <;> simp_all
theorem set_other (w : World) (b o i : Nat) (u : Value) (h : i ≠ b) : (w.setCell ⟨b, o, none⟩ u).heap[i]? = w.heap[i]? := by
 simp only [World.setCell]
 rw [Array.getElem?_modify, if_neg (fun e => h e.symm)]
theorem row_shape {w : World} {base : Nat} {e : TypeId} {size : Nat} {v : Value} {n : Nat} {xs : List Value} (h : w.ownsRow base e size v n xs) : ∃ ao cap, v = .slice ao n cap := by
 rcases h.2 with ⟨rfl, h0⟩ | ⟨g, cap, cur, rfl, _⟩
 ·exact ⟨none, 0, by rw [h0]⟩
 ·exact ⟨_, _, rfl⟩
theorem trow_at {w w' : World} {base : Nat} {e : TypeId} {size : Nat} {v : Value} {n : Nat} {xs : List Value} (h : w.ownsRow base e size v n xs) (hb : ∀ i, v.ownBlock = some i -> w'.heap[i]? = w.heap[i]?) : w'.ownsRow base e size v n xs := by
 refine ⟨h.1, ?_⟩
 rcases h.2 with h2 | ⟨g, cap, cur, rfl, h3, hg, h4⟩
 ·exact .inl h2
 ·exact .inr ⟨g, cap, cur, rfl, h3, by rw [hb g rfl]; exact hg, h4⟩
theorem row_base {w : World} {base base' : Nat} {e : TypeId} {size : Nat} {v : Value} {n : Nat} {xs : List Value} (h : w.ownsRow base e size v n xs) (hb : base' <= base) : w.ownsRow base' e size v n xs := by
 refine ⟨h.1, ?_⟩
 rcases h.2 with h2 | ⟨g, cap, cur, rfl, h3, hg, h4⟩
 ·exact .inl h2
 ·exact .inr ⟨g, cap, cur, rfl, by omega, hg, h4⟩
theorem row_cells {w : World} {base : Nat} {e : TypeId} {size : Nat} {v : Value} {n : Nat} {xs : List Value} (h : w.ownsRow base e size v n xs) {i : Nat} (hi : v.ownBlock = some i) : ∃ c, w.heap[i]? = some (.cells c e (0, 0)) := by
 rcases h.2 with ⟨rfl, _⟩ | ⟨g, cap, cur, rfl, _, hg, _⟩
 ·cases hi
 ·simp only [Value.ownBlock, Option.some.injEq] at hi
  exact ⟨cur, hi ▸ hg⟩
structure Kept (F : Nat -> Prop) (w w' : World) : Prop where
 os : w'.os = w.os
 tape : w'.tape = w.tape
 output : w'.output = w.output
 size : w.heap.size <= w'.heap.size
 block : ∀ k, k < w.heap.size -> ¬ F k -> w'.heap[k]? = w.heap[k]?
theorem Kept.refl (F : Nat -> Prop) (w : World) : Kept F w w := ⟨rfl, rfl, rfl, Nat.le_refl _, fun _ _ _ => rfl⟩
theorem Kept.trans {F : Nat -> Prop} {a b c : World} (h : Kept F a b) (k : Kept F b c) : Kept F a c :=
 ⟨k.os.trans h.os, k.tape.trans h.tape, k.output.trans h.output, Nat.le_trans h.size k.size, fun i hi hf => (k.block i (Nat.lt_of_lt_of_le hi h.size) hf).trans (h.block i hi hf)⟩
theorem Kept.mono {F G : Nat -> Prop} {a b : World} (h : Kept F a b) (hs : ∀ k, k < a.heap.size -> F k -> G k) : Kept G a b := ⟨h.os, h.tape, h.output, h.size, fun i hi hg => h.block i hi fun hf => hg (hs i hi hf)⟩
theorem Kept.of_below {F : Nat -> Prop} {a b : World} (h : Below a.heap.size a b) : Kept F a b := ⟨h.os, h.tape, h.output, h.size, fun i hi _ => h.block i hi⟩
theorem Kept.of_grown {a b : World} {row : Option Nat} (h : a.grownBy b row) : Kept (fun i => row = some i) a b := ⟨h.os, h.tape, h.output, h.size, fun i hi hn => h.block i hi fun e => hn e.symm⟩
theorem Kept.below {F : Nat -> Prop} {a b : World} (h : Kept F a b) {B : Nat} (hB : B <= a.heap.size) (hF : ∀ k, F k -> B <= k) : Below B a b := ⟨h.os, h.tape, h.output, h.size, fun i hi => h.block i (by omega) fun hf => by have := hF i hf; omega⟩
theorem Kept.setCell (a : World) (b o : Nat) (u : Value) : Kept (fun i => i = b) a (a.setCell ⟨b, o, none⟩ u) := by
 have h : Below b a (a.setCell ⟨b, o, none⟩ u) := Below.setCell (Below.refl b a) (Nat.le_refl _) u
 exact ⟨h.os, h.tape, h.output, h.size, fun i _ hn => set_other _ _ _ _ _ hn⟩
theorem Kept.trans2 {F G : Nat -> Prop} {a b c : World} (h : Kept F a b) (k : Kept G b c) (hG : ∀ i, G i -> F i \/ a.heap.size <= i) : Kept F a c :=
 ⟨k.os.trans h.os, k.tape.trans h.tape, k.output.trans h.output, Nat.le_trans h.size k.size, fun i hi hf => (k.block i (Nat.lt_of_lt_of_le hi h.size) fun hg => (hG i hg).elim hf fun h => by omega).trans (h.block i hi hf)⟩
theorem below_of_drew3 {w w1 : World} (h : Below w.drew.heap.size w.drew w1) : Below w.heap.size w w1 := (Below.refl _ w).drew.trans h
def HasI (w : World) (v : Value) (zs : List Int) : Prop := ∃ ao cap, v = .slice ao zs.length cap /\ ∀ (i : Nat) (z : Int), zs[i]? = some z -> ∃ a, ao = some a /\ w.cell? (a.add i) = some (.int .i64 z)
theorem HasI.below {w w' : World} {v : Value} {zs : List Int} (h : HasI w v zs) (hb : Below w.heap.size w w') : HasI w' v zs := by
 obtain ⟨ao, cap, h1, h2⟩ := h
 refine ⟨ao, cap, h1, fun i p hi => ?_⟩
 obtain ⟨a, ha, c0⟩ := h2 i p hi
 exact ⟨a, ha, (hb.cell (World.block_lt_of_cell? w _ c0)).trans c0⟩
def iC (zs : List Int) : List Value := zs.map (Value.int .i64)
theorem iC_length (zs : List Int) : (iC zs).length = zs.length * 1 := by simp [iC]
theorem iC_one (zs : List Int) : ∀ u ∈ iC zs, u.oneCell' = true := fun u hu => by
 obtain ⟨z, _, rfl⟩ := List.mem_map.1 hu; rfl
def OwnI (w : World) (B : Nat) (v : Value) (zs : List Int) : Prop := w.ownsRow B 3 1 v zs.length (iC zs)
theorem OwnI.has {w : World} {B : Nat} {v : Value} {zs : List Int} (h : OwnI w B v zs) : HasI w v zs := by
 rcases h.2 with ⟨rfl, h0⟩ | ⟨g, cap, cur, rfl, _⟩
 ·obtain rfl : zs = [] := List.eq_nil_of_length_eq_zero h0
  exact ⟨none, 0, rfl, fun i z hi => by simp at hi⟩
 ·refine ⟨_, cap, rfl, fun i z hi => ⟨_, rfl, ?_⟩⟩
  have hlt := (List.getElem?_eq_some_iff.1 hi).1
  rw [addz, h.cellAt i (by omega)]
  simp [iC, hi]
theorem Tryz.infoI3 : (Tryz.prog.info? 3).map (fun i => (i.zero, i.size, i.bytes)) = some (some (.int .i64 0), 1, 8) := by kernel_rfl
theorem OwnI.cell {w : World} {B g cap n : Nat} {zs : List Int} (h : OwnI w B (.slice (some ⟨g, 0, none⟩) n cap) zs) {i : Nat} {z : Int} (hi : zs[i]? = some z) : w.cell? ⟨g, i, none⟩ = some (.int .i64 z) := by
 have hlt := (List.getElem?_eq_some_iff.1 hi).1
 obtain ⟨ao, cap', e, h2⟩ := h.has
 injection e with e1 e2 e3
 obtain ⟨a, ha, hc⟩ := h2 i z hi
 rw [<- e1] at ha
 have := Option.some.inj ha
 rw [<- this, addz] at hc
 exact hc
theorem two_alloc (w : World) (o p : Obj) : ((w.alloc o).alloc p).heap[w.heap.size + 1]? = some p := by
 have h := (MapKept.heap_alloc (w.alloc o) p).1
 simpa using h
theorem take_succ_of {α : Type} {l : List α} {j : Nat} {x : α} (h : l[j]? = some x) : l.take (j + 1) = l.take j ++ [x] := by
 obtain ⟨hlt, rfl⟩ := List.getElem?_eq_some_iff.1 h
 exact List.take_succ_eq_append_getElem hlt
def LsF (ls : List Value) (b : Nat) : Prop := ∃ l ∈ ls, l.ownBlock = some b
theorem own_bk {w : World} {B : Nat} {e t : TypeId} {s : Nat} {v : Value} {n : Nat} {xs : List Value} {bk : Nat} {cs : Array Value} (h : w.ownsRow B e s v n xs) (hb : w.heap[bk]? = some (.cells cs t (0, 0))) (hne : e ≠ t) : v.ownBlock ≠ some bk := fun hk => by
 obtain ⟨c1, hc1⟩ := row_cells h hk
 rw [hc1] at hb
 injection hb with e
 injection e with _ e
 exact hne e
theorem grown_alloc {w w2 : World} {x : Obj} {r : Option Nat} (hg : (w.alloc x).grownBy w2 r) : Kept (fun b => r = some b) w w2 := (Kept.of_below ((Below.refl _ _).alloc (Nat.le_refl _) _)).trans (Kept.of_grown hg)
theorem own_up {w w' : World} {base : Nat} {e : TypeId} {size : Nat} {v : Value} {n : Nat} {xs : List Value} {F : Nat -> Prop} (h : w.ownsRow base e size v n xs) (hk : Kept F w w') (hF : ∀ b, v.ownBlock = some b -> ¬ F b) : w'.ownsRow base e size v n xs := trow_at h fun b hb => hk.block b (h.lt b hb).2 (hF b hb)
end
section
def Sy.steps (es : List Sy.Ed) (i : Int) : List (Int × Int) := (es.filter fun e => e.1 == i).map fun e => (e.2.1, e.2.2)
theorem Sy.steps_len (es : List Sy.Ed) (i : Int) : (Sy.steps es i).length <= es.length := by
 unfold Sy.steps
 rw [List.length_map]
 exact List.length_filter_le _ _
end
section
open Go.RowKit
end
namespace BSteps
open Go.RowKit Go.Maps
attribute [local go_sem ↓] Go.wp_at_zero Go.wp_at_succ
abbrev El : Type := Int × Int
def enc (z : El) : List Value := [.int .i64 z.1, .int .i64 z.2]
def C (zs : List El) : List Value := zs.flatMap enc
theorem enc_len (z : El) : (enc z).length = 2 := rfl
theorem C_len (zs : List El) : (C zs).length = zs.length * 2 := by
 unfold C
 induction zs with
 | nil => rfl
 | cons z r ih => rw [List.flatMap_cons, List.length_append, ih, enc_len, List.length_cons]; omega
theorem C_one (zs : List El) : ∀ u ∈ C zs, u.oneCell' = true := fun u hu => by
 obtain ⟨z, _, hz⟩ := List.mem_flatMap.1 hu
 simp only [enc, List.mem_cons, List.not_mem_nil, or_false] at hz
 rcases hz with rfl | rfl <;> rfl
theorem C_at : ∀ (zs : List El) (k : Nat) (z : El), zs[k]? = some z -> ∀ q, q < 2 -> (C zs)[k * 2 + q]? = (enc z)[q]?
 | [], _, _, h, _, _ => by simp at h
 | y :: r, 0, z, h, q, hq => by
   simp at h
   subst h
   show (enc y ++ C r)[0 * 2 + q]? = _
   rw [List.getElem?_append_left (by rw [enc_len]; omega)]
   congr 1
   omega
 | y :: r, k + 1, z, h, q, hq => by
   have ih := C_at r k z (by simpa using h) q hq
   show (enc y ++ C r)[(k + 1) * 2 + q]? = _
   rw [List.getElem?_append_right (by rw [enc_len]; omega), enc_len, <- ih]
   congr 1
   omega
theorem C_set (zs : List El) {k : Nat} (hk : k < zs.length) (x : El) : C (zs.set k x) = (((C zs).set (k * 2) (.int .i64 x.1)).set (k * 2 + 1) (.int .i64 x.2)) := by
 apply List.ext_getElem?
 intro j
 by_cases hj : j / 2 = k
 ·obtain ⟨q, hq, rfl⟩ : ∃ q, q < 2 /\ j = k * 2 + q := ⟨j % 2, Nat.mod_lt _ (by decide), by omega⟩
  rw [C_at (zs.set k x) k x (List.getElem?_set_self hk) q hq]
  have hl : (C zs).length = zs.length * 2 := C_len zs
  have hq' : q = 0 \/ q = 1 := by omega
  rcases hq' with rfl | rfl <;> simp [List.getElem?_set, hl, enc] <;> omega
 ·have e : (C (zs.set k x))[j]? = (C zs)[j]? := by
   rcases Nat.lt_or_ge (j / 2) zs.length with h | h
   ·obtain ⟨z, hz⟩ : ∃ z, zs[j / 2]? = some z := ⟨_, List.getElem?_eq_getElem h⟩
    have hz' : (zs.set k x)[j / 2]? = some z := by rw [List.getElem?_set_ne (fun e => hj e.symm)]; exact hz
    have e0 : j = j / 2 * 2 + j % 2 := by omega
    rw [e0, C_at _ _ z hz' _ (Nat.mod_lt _ (by decide)), C_at _ _ z hz _ (Nat.mod_lt _ (by decide))]
   ·rw [List.getElem?_eq_none (by rw [C_len, List.length_set]; omega), List.getElem?_eq_none (by rw [C_len]; omega)]
  rw [e]
  rw [List.getElem?_set_ne (by omega), List.getElem?_set_ne (by omega)]
def Own (w : World) (B : Nat) (v : Value) (zs : List El) : Prop := w.ownsRow B 111 2 v zs.length (C zs)
def Has (w : World) (v : Value) (zs : List El) : Prop := ∃ ao cap, v = .slice ao zs.length cap /\ ∀ (j : Nat) (u : Value), (C zs)[j]? = some u -> ∃ a, ao = some a /\ w.cell? (a.add j) = some u
theorem Has.below {w w' : World} {v : Value} {zs : List El} (h : Has w v zs) (hb : Below w.heap.size w w') : Has w' v zs := by
 obtain ⟨ao, cap, h1, h2⟩ := h
 refine ⟨ao, cap, h1, fun i p hi => ?_⟩
 obtain ⟨a, ha, c0⟩ := h2 i p hi
 exact ⟨a, ha, (hb.cell (World.block_lt_of_cell? w _ c0)).trans c0⟩
theorem C_nil {zs : List El} (h : zs ≠ []) : ∃ u, (C zs)[0]? = some u := by
 cases zs with
 | nil => exact absurd rfl h
 | cons z r =>
   have h1 := C_at (z :: r) 0 z rfl 0 (by decide)
   have h2 : (enc z)[0]? = some ((enc z)[0]'(by rw [enc_len]; decide)) := List.getElem?_eq_getElem _
   exact ⟨_, h1.trans h2⟩
theorem Own.at {w : World} {B g cap n : Nat} {zs : List El} (h : Own w B (.slice (some ⟨g, 0, none⟩) n cap) zs) {j : Nat} {u : Value} (hj : (C zs)[j]? = some u) : w.cell? ⟨g, j, none⟩ = some u := by
 obtain ⟨ao', cap', hv⟩ := row_shape h
 injection hv with _ e _
 subst e
 have h' : w.ownsRow B 111 2 (.slice (some ⟨g, 0, none⟩) zs.length cap) zs.length (C zs) := h
 rw [h'.cellAt j (by rw [<- h'.1]; exact (List.getElem?_eq_some_iff.1 hj).1), hj]
theorem Own.has {w : World} {B : Nat} {v : Value} {zs : List El} (h : Own w B v zs) : Has w v zs := by
 obtain ⟨ao, cap, hv⟩ := row_shape h
 refine ⟨ao, cap, hv, fun j u hj => ?_⟩
 have hlt := (List.getElem?_eq_some_iff.1 hj).1
 rw [C_len] at hlt
 obtain ⟨g, c, hf, _, _⟩ := World.ownsRow.form h (by omega)
 rw [hv] at hf
 injection hf with e1 e2 e3
 subst e1; subst e3
 refine ⟨_, rfl, ?_⟩
 rw [addz]
 rw [hv] at h
 exact Own.at h hj
theorem add_q (a : Addr) (m q : Nat) : (a.add m).add q = a.add (m + q) := by
 unfold Addr.add
 by_cases h1 : m = 0 <;> by_cases h2 : q = 0 <;> simp [h1, h2] <;> omega
theorem copy_of {w : World} {ao : Option Addr} {n cap : Nat} {zs : List El} (h : Has w (.slice ao n cap) zs) : (ao = none -> n = 0) /\ ∀ ad, ao = some ad -> ∀ j u, (C zs)[j]? = some u -> w.cell? (ad.add j) = some u := by
 obtain ⟨ao', cap', hv, h2⟩ := h
 injection hv with e1 e2 e3
 subst e1
 refine ⟨fun e => ?_, fun ad e j u hj => ?_⟩
 ·rw [e2]
  by_cases hz : zs = []
  ·rw [hz]; rfl
  ·obtain ⟨u, hu⟩ := C_nil hz
   obtain ⟨a, ha, _⟩ := h2 0 u hu
   rw [e] at ha; cases ha
 ·obtain ⟨a, ha, hc⟩ := h2 j u hj
  rw [e] at ha
  cases ha
  exact hc
def mk1 (i k : Nat) : El := (-1 - (i : Int), (k : Int))
def marks (i f n : Nat) : List El := (List.range n).map fun k => mk1 i (f + k)
end BSteps
section
open Go.RowKit Go.Maps
namespace Sy
inductive Rea (es : List Ed) (s : Int) : Int -> Prop
 | start : Rea es s s
 | step (e : Ed) : e ∈ es -> Rea es s e.1 -> Rea es s e.2.2
structure RInv (es : List Ed) (s : Int) (n : Nat) (zs : List Int) (bs : List Bool) (i : Nat) : Prop where
 len : bs.length = n
 iff : ∀ p : Nat, bs[p]? = some true ↔ (p : Int) ∈ zs
 rng : ∀ z ∈ zs, 0 <= z /\ z < (n : Int)
 cnt : zs.length = bs.count true
 rea : ∀ z ∈ zs, Rea es s z
 st : s ∈ zs
 done : ∀ (j : Nat) (z : Int), j < i -> zs[j]? = some z -> ∀ e ∈ es, e.1 = z -> e.2.2 ∈ zs
theorem steps_mem {es : List Ed} {i a b : Int} : (a, b) ∈ steps es i ↔ (i, a, b) ∈ es := by
 unfold steps
 rw [List.mem_map]
 constructor
 ·rintro ⟨e, he, h1⟩
  obtain ⟨h2, h3⟩ := List.mem_filter.1 he
  have e1 : e.1 = i := by simpa using h3
  cases h1
  rw [<- e1]
  exact h2
 ·intro h
  exact ⟨(i, a, b), List.mem_filter.2 ⟨h, by simp⟩, rfl⟩
end Sy
def bC (bs : List Bool) : List Value := bs.map Value.bool
theorem own_num {w : World} {B : Nat} {ao : Option Addr} {n cap : Nat} {zs : List Int} (h : OwnI w B (.slice ao n cap) zs) {j : Nat} {z : Int} (hz : zs[j]? = some z) : ∃ g, ao = some ⟨g, 0, none⟩ /\ w.cell? ⟨g, j, none⟩ = some (.int .i64 z) := by
 have hlt := (List.getElem?_eq_some_iff.1 hz).1
 obtain ⟨g, c, hf, _, _⟩ := World.ownsRow.form h (by omega)
 injection hf with e1 e2 e3
 subst e1
 exact ⟨g, rfl, h.cell hz⟩
theorem step_at {w : World} {ao : Option Addr} {n cap : Nat} {zs : List BSteps.El} (h : BSteps.Has w (.slice ao n cap) zs) {j : Nat} {z : BSteps.El} (hz : zs[j]? = some z) :
 ∃ a, ao = some a /\ w.cell? (a.add (j * 2)) = some (.int .i64 z.1) /\ w.cell? ⟨(a.add (j * 2)).block, (a.add (j * 2)).off + 1, none⟩ = some (.int .i64 z.2) := by
 obtain ⟨ao', cap', hv, hc⟩ := h
 injection hv with e1 e2 e3
 subst e1
 obtain ⟨a, rfl, c0⟩ := hc (j * 2 + 0) _ ((BSteps.C_at zs j z hz 0 (by decide)).trans rfl)
 obtain ⟨a1, e1, c1⟩ := hc (j * 2 + 1) _ ((BSteps.C_at zs j z hz 1 (by decide)).trans rfl)
 cases e1
 refine ⟨a, rfl, by simpa using c0, ?_⟩
 rw [<- BSteps.add_q] at c1
 exact c1
end
namespace BEdges
open Go.RowKit Go.Maps
attribute [local go_sem ↓] Go.wp_at_zero Go.wp_at_succ
abbrev El : Type := Int × Int × Int
def enc (z : El) : List Value := [.int .i64 z.1, .int .i64 z.2.1, .int .i64 z.2.2]
def C (zs : List El) : List Value := zs.flatMap enc
theorem enc_len (z : El) : (enc z).length = 3 := rfl
theorem C_len (zs : List El) : (C zs).length = zs.length * 3 := by
 unfold C
 induction zs with
 | nil => rfl
 | cons z r ih => rw [List.flatMap_cons, List.length_append, ih, enc_len, List.length_cons]; omega
theorem C_app (a b : List El) : C (a ++ b) = C a ++ C b := List.flatMap_append
theorem C_one (zs : List El) : ∀ u ∈ C zs, u.oneCell' = true := fun u hu => by
 obtain ⟨z, _, hz⟩ := List.mem_flatMap.1 hu
 simp only [enc, List.mem_cons, List.not_mem_nil, or_false] at hz
 rcases hz with rfl | rfl | rfl <;> rfl
theorem C_at : ∀ (zs : List El) (k : Nat) (z : El), zs[k]? = some z -> ∀ q, q < 3 -> (C zs)[k * 3 + q]? = (enc z)[q]?
 | [], _, _, h, _, _ => by simp at h
 | y :: r, 0, z, h, q, hq => by
   simp at h
   subst h
   show (enc y ++ C r)[0 * 3 + q]? = _
   rw [List.getElem?_append_left (by rw [enc_len]; omega)]
   congr 1
   omega
 | y :: r, k + 1, z, h, q, hq => by
   have ih := C_at r k z (by simpa using h) q hq
   show (enc y ++ C r)[(k + 1) * 3 + q]? = _
   rw [List.getElem?_append_right (by rw [enc_len]; omega), enc_len, <- ih]
   congr 1
   omega
theorem C_set (zs : List El) {k : Nat} (hk : k < zs.length) (x : El) : C (zs.set k x) = ((((C zs).set (k * 3) (.int .i64 x.1)).set (k * 3 + 1) (.int .i64 x.2.1)).set (k * 3 + 2) (.int .i64 x.2.2)) := by
 apply List.ext_getElem?
 intro j
 by_cases hj : j / 3 = k
 ·obtain ⟨q, hq, rfl⟩ : ∃ q, q < 3 /\ j = k * 3 + q := ⟨j % 3, Nat.mod_lt _ (by decide), by omega⟩
  rw [C_at (zs.set k x) k x (List.getElem?_set_self hk) q hq]
  have hl : (C zs).length = zs.length * 3 := C_len zs
  have hq' : q = 0 \/ q = 1 \/ q = 2 := by omega
  rcases hq' with rfl | rfl | rfl <;> simp [List.getElem?_set, hl, enc] <;> omega
 ·have e : (C (zs.set k x))[j]? = (C zs)[j]? := by
   rcases Nat.lt_or_ge (j / 3) zs.length with h | h
   ·obtain ⟨z, hz⟩ : ∃ z, zs[j / 3]? = some z := ⟨_, List.getElem?_eq_getElem h⟩
    have hz' : (zs.set k x)[j / 3]? = some z := by rw [List.getElem?_set_ne (fun e => hj e.symm)]; exact hz
    have e0 : j = j / 3 * 3 + j % 3 := by omega
    rw [e0, C_at _ _ z hz' _ (Nat.mod_lt _ (by decide)), C_at _ _ z hz _ (Nat.mod_lt _ (by decide))]
   ·rw [List.getElem?_eq_none (by rw [C_len, List.length_set]; omega), List.getElem?_eq_none (by rw [C_len]; omega)]
  rw [e]
  rw [List.getElem?_set_ne (by omega), List.getElem?_set_ne (by omega), List.getElem?_set_ne (by omega)]
def Own (w : World) (B : Nat) (v : Value) (zs : List El) : Prop := w.ownsRow B 29 3 v zs.length (C zs)
def Has (w : World) (v : Value) (zs : List El) : Prop := ∃ ao cap, v = .slice ao zs.length cap /\ ∀ (j : Nat) (u : Value), (C zs)[j]? = some u -> ∃ a, ao = some a /\ w.cell? (a.add j) = some u
theorem Has.below {w w' : World} {v : Value} {zs : List El} (h : Has w v zs) (hb : Below w.heap.size w w') : Has w' v zs := by
 obtain ⟨ao, cap, h1, h2⟩ := h
 refine ⟨ao, cap, h1, fun i p hi => ?_⟩
 obtain ⟨a, ha, c0⟩ := h2 i p hi
 exact ⟨a, ha, (hb.cell (World.block_lt_of_cell? w _ c0)).trans c0⟩
theorem C_nil {zs : List El} (h : zs ≠ []) : ∃ u, (C zs)[0]? = some u := by
 cases zs with
 | nil => exact absurd rfl h
 | cons z r =>
   have h1 := C_at (z :: r) 0 z rfl 0 (by decide)
   have h2 : (enc z)[0]? = some ((enc z)[0]'(by rw [enc_len]; decide)) := List.getElem?_eq_getElem _
   exact ⟨_, h1.trans h2⟩
theorem Own.at {w : World} {B g cap n : Nat} {zs : List El} (h : Own w B (.slice (some ⟨g, 0, none⟩) n cap) zs) {j : Nat} {u : Value} (hj : (C zs)[j]? = some u) : w.cell? ⟨g, j, none⟩ = some u := by
 obtain ⟨ao', cap', hv⟩ := row_shape h
 injection hv with _ e _
 subst e
 have h' : w.ownsRow B 29 3 (.slice (some ⟨g, 0, none⟩) zs.length cap) zs.length (C zs) := h
 rw [h'.cellAt j (by rw [<- h'.1]; exact (List.getElem?_eq_some_iff.1 hj).1), hj]
theorem Own.has {w : World} {B : Nat} {v : Value} {zs : List El} (h : Own w B v zs) : Has w v zs := by
 obtain ⟨ao, cap, hv⟩ := row_shape h
 refine ⟨ao, cap, hv, fun j u hj => ?_⟩
 have hlt := (List.getElem?_eq_some_iff.1 hj).1
 rw [C_len] at hlt
 obtain ⟨g, c, hf, _, _⟩ := World.ownsRow.form h (by omega)
 rw [hv] at hf
 injection hf with e1 e2 e3
 subst e1; subst e3
 refine ⟨_, rfl, ?_⟩
 rw [addz]
 rw [hv] at h
 exact Own.at h hj
theorem add_q (a : Addr) (m q : Nat) : (a.add m).add q = a.add (m + q) := by
 unfold Addr.add
 by_cases h1 : m = 0 <;> by_cases h2 : q = 0 <;> simp [h1, h2] <;> omega
theorem copy_of {w : World} {ao : Option Addr} {n cap : Nat} {zs : List El} (h : Has w (.slice ao n cap) zs) : (ao = none -> n = 0) /\ ∀ ad, ao = some ad -> ∀ j u, (C zs)[j]? = some u -> w.cell? (ad.add j) = some u := by
 obtain ⟨ao', cap', hv, h2⟩ := h
 injection hv with e1 e2 e3
 subst e1
 refine ⟨fun e => ?_, fun ad e j u hj => ?_⟩
 ·rw [e2]
  by_cases hz : zs = []
  ·rw [hz]; rfl
  ·obtain ⟨u, hu⟩ := C_nil hz
   obtain ⟨a, ha, _⟩ := h2 0 u hu
   rw [e] at ha; cases ha
 ·obtain ⟨a, ha, hc⟩ := h2 j u hj
  rw [e] at ha
  cases ha
  exact hc
def mk1 (i k : Nat) : El := (-1 - (i : Int), (k : Int), 7)
def marks (i f n : Nat) : List El := (List.range n).map fun k => mk1 i (f + k)
theorem Tryz.infoE : (Tryz.prog.info? 29).map (fun i => (i.zero, i.size, i.bytes)) = some (some (.agg #[.int .i64 0, .int .i64 0, .int .i64 0]), 3, 24) := by kernel_rfl
theorem C_snoc (zs : List El) (z : El) : C (zs ++ [z]) = C zs ++ enc z := by
 rw [C_app]
 show _ ++ (enc z ++ []) = _
 rw [List.append_nil]
end BEdges
section
open Go.RowKit Go.Maps
attribute [local go_sem ↓] Go.wp_at_zero Go.wp_at_succ
def sysV (n k s : Int) (v : Value) : Value := .agg #[.int .i64 n, .int .i64 k, .int .i64 s, v]
theorem four_cells {w : World} {b : Nat} {x0 x1 x2 x3 : Value} {t : TypeId} (h : w.heap[b]? = some (.cells #[x0, x1, x2, x3] t (0, 0))) : w.cell? ⟨b, 0, none⟩ = some x0 /\ w.cell? ⟨b, 1, none⟩ = some x1 /\ w.cell? ⟨b, 2, none⟩ = some x2 /\ w.cell? ⟨b, 3, none⟩ = some x3 := by
 simp [World.cell?, h]
theorem edge_at {w : World} {ao : Option Addr} {n cap : Nat} {es : List BEdges.El} (h : BEdges.Has w (.slice ao n cap) es) {j : Nat} {z : BEdges.El} (hz : es[j]? = some z) :
 ∃ a, ao = some a /\ w.cell? (a.add (j * 3)) = some (.int .i64 z.1) /\ w.cell? ⟨(a.add (j * 3)).block, (a.add (j * 3)).off + 1, none⟩ = some (.int .i64 z.2.1) /\ w.cell? ⟨(a.add (j * 3)).block, (a.add (j * 3)).off + 2, none⟩ = some (.int .i64 z.2.2) := by
 obtain ⟨ao', cap', hv, hc⟩ := h
 injection hv with e1 e2 e3
 subst e1
 obtain ⟨a, rfl, c0⟩ := hc (j * 3 + 0) _ ((BEdges.C_at es j z hz 0 (by decide)).trans rfl)
 obtain ⟨a1, e1, c1⟩ := hc (j * 3 + 1) _ ((BEdges.C_at es j z hz 1 (by decide)).trans rfl)
 cases e1
 obtain ⟨a2, e2, c2⟩ := hc (j * 3 + 2) _ ((BEdges.C_at es j z hz 2 (by decide)).trans rfl)
 cases e2
 refine ⟨a, rfl, by simpa using c0, ?_, ?_⟩
 ·rw [<- BEdges.add_q] at c1; exact c1
 ·rw [<- BEdges.add_q] at c2; exact c2
def edgeOk (n k : Int) (e : Sy.Ed) : Bool := decide (0 <= e.1 /\ e.1 < n /\ 0 <= e.2.2 /\ e.2.2 < n /\ 0 <= e.2.1 /\ e.2.1 < k)
end
section
open Go.RowKit Go.Maps
attribute [local go_sem ↓] Go.wp_at_zero Go.wp_at_succ
def edV (a : Sy.Ed) : Value := .agg #[.int .i64 a.1, .int .i64 a.2.1, .int .i64 a.2.2]
def HasE (w : World) (v : Value) (es : List Sy.Ed) : Prop := ∃ ao cap, v = .slice ao es.length cap /\ es.length <= cap /\ BEdges.Has w v es
end
section
open Go.RowKit Go.Maps
attribute [local go_sem ↓] Go.wp_at_zero Go.wp_at_succ
end
section
open Go.RowKit Go.Extern.Stop Go.Stop Go.Extern
theorem Tryz.isTypeOf (v : Value) (w : World) : (Extern.ReflectliteType.typeOf #[.iface 269 v]).run Tryz.prog w = .ok (.iface 113 (.agg #[.pointer (some ⟨10, 269, none⟩)])) w := by kernel_rfl
def cmpEntry : Array Value -> Sem Value := Extern.ReflectliteType.method fun t => do
 Rtype.noPackHeld "Comparable" t
 pure (.bool (<- typeInfo t).comparable)
theorem Tryz.isComparable (w : World) : (cmpEntry #[.agg #[.pointer (some ⟨10, 269, none⟩)]]).run Tryz.prog w = .ok (.bool true) w := by kernel_rfl
theorem Tryz.isMethodComparable (v : Value) (w : World) : (Go.method 401 113 v "Comparable").run Tryz.prog w = .ok (189, v) w := by kernel_rfl
theorem Tryz.isComp : (Tryz.prog.info? 269).map (·.comparable) = some true := by kernel_rfl
theorem Tryz.isSize : (Tryz.prog.info? 289).map (·.size) = some 1 := by kernel_rfl
theorem Tryz.noIsE (v : Value) (xT : TypeId) (w : World) : (Instr.typeAssert (.iface 269 v) xT 115 true).run Tryz.prog w = .ok (.tuple #[.nilIface, .bool false]) w := run_typeAssert_lacksB Tryz.underlying115 (by kernel_rfl) (by kernel_rfl) v xT w
theorem Tryz.noUnwrapE (v : Value) (xT : TypeId) (w : World) : (Instr.typeAssert (.iface 269 v) xT 118 true).run Tryz.prog w = .ok (.tuple #[.nilIface, .bool false]) w := run_typeAssert_lacksB Tryz.underlying118 (by kernel_rfl) (by kernel_rfl) v xT w
theorem Tryz.noUnwrapsE (v : Value) (xT : TypeId) (w : World) : (Instr.typeAssert (.iface 269 v) xT 120 true).run Tryz.prog w = .ok (.tuple #[.nilIface, .bool false]) w := run_typeAssert_lacksB Tryz.underlying120 (by kernel_rfl) (by kernel_rfl) v xT w
theorem Tryz.noIsW (v : Value) (xT : TypeId) (w : World) : (Instr.typeAssert (.iface 96 v) xT 115 true).run Tryz.prog w = .ok (.tuple #[.nilIface, .bool false]) w := run_typeAssert_lacksB Tryz.underlying115 (by kernel_rfl) (by kernel_rfl) v xT w
theorem Tryz.hasUnwrapW (v : Value) (xT : TypeId) (w : World) : (Instr.typeAssert (.iface 96 v) xT 118 true).run Tryz.prog w = .ok (.tuple #[.iface 96 v, .bool true]) w := run_typeAssert_hasB Tryz.underlying118 (by kernel_rfl) v xT w
theorem Tryz.methodUnwrap (v : Value) (w : World) : (Go.method 401 96 v "Unwrap").run Tryz.prog w = .ok (186, v) w := by kernel_rfl

end
section
open Go.RowKit
def Sent (w : World) (g : Nat) (a : Addr) : Prop := w.cell? ⟨g, 0, none⟩ = some (.iface 269 (.pointer (some a))) /\ ∃ c t, w.heap[a.block]? = some (.cells c t (0, 0))
theorem Sent.below {w w1 : World} {g : Nat} {a : Addr} (h : Sent w g a) (hb : Below w.heap.size w w1) : Sent w1 g a := by
 obtain ⟨h1, c, t, h2⟩ := h
 exact ⟨(hb.cell (World.block_lt_of_cell? w _ h1)).trans h1, c, t, by rw [hb.block _ (lt_of_block h2)]; exact h2⟩
end
section
open Go.RowKit Go.Extern.Stop Go.Stop Go.Extern
def Chain (w : World) (l c : Int) (a : Addr) : List ByteArray -> Value -> Prop
 | [], v => v = .iface 269 (.pointer (some a))
 | s :: r, v => ∃ b u, v = .iface 96 (.pointer (some ⟨b, 0, none⟩)) /\ w.heap[b]? = some (.cells #[.string s, .int .i64 l, .int .i64 c, u] 98 (0, 0)) /\ Chain w l c a r u
theorem Chain.iface {w : World} {l c : Int} {a : Addr} {ls : List ByteArray} {v : Value} (h : Chain w l c a ls v) : ∃ T u, v = .iface T u := by
 cases ls with
 | nil => exact ⟨_, _, h⟩
 | cons s r => obtain ⟨b, u, h1, _⟩ := h; exact ⟨_, _, h1⟩
theorem fault_cells {w : World} {b : Nat} {x0 x1 x2 x3 : Value} {t : TypeId} (h : w.heap[b]? = some (.cells #[x0, x1, x2, x3] t (0, 0))) : w.cell? ⟨b, 0, none⟩ = some x0 /\ w.cell? ⟨b, 1, none⟩ = some x1 /\ w.cell? ⟨b, 2, none⟩ = some x2 /\ w.cell? ⟨b, 3, none⟩ = some x3 := by
 simp [World.cell?, h]
set_option maxRecDepth 100000 in
set_option maxHeartbeats 4000000 in
theorem isLow_chain (v : Value) (ls : List ByteArray) (l c : Int) (a b : Addr) (ca cb : Array Value) (ta tb : TypeId) (w : World) (hC : Chain w l c a ls v) (ha : w.heap[a.block]? = some (.cells ca ta (0, 0))) (hb : w.heap[b.block]? = some (.cells cb tb (0, 0))) :
 Calls Tryz.prog 28 #[v, .iface 269 (.pointer (some b)), .bool true] w fun e w' => e = .returned (.bool (decide (a = b))) /\ w' = w := by
 obtain ⟨i, hi, hcmp⟩ := Option.map_eq_some_iff.1 Tryz.isComp
 obtain ⟨j, hj, hjs⟩ := Option.map_eq_some_iff.1 Tryz.isSize
 have nE := Tryz.noIsE
 have uE := Tryz.noUnwrapE
 have vE := Tryz.noUnwrapsE
 have nW := Tryz.noIsW
 have uW := Tryz.hasUnwrapW
 have mU := Tryz.methodUnwrap
 have heq : (binOp .eql 32 (.iface 269 (.pointer (some a))) (.iface 269 (.pointer (some b)))).run Tryz.prog w = .ok (.bool (decide (a = b))) w := by
  by_cases e : a = b
  ·subst e
   rw [run_eql_iface_ptr_same (P := Tryz.prog) w a Tryz.underlying32 Tryz.underlying269 hi hcmp hj]
   simp
  ·rw [run_eql_iface_ptr_other (P := Tryz.prog) w Tryz.underlying32 Tryz.underlying269 hi hcmp hj (by rw [hjs]; decide) e ha hb]
   simp [e]
 obtain ⟨d, hd⟩ : ∃ d, d = decide (a = b) := ⟨_, rfl⟩
 rw [<- hd] at heq ⊢
 have HC : Hid (Chain w l c a ls v) := hC
 clear hC ha hb hd hi hcmp hj hjs
 go_enter Tryz.func28, Tryz.ntmps28
 go_wp2_with fail
 go_loopg [0] (ls.length + 1) (fun q ev wr => ∃ (r : List ByteArray), q = r.length + 1 /\ wr = w /\ Chain w l c a r ev)
 case atStart => exact ⟨ls, rfl, rfl, HC.out⟩
 case round =>
  obtain ⟨r, rfl, rfl, hCr⟩ := hrel
  clear HC
  cases r with
  | nil =>
    have e : u0 = .iface 269 (.pointer (some a)) := hCr
    subst e
    clear hCr
    cases d
    ·go_wp2
     go_ret
     exact ⟨rfl, rfl⟩
    ·go_wp2
     go_ret
     exact ⟨rfl, rfl⟩
  | cons s r =>
    obtain ⟨pb, u, rfl, hB, hCu⟩ := hCr
    have h1 := (fault_cells hB).2.2.2
    have hty := run_eql_iface_types (P := Tryz.prog) 96 269 (.pointer (some ⟨pb, 0, none⟩)) (.pointer (some b)) Tryz.underlying32 (by decide) wr
    obtain ⟨T, x, rfl⟩ := hCu.iface
    have HU : Hid (Chain wr l c a r (.iface T x)) := hCu
    clear hCu hB heq
    go_wp2
    go_roundg (r.length + 1)
    case measure => simp
    case rel => exact ⟨r, rfl, rfl, HU.out⟩
set_option maxHeartbeats 1000000 in
theorem is_chain (v : Value) (ls : List ByteArray) (l c : Int) (a b : Addr) (ca cb : Array Value) (ta tb : TypeId) (w : World) (hC : Chain w l c a ls v) (ha : w.heap[a.block]? = some (.cells ca ta (0, 0))) (hb : w.heap[b.block]? = some (.cells cb tb (0, 0))) :
 Calls Tryz.prog 16 #[v, .iface 269 (.pointer (some b))] w fun e w' => e = .returned (.bool (decide (a = b))) /\ w' = w := by
 have h8 := @run_callFunc_extern Tryz.prog 27 _ Extern.ReflectliteType.typeOf Tryz.func27 (by kernel_rfl) (by kernel_rfl) (by kernel_rfl) (by kernel_rfl)
 have h32 := @run_callFunc_extern Tryz.prog 189 _ cmpEntry Tryz.func189 (by kernel_rfl) (by kernel_rfl) (by kernel_rfl) (by kernel_rfl)
 have tT := Tryz.isTypeOf
 have cT := Tryz.isComparable
 have mR := Tryz.isMethodComparable
 have HL : Hid _ := isLow_chain v ls l c a b ca cb ta tb w hC ha hb
 obtain ⟨T, x, rfl⟩ := hC.iface
 clear hC ha hb
 go_enter Tryz.func16, Tryz.ntmps16
 go_wp2_with (go_at_call 28; refine Calls.mono HL.out ?_; rintro e w' ⟨rfl, hw⟩; obtain rfl := hw.symm; clear hw)
 go_ret
 exact ⟨rfl, rfl⟩
end
section
open Go.RowKit
end
section
open Go.RowKit
def joinS (x : ByteArray) : List ByteArray -> ByteArray
 | [] => x
 | s :: r => joinS (x ++ s ++ ⟨#[32]⟩) r
end
section
open Go.RowKit Go.Maps
attribute [local go_sem ↓] Go.wp_at_zero Go.wp_at_succ
def sysB : ByteArray := ⟨#[115, 121, 115, 116, 101, 109]⟩
def sysB1 : ByteArray := ⟨#[115, 121, 115, 116, 101, 109, 32]⟩
theorem four_set {w : World} {b : Nat} {x0 x1 x2 x3 a0 a1 a2 a3 : Value} {t : TypeId} (h : w.heap[b]? = some (.cells #[x0, x1, x2, x3] t (0, 0))) : ((((w.setCell ⟨b, 0, none⟩ a0).setCell ⟨b, 1, none⟩ a1).setCell ⟨b, 2, none⟩ a2).setCell ⟨b, 3, none⟩ a3).heap[b]? = some (.cells #[a0, a1, a2, a3] t (0, 0)) :=
 heap_setCell_same _ b 3 _ _ _ (heap_setCell_same _ b 2 _ _ _ (heap_setCell_same _ b 1 _ _ _ (heap_setCell_same w b 0 _ _ _ h)))
theorem four_below {B : Nat} {w w2 : World} {b : Nat} (h : Below B w w2) (hb : B <= b) (a0 a1 a2 a3 : Value) : Below B w ((((w2.setCell ⟨b, 0, none⟩ a0).setCell ⟨b, 1, none⟩ a1).setCell ⟨b, 2, none⟩ a2).setCell ⟨b, 3, none⟩ a3) := (((h.setCell hb _).setCell hb _).setCell hb _).setCell hb _
def chkV (ok : Bool) : Value := if ok then .agg #[.int .i64 0, .int .i64 0, .int .i64 0, .string ⟨#[]⟩] else .agg #[.int .i64 14, .int .i64 0, .int .i64 0, .string sysB1]
end
section
open Go.RowKit Go.Maps
structure Arr (ty : TypeId) (w wr : World) (gi : Nat) (vs : List Value) : Prop where
 bl : Below w.heap.size w wr
 ids : ∃ cs, wr.heap[gi]? = some (.cells cs ty (0, 0)) /\ cs.toList = vs
 gu : w.heap.size <= gi
theorem Arr.lt {ty : TypeId} {w wr : World} {gi : Nat} {vs : List Value} (h : Arr ty w wr gi vs) : gi < wr.heap.size := by
 obtain ⟨cs, hc, _⟩ := h.ids
 exact t_lt hc
theorem Arr.below {ty : TypeId} {w wr w' : World} {gi : Nat} {vs : List Value} (h : Arr ty w wr gi vs) (hb : Below wr.heap.size wr w') : Arr ty w w' gi vs := by
 obtain ⟨cs, hc, hx⟩ := h.ids
 exact ⟨h.bl.trans (hb.mono h.bl.size), ⟨cs, (hb.block _ (t_lt hc)).trans hc, hx⟩, h.gu⟩
theorem Arr.kept {ty : TypeId} {w wr w' : World} {gi : Nat} {vs : List Value} {F : Nat -> Prop} (h : Arr ty w wr gi vs) (hk : Kept F wr w') (hF : ∀ b, F b -> w.heap.size <= b /\ b ≠ gi) : Arr ty w w' gi vs := by
 obtain ⟨cs, hc, hx⟩ := h.ids
 exact ⟨h.bl.trans (hk.below h.bl.size fun b hb => (hF b hb).1), ⟨cs, (hk.block _ (t_lt hc) fun hf => (hF gi hf).2 rfl).trans hc, hx⟩, h.gu⟩
theorem Arr.cell {ty : TypeId} {w wr : World} {gi : Nat} {vs : List Value} (h : Arr ty w wr gi vs) {i : Nat} {x : Value} (hi : vs[i]? = some x) : wr.cell? ⟨gi, i, none⟩ = some x := by
 obtain ⟨cs, hc, hx⟩ := h.ids
 refine cell0_of hc ?_
 rw [<- Array.getElem?_toList, hx]
 exact hi
theorem Arr.free {ty : TypeId} {w wr : World} {gi : Nat} {vs : List Value} (h : Arr ty w wr gi vs) (i : Nat) : wr.frozen? ⟨gi, i, none⟩ = false := by
 obtain ⟨cs, hc, hx⟩ := h.ids
 exact blk_free hc i
theorem Arr.set {ty : TypeId} {w wr : World} {gi : Nat} {vs : List Value} (h : Arr ty w wr gi vs) (i : Nat) (x : Value) : Arr ty w (wr.setCell ⟨gi, i, none⟩ x) gi (vs.set i x) := by
 obtain ⟨cs, hc, hx⟩ := h.ids
 refine ⟨h.bl.setCell h.gu _, ⟨_, heap_setCell_same wr gi i cs _ _ hc, ?_⟩, h.gu⟩
 rw [Array.toList_setIfInBounds, hx]
theorem Arr.back {ty : TypeId} {w w1 wr : World} {g : Nat} {vs : List Value} (h : Arr ty w1 wr g vs) (hb : Below w.heap.size w w1) : Arr ty w wr g vs := ⟨hb.trans (h.bl.mono hb.size), h.ids, Nat.le_trans hb.size h.gu⟩
theorem Arr.own {ty : TypeId} {w wr : World} {gi : Nat} {vs : List Value} (h : Arr ty w wr gi vs) (hn : vs.length <= maxLen) : wr.ownsRow w.heap.size ty 1 (.slice (some ⟨gi, 0, none⟩) vs.length vs.length) vs.length vs := by
 obtain ⟨cs, hc, hx⟩ := h.ids
 refine ⟨by rw [Nat.mul_one], .inr ⟨gi, vs.length, cs, rfl, h.gu, hc, Nat.le_refl _, hn, ?_, ?_⟩⟩
 ·rw [<- hx]; simp
 ·rw [hx]; simp
def madeV (z : Value) (n : Nat) : Array Value := madeCells z.cells (n * 1)
theorem madeV_eq (z : Value) (hz : z.cells = #[z]) (n : Nat) : (madeV z n).toList = List.replicate n z := by
 apply List.ext_getElem
 ·simp [madeV, madeCells]
 ·intro i h1 h2
  simp [madeV, madeCells, hz, Nat.mod_one]
theorem arr_new (ty : TypeId) (z : Value) (hz : z.cells = #[z]) (n : Nat) (w : World) : Arr ty w (w.alloc (.cells (madeV z n) ty)) w.heap.size (List.replicate n z) := ⟨(Below.refl _ _).alloc (Nat.le_refl _) _, ⟨_, (MapKept.heap_alloc w _).1, madeV_eq z hz n⟩, Nat.le_refl _⟩
theorem make_of (t e : TypeId) (z : Value) (by8 : Nat) (ht : Tryz.prog.underlying t = some (.slice e)) (hi : (Tryz.prog.info? e).map (fun i => (i.zero, i.size, i.bytes)) = some (some z, 1, by8)) (n : Nat) (hn : n <= 1000000) (hby : by8 <= 100) (w : World) : (Instr.makeSlice t (.int .i64 (n : Int)) (.int .i64 (n : Int))).run Tryz.prog w = .ok (.slice (some ⟨w.heap.size, 0, none⟩) n n) (w.alloc (.cells (madeV z n) e)) := by
 obtain ⟨i0, hi0, hz0, hz1, hz2⟩ := info_parts hi
 have hm : n * by8 <= 1000000 * 100 := Nat.mul_le_mul hn hby
 have h := run_makeSlice (P := Tryz.prog) w t e i0 z ht hi0 hz0 .i64 .i64 (n : Int) (n : Int) (by omega) (Int.le_refl _) (by rw [hz1]; omega) (by rw [hz2]; have h9 : (by8 : Int) * (n : Int) <= 100000000 := (by rw [Int.mul_comm]; exact Int.ofNat_le.2 hm); omega) (by omega)
 rw [h, hz1]
 simp [madeV]
theorem Tryz.infoI4 : (Tryz.prog.info? 3).map (fun i => (i.zero, i.size, i.bytes)) = some (some (.int .i64 0), 1, 8) := by kernel_rfl
theorem makeI (n : Nat) (hn : n <= 1000000) (w : World) : (Instr.makeSlice 39 (.int .i64 (n : Int)) (.int .i64 (n : Int))).run Tryz.prog w = .ok (.slice (some ⟨w.heap.size, 0, none⟩) n n) (w.alloc (.cells (madeV (.int .i64 0) n) 3)) := make_of _ _ _ 8 Tryz.underlying39 Tryz.infoI4 n hn (by decide) w
end
section
open Go.RowKit Go.Maps
attribute [local go_sem ↓] Go.wp_at_zero Go.wp_at_succ
namespace Sy
theorem place_app (c : Int) (a b : List Int) (h : ∀ x ∈ a, x ≠ c) : place c (a ++ b) = a.length + place c b := by
 induction a with
 | nil => simp
 | cons x r ih =>
   have hx := h x List.mem_cons_self
   simp only [List.cons_append, place, if_neg hx, List.length_cons]
   rw [ih fun y hy => h y (List.mem_cons_of_mem _ hy)]
   omega
theorem canon_step {zs : List Int} {i : Nat} {z : Int} (h : zs[i]? = some z) : canonG [] (zs.take (i + 1)) = canonG [] (zs.take i) ++ [place z (seenG [] (zs.take i))] := by
 obtain ⟨hl, rfl⟩ := List.getElem?_eq_some_iff.1 h
 rw [List.take_succ_eq_append_getElem hl, canonG_app]
 rfl
theorem seen_step {zs : List Int} {i : Nat} {z : Int} (h : zs[i]? = some z) : seenG [] (zs.take (i + 1)) = if place z (seenG [] (zs.take i)) < (seenG [] (zs.take i)).length then seenG [] (zs.take i) else seenG [] (zs.take i) ++ [z] := by
 obtain ⟨hl, rfl⟩ := List.getElem?_eq_some_iff.1 h
 rw [List.take_succ_eq_append_getElem hl, seenG_app]
 rfl
end Sy
def natC (l : List Nat) : List Value := l.map fun (k : Nat) => Value.int .i64 (k : Int)
theorem natC_len (l : List Nat) : (natC l).length = l.length := by simp [natC]
def natI (l : List Nat) : List Int := l.map fun (k : Nat) => (k : Int)
theorem iC_nat (l : List Nat) : iC (natI l) = natC l := by simp [iC, natI, natC]
theorem natC_step (C : List Nat) (n i k : Nat) (hC : C.length = i) (hi : i < n) : (natC C ++ List.replicate (n - i) (Value.int .i64 0)).set i (.int .i64 (k : Int)) = natC (C ++ [k]) ++ List.replicate (n - (i + 1)) (Value.int .i64 0) := by
 have e : n - i = (n - (i + 1)) + 1 := by omega
 rw [List.set_append_right _ _ (by rw [natC_len]; omega), natC_len, hC, Nat.sub_self, e, List.replicate_succ, List.set_cons_zero]
 simp [natC]
end
section
open Go.RowKit Go.Maps
attribute [local go_sem ↓] Go.wp_at_zero Go.wp_at_succ
def Sy.classes (n : Int) (zs : List Int) : Bool := decide ((zs.length : Int) = n) && Sy.formG 0 zs
end
section
open Go.RowKit Go.Maps
def I64s (zs : List Int) : Prop := ∀ z ∈ zs, (Lit.int .i64 z).wf = true
def PCanon : Prop := ∀ (v : Value) (zs : List Int) (W : World), HasI W v zs -> zs.length <= 100000 -> I64s zs -> Calls Tryz.prog 98 #[v] W fun r w' => ∃ u, r = .returned u /\ OwnI w' W.heap.size u (natI (Sy.canon zs)) /\ Below W.heap.size W w'
theorem rg_b {w2 W : World} {P : Prop} (h : P /\ Hid (Below w2.heap.size w2 W)) : Below w2.heap.size w2 W := h.2.out
theorem rg_up4 {w2 wa wb : World} {a0 a1 a2 a3 : Addr} {x0 x1 x2 x3 : Value} (hb : Below wa.heap.size wa wb) (h : (wa.cell? a0 = some x0 /\ wa.cell? a1 = some x1 /\ wa.cell? a2 = some x2 /\ wa.cell? a3 = some x3) /\ Hid (Below w2.heap.size w2 wa)) : (wb.cell? a0 = some x0 /\ wb.cell? a1 = some x1 /\ wb.cell? a2 = some x2 /\ wb.cell? a3 = some x3) /\ Hid (Below w2.heap.size w2 wb) :=
 have up : ∀ {a : Addr} {x : Value}, wa.cell? a = some x -> wb.cell? a = some x := fun c => (hb.cell (World.block_lt_of_cell? wa _ c)).trans c
 ⟨⟨up h.1.1, up h.1.2.1, up h.1.2.2.1, up h.1.2.2.2⟩, (h.2.out.trans (hb.mono h.2.out.size) : Below w2.heap.size w2 wb)⟩
end
section
open Go.RowKit Go.Maps
attribute [local go_sem ↓] Go.wp_at_zero Go.wp_at_succ
theorem sysFault_any (a : Addr) (w : World) : Calls Tryz.prog 72 #[.iface 269 (.pointer (some a))] w fun r w' => ∃ x, r = .returned x /\ Chain w' 0 0 a [sysB] x /\ Below w.heap.size w w' := by
 go_enter Tryz.func72, Tryz.ntmps72
 go_wp2
 go_ret
 exact ⟨_, rfl, ⟨_, _, rfl, (MapKept.heap_alloc w _).1, rfl⟩, (Below.refl _ _).alloc (Nat.le_refl _) _⟩
theorem below_any (a b : Int) (w : World) : Calls Tryz.prog 58 #[.int .i64 a, .int .i64 b] w fun r w' => r = .returned (.bool (decide (0 <= a /\ a < b))) /\ w' = w := by
 by_cases h0 : 0 <= a
 ·by_cases h1 : a < b
  ·go_enter Tryz.func58, Tryz.ntmps58
   go_wp2
   go_ret
   exact ⟨by simp [h0, h1], rfl⟩
  ·go_enter Tryz.func58, Tryz.ntmps58
   go_wp2
   go_ret
   exact ⟨by simp [h1], rfl⟩
 ·go_enter Tryz.func58, Tryz.ntmps58
  go_wp2
  go_ret
  exact ⟨by simp; omega, rfl⟩
set_option maxRecDepth 100000 in
set_option maxHeartbeats 4000000 in
theorem stranger_any (n k s : Int) (v : Value) (b : Nat) (x : Sy.Ed) (w : World) (hB : w.heap[b]? = some (.cells #[.int .i64 n, .int .i64 k, .int .i64 s, v] 27 (0, 0))) :
 Calls Tryz.prog 100 #[edV x, .pointer (some ⟨b, 0, none⟩)] w fun r w' => r = .returned (.bool (!edgeOk n k x)) /\ Below w.heap.size w w' := by
 obtain ⟨b0, b1, b2, b3⟩ := four_cells hB
 have hlt := t_lt hB
 have hne : ¬ b = w.heap.size := by omega
 have hA := fun W => below_any x.1 n W
 have hT := fun W => below_any x.2.2 n W
 have hL := fun W => below_any x.2.1 k W
 have hok : edgeOk n k x = (decide (0 <= x.1 /\ x.1 < n) && decide (0 <= x.2.2 /\ x.2.2 < n) && decide (0 <= x.2.1 /\ x.2.1 < k)) := by
  unfold edgeOk
  rw [Bool.eq_iff_iff]
  simp only [Bool.and_eq_true, decide_eq_true_eq]
  omega
 unfold edV
 rw [hok]
 generalize decide (0 <= x.1 /\ x.1 < n) = pa at hA ⊢
 generalize decide (0 <= x.2.2 /\ x.2.2 < n) = pt at hT ⊢
 generalize decide (0 <= x.2.1 /\ x.2.1 < k) = pl at hL ⊢
 clear hok hB b2 b3
 obtain ⟨x0, x1, x2⟩ := x
 cases pa with
 | false =>
   go_enter Tryz.func100, Tryz.ntmps100
   go_wp2_with (go_at_call 58; refine (hA _).mono ?_; rintro r w' ⟨rfl, hw⟩; obtain rfl := hw.symm)
   go_ret
   exact ⟨rfl, (Below.refl _ _).alloc (Nat.le_refl _) _⟩
 | true =>
   cases pt with
   | false =>
     go_enter Tryz.func100, Tryz.ntmps100
     go_wp2_with fail
     refine (hA _).mono ?_
     rintro r w1 ⟨rfl, hw⟩; obtain rfl := hw.symm
     go_wp2_with fail
     refine (hT _).mono ?_
     rintro r w1 ⟨rfl, hw⟩; obtain rfl := hw.symm
     go_wp2
     go_ret
     exact ⟨rfl, (Below.refl _ _).alloc (Nat.le_refl _) _⟩
   | true =>
     go_enter Tryz.func100, Tryz.ntmps100
     go_wp2_with fail
     refine (hA _).mono ?_
     rintro r w1 ⟨rfl, hw⟩; obtain rfl := hw.symm
     go_wp2_with fail
     refine (hT _).mono ?_
     rintro r w1 ⟨rfl, hw⟩; obtain rfl := hw.symm
     go_wp2_with fail
     refine (hL _).mono ?_
     rintro r w1 ⟨rfl, hw⟩; obtain rfl := hw.symm
     go_wp2
     go_ret
     exact ⟨rfl, (Below.refl _ _).alloc (Nat.le_refl _) _⟩
theorem enter_str : ∀ args w, (callFunc 100 args).run Tryz.prog w = .ok (.enter 100 args) w := enters_of Tryz.func100 (by kernel_rfl) rfl
def firstBad (n k : Int) (es : List Sy.Ed) : Int := if es.all (edgeOk n k) then -1 else ((es.findIdx fun e => !edgeOk n k e : Nat) : Int)
theorem findIdx_at {es : List Sy.Ed} {p : Sy.Ed -> Bool} {i : Nat} {z : Sy.Ed} (hz : es[i]? = some z) (hp : p z = true) (hall : ∀ x ∈ es.take i, p x = false) : es.findIdx p = i := by
 obtain ⟨hl, rfl⟩ := List.getElem?_eq_some_iff.1 hz
 rw [List.findIdx_eq hl]
 refine ⟨hp, fun j hj => hall _ ?_⟩
 exact List.mem_take_iff_getElem.2 ⟨j, by omega, rfl⟩
set_option maxRecDepth 100000 in
set_option maxHeartbeats 4000000 in
theorem idxBad_any (n k s : Int) (ve v : Value) (b : Nat) (es : List Sy.Ed) (w : World) (hn : es.length <= 100000) (hv : BEdges.Has w v es) (hB : w.heap[b]? = some (.cells #[.int .i64 n, .int .i64 k, .int .i64 s, ve] 27 (0, 0))) :
 Calls Tryz.prog 99 #[v, .func (.func 100) #[] #[.pointer (some ⟨b, 0, none⟩)]] w fun r w' => r = .returned (.int .i64 (firstBad n k es)) /\ Below w.heap.size w w' := by
 obtain ⟨ao, cap, rfl, _⟩ := _root_.id hv
 obtain ⟨m, hm⟩ : ∃ m, m = es.length := ⟨_, rfl⟩
 have HV : Hid _ := And.intro hv (And.intro hm hB)
 rw [<- hm] at hn ⊢
 clear hv hm hB
 have he := enter_str
 go_enter Tryz.func99, Tryz.ntmps99
 go_wp2_with fail
 go_loopg [8] m (fun q iv wr => ∃ i : Nat, q = m - i /\ i <= m /\ iv = .int .i64 i /\ Below w.heap.size w wr /\ ∀ x ∈ es.take i, (!edgeOk n k x) = false)
 case atStart => exact ⟨0, rfl, Nat.zero_le _, rfl, Below.refl _ _, fun x hx => by simp at hx⟩
 case round =>
  obtain ⟨i, rfl, hi, rfl, hb, hall⟩ := hrel
  by_cases hlt : i < m
  ·obtain ⟨z, hz⟩ : ∃ z, es[i]? = some z := ⟨es[i]'(by have := HV.out.2.1; omega), List.getElem?_eq_getElem _⟩
   obtain ⟨a, rfl, z0, z1, z2⟩ := edge_at (HV.out.1.below hb) hz
   have q0 : (0 : Int) <= (i : Int) := by omega
   have q1 : (i : Int) < (m : Int) := by omega
   have hC := stranger_any n k s ve b z wr ((hb.block b (t_lt HV.out.2.2)).trans HV.out.2.2)
   unfold edV at hC
   have HB : Hid _ := And.intro hb (And.intro hall hz)
   clear hb hall hz
   cases hq : (!edgeOk n k z) with
   | true =>
     rw [hq] at hC
     have HQ : Hid _ := hq
     clear hq
     go_wp2_with (go_at_fn 100; refine hC.mono ?_; rintro r w1 ⟨rfl, hb1⟩)
     go_ret
     refine ⟨?_, HB.out.1.trans (hb1.mono HB.out.1.size)⟩
     have hf := findIdx_at HB.out.2.2 HQ.out HB.out.2.1
     have hna : es.all (edgeOk n k) = false := by
      rw [List.all_eq_false]
      exact ⟨z, List.mem_of_getElem? HB.out.2.2, by have := HQ.out; simpa using this⟩
     unfold firstBad
     rw [hna, hf]
     rfl
   | false =>
     rw [hq] at hC
     have HQ : Hid _ := hq
     clear hq
     go_wp2_with (go_at_fn 100; refine hC.mono ?_; rintro r w1 ⟨rfl, hb1⟩)
     go_roundg (m - (i + 1))
     case measure => omega
     case rel =>
      refine ⟨i + 1, rfl, by omega, by go_num, HB.out.1.trans (hb1.mono HB.out.1.size), fun x hx => ?_⟩
      rw [take_succ_of HB.out.2.2] at hx
      rcases List.mem_append.1 hx with hx | hx
      ·exact HB.out.2.1 x hx
      ·rw [List.mem_singleton.1 hx]; exact HQ.out
  ·have HB : Hid _ := And.intro hb hall
   clear hb hall
   have q1 : ¬ (i : Int) < (m : Int) := by omega
   go_wp2
   go_ret
   refine ⟨?_, HB.out.1⟩
   have hal : es.all (edgeOk n k) = true := by
    rw [List.all_eq_true]
    intro x hx
    have h1 := HB.out.2 x (by rw [List.take_of_length_le (by have := HV.out.2.1; omega)]; exact hx)
    simpa using h1
   unfold firstBad
   rw [hal]
   rfl
set_option maxRecDepth 100000 in
set_option maxHeartbeats 1000000 in
theorem hasBad_any (n k s : Int) (ve v : Value) (b : Nat) (es : List Sy.Ed) (w : World) (hn : es.length <= 100000) (hv : BEdges.Has w v es) (hB : w.heap[b]? = some (.cells #[.int .i64 n, .int .i64 k, .int .i64 s, ve] 27 (0, 0))) :
 Calls Tryz.prog 70 #[v, .func (.func 100) #[] #[.pointer (some ⟨b, 0, none⟩)]] w fun r w' => r = .returned (.bool (!es.all (edgeOk n k))) /\ Below w.heap.size w w' := by
 have hC := idxBad_any n k s ve v b es w hn hv hB
 have hd : (!es.all (edgeOk n k)) = decide (0 <= firstBad n k es) := by
  unfold firstBad
  cases es.all (edgeOk n k) <;> simp
 rw [hd]
 generalize firstBad n k es = c at hC ⊢
 clear hd hB hv
 by_cases h : 0 <= c
 all_goals
  go_enter Tryz.func70, Tryz.ntmps70
  go_wp2_with (go_at_call 99; refine hC.mono ?_; rintro r w1 ⟨rfl, hb1⟩)
  go_ret
  exact ⟨by simp [h], hb1⟩
theorem mkStr_any (n k s : Int) (v : Value) (w : World) : Calls Tryz.prog 71 #[sysV n k s v] w fun r w' => r = .returned (.func (.func 100) #[] #[.pointer (some ⟨w.heap.size, 0, none⟩)]) /\ w' = w.alloc (.cells #[.int .i64 n, .int .i64 k, .int .i64 s, v] 27) := by
 unfold sysV
 go_enter Tryz.func71, Tryz.ntmps71
 go_wp2
 go_ret
 exact ⟨rfl, rfl⟩
def SErr (a : Addr) (w : World) (ok : Bool) (x : Value) : Prop := if ok = true then x = .nilIface else Chain w 0 0 a [sysB] x
def chkA (n k s : Int) (m : Nat) : Bool := decide (0 <= n /\ n <= 1000) && decide (1 <= k /\ k <= 201) && decide (0 <= s /\ s < max n 1) && decide (m <= 10000)
theorem right_eq (n k s : Int) (es : List Sy.Ed) : Sy.right n k s es = (chkA n k s es.length && es.all (edgeOk n k)) := by
 unfold Sy.right chkA edgeOk
 rw [Bool.eq_iff_iff]
 simp only [Bool.and_eq_true, decide_eq_true_eq]
 constructor
 ·rintro ⟨⟨h1, h2⟩, h3⟩
  refine ⟨⟨⟨⟨⟨h1.1, h1.2.1⟩, h1.2.2.1, h1.2.2.2.1⟩, ?_⟩, h1.2.2.2.2⟩, h3⟩
  rcases Int.lt_or_eq_of_le h1.1 with h | h
  ·have := h2.2 h; omega
  ·have := h2.1 h.symm; omega
 ·rintro ⟨⟨⟨⟨h1, h2⟩, h3⟩, h4⟩, h5⟩
  exact ⟨⟨⟨h1.1, h1.2, h2.1, h2.2, h4⟩, ⟨fun e => by omega, fun e => by omega⟩⟩, h5⟩
set_option maxRecDepth 100000 in
set_option maxHeartbeats 4000000 in
theorem check_early (n k s : Int) (ao : Option Addr) (m cap : Nat) (a : Addr) (w : World) (hS : Sent w 5 a) (h : chkA n k s m = false) :
 Calls Tryz.prog 45 #[sysV n k s (.slice ao m cap)] w fun r w' => ∃ x, r = .returned x /\ Chain w' 0 0 a [sysB] x /\ Below w.heap.size w w' := by
 unfold sysV
 have hg : (w.alloc (.cells #[.int .i64 n, .int .i64 k, .int .i64 s, .slice ao m cap] 27)).cell? ⟨5, 0, none⟩ = some (.iface 269 (.pointer (some a))) := (((Below.refl _ w).alloc (Nat.le_refl _) _).cell (World.block_lt_of_cell? w _ hS.1)).trans hS.1
 have hF := sysFault_any a (w.alloc (.cells #[.int .i64 n, .int .i64 k, .int .i64 s, .slice ao m cap] 27))
 have hb0 : Hid (Below w.heap.size w (w.alloc (.cells #[.int .i64 n, .int .i64 k, .int .i64 s, .slice ao m cap] 27))) := (Below.refl _ w).alloc (Nat.le_refl _) _
 have hc : ¬ 0 <= n \/ 0 <= n /\ ¬ n <= 1000 \/ (0 <= n /\ n <= 1000) /\ (¬ 1 <= k \/ 1 <= k /\ ¬ k <= 201 \/ (1 <= k /\ k <= 201) /\ (s < 0 \/ 0 <= s /\ (n < 1 /\ 1 <= s) \/ 0 <= s /\ (¬ n < 1 /\ n <= s) \/ 0 <= s /\ (n < 1 /\ ¬ 1 <= s) /\ (10000 : Int) < (m : Int) \/ 0 <= s /\ (¬ n < 1 /\ ¬ n <= s) /\ (10000 : Int) < (m : Int))) := by
  unfold chkA at h
  simp only [Bool.and_eq_false_iff, decide_eq_false_iff_not] at h
  omega
 clear h hS
 rcases hc with h | ⟨h1, h2⟩ | ⟨⟨h1, h2⟩, h | ⟨h3, h4⟩ | ⟨⟨h3, h4⟩, h | ⟨h5, h6, h7⟩ | ⟨h5, h6, h7⟩ | ⟨h5, ⟨h6, h7⟩, h8⟩ | ⟨h5, ⟨h6, h7⟩, h8⟩⟩⟩
 all_goals
  go_enter Tryz.func45, Tryz.ntmps45
  go_wp2_with (go_at_call 72; refine hF.mono ?_; rintro r w1 ⟨x, rfl, hC, hb1⟩; have HC : Hid _ := And.intro hC hb1; clear hC hb1)
  go_ret
  exact ⟨x, rfl, HC.out.1, hb0.out.trans (HC.out.2.mono hb0.out.size)⟩
set_option maxRecDepth 100000 in
set_option maxHeartbeats 4000000 in
theorem check_late (n k s : Int) (v : Value) (es : List Sy.Ed) (a : Addr) (w : World) (hS : Sent w 5 a) (hv : BEdges.Has w v es) (h : chkA n k s es.length = true) :
 Calls Tryz.prog 45 #[sysV n k s v] w fun r w' => ∃ x, r = .returned x /\ SErr a w' (es.all (edgeOk n k)) x /\ Below w.heap.size w w' := by
 obtain ⟨w0, hw0⟩ : ∃ w0, w0 = w.alloc (.cells #[.int .i64 n, .int .i64 k, .int .i64 s, v] 27) := ⟨_, rfl⟩
 have hb0 : Below w.heap.size w w0 := by rw [hw0]; exact (Below.refl _ _).alloc (Nat.le_refl _) _
 have hg0 : w0.heap[w.heap.size]? = some (.cells #[.int .i64 n, .int .i64 k, .int .i64 s, v] 27 (0, 0)) := by rw [hw0]; exact heap_alloc_new w _
 obtain ⟨ao, cap, rfl, _⟩ := _root_.id hv
 obtain ⟨m, hm⟩ : ∃ m, m = es.length := ⟨_, rfl⟩
 rw [<- hm] at h hg0 hw0 hv ⊢
 have hc : (0 <= n /\ n <= 1000) /\ (1 <= k /\ k <= 201) /\ (0 <= s /\ (n < 1 /\ ¬ 1 <= s \/ ¬ n < 1 /\ ¬ n <= s)) /\ m <= 10000 := by
  unfold chkA at h
  simp only [Bool.and_eq_true, decide_eq_true_eq] at h
  omega
 obtain ⟨⟨h1, h2⟩, ⟨h3, h4⟩, ⟨h5, h6⟩, h7⟩ := hc
 have h8 : ¬ (10000 : Int) < (m : Int) := by omega
 obtain ⟨x0, x1, x2, x3⟩ := four_cells hg0
 have hM : ∀ W, Below w0.heap.size w0 W -> Calls Tryz.prog 71 #[sysV n k s (.slice ao m cap)] W fun r w' => ∃ b, r = .returned (.func (.func 100) #[] #[.pointer (some ⟨b, 0, none⟩)]) /\ w'.heap[b]? = some (.cells #[.int .i64 n, .int .i64 k, .int .i64 s, .slice ao m cap] 27 (0, 0)) /\ Below W.heap.size W w' := fun W _ => (mkStr_any n k s _ W).mono fun r w' ⟨hr, hw⟩ => ⟨_, hr, by rw [hw]; exact heap_alloc_new W _, by rw [hw]; exact (Below.refl _ _).alloc (Nat.le_refl _) _⟩
 have hC : ∀ W b, Below w0.heap.size w0 W -> W.heap[b]? = some (.cells #[.int .i64 n, .int .i64 k, .int .i64 s, .slice ao m cap] 27 (0, 0)) -> Calls Tryz.prog 70 #[.slice ao m cap, .func (.func 100) #[] #[.pointer (some ⟨b, 0, none⟩)]] W fun r w' => r = .returned (.bool (!es.all (edgeOk n k))) /\ Below W.heap.size W w' := fun W b hb hB => hasBad_any n k s _ _ b es W (by omega) ((hv.below hb0).below hb) hB
 have HC : Hid _ := And.intro hM hC
 have HB : Hid _ := And.intro hb0 hS
 have HW : Hid (w0 = w.alloc (.cells #[.int .i64 n, .int .i64 k, .int .i64 s, .slice ao m cap] 27)) := hw0
 clear hw0
 unfold sysV at HC ⊢
 generalize hq : es.all (edgeOk n k) = q at HC ⊢
 clear hM hC hv hb0 hg0 hm h hS hq
 rcases h6 with ⟨h6, h9⟩ | ⟨h6, h9⟩
 all_goals
  cases q with
  | true =>
    go_enter Tryz.func45, Tryz.ntmps45
    go_upto_region 5 with fail
    rw [<- HW.out]
    go_region_held3 (fun w' => (w'.cell? ⟨w.heap.size, 0, none⟩ = some (.int .i64 n) /\ w'.cell? ⟨w.heap.size, 1, none⟩ = some (.int .i64 k) /\ w'.cell? ⟨w.heap.size, 2, none⟩ = some (.int .i64 s) /\ w'.cell? ⟨w.heap.size, 3, none⟩ = some (.slice ao m cap)) /\ Hid (Below w0.heap.size w0 w')) (first | exact rg_up4 hb3 (by assumption) | exact ⟨⟨x0, x1, x2, x3⟩, ((Below.refl _ _).drew : Below w0.heap.size w0 w0.drew)⟩ | go_keep)
     ((first
       | (go_at_call 71; refine (HC.out.1 _ (rg_b (by assumption))).mono ?_; rintro r w3 ⟨b3, rfl, hB3, hb3⟩)
       | (go_at_call 70; refine (HC.out.2 _ _ (rg_b (by assumption)) hB3).mono ?_; rintro r w3 ⟨rfl, hb3⟩)
       | fail))
    all_goals
     have HF : Hid (Below w0.heap.size w0 w3) := (rg_b (by assumption) : Below w0.heap.size w0 w3)
     clear hb3
     go_wp2_with fail
     go_ret
     exact ⟨_, rfl, by simp [SErr], HB.out.1.trans (HF.out.mono HB.out.1.size)⟩
  | false =>
    go_enter Tryz.func45, Tryz.ntmps45
    go_upto_region 5 with fail
    rw [<- HW.out]
    go_region_held3 (fun w' => (w'.cell? ⟨w.heap.size, 0, none⟩ = some (.int .i64 n) /\ w'.cell? ⟨w.heap.size, 1, none⟩ = some (.int .i64 k) /\ w'.cell? ⟨w.heap.size, 2, none⟩ = some (.int .i64 s) /\ w'.cell? ⟨w.heap.size, 3, none⟩ = some (.slice ao m cap)) /\ Hid (Below w0.heap.size w0 w')) (first | exact rg_up4 hb3 (by assumption) | exact ⟨⟨x0, x1, x2, x3⟩, ((Below.refl _ _).drew : Below w0.heap.size w0 w0.drew)⟩ | go_keep)
     ((first
       | (go_at_call 71; refine (HC.out.1 _ (rg_b (by assumption))).mono ?_; rintro r w3 ⟨b3, rfl, hB3, hb3⟩)
       | (go_at_call 70; refine (HC.out.2 _ _ (rg_b (by assumption)) hB3).mono ?_; rintro r w3 ⟨rfl, hb3⟩)
       | fail))
    all_goals
     have hbw : Below w0.heap.size w0 w3 := rg_b (by assumption)
     have hS3 := (HB.out.2.below HB.out.1).below hbw
     have hg := hS3.1
     have HF : Hid (Below w0.heap.size w0 w3) := hbw
     have hFl := sysFault_any a w3
     clear hb3 hbw hS3
     go_wp2_with (go_at_call 72; refine hFl.mono ?_; rintro r w4 ⟨x, rfl, hC4, hb4⟩; have HC4 : Hid _ := And.intro hC4 hb4; clear hC4 hb4)
     go_ret
     exact ⟨x, rfl, by simpa [SErr] using HC4.out.1, (HB.out.1.trans (HF.out.mono HB.out.1.size)).trans (HC4.out.2.mono (by have := HB.out.1.size; have := HF.out.size; omega))⟩
theorem check_any (n k s : Int) (v : Value) (es : List Sy.Ed) (a : Addr) (w : World) (hS : Sent w 5 a) (hv : BEdges.Has w v es) :
 Calls Tryz.prog 45 #[sysV n k s v] w fun r w' => ∃ x, r = .returned x /\ SErr a w' (Sy.right n k s es) x /\ Below w.heap.size w w' := by
 rw [right_eq]
 cases h : chkA n k s es.length with
 | true =>
   rw [Bool.true_and]
   exact check_late n k s v es a w hS hv h
 | false =>
   obtain ⟨ao, cap, rfl, _⟩ := _root_.id hv
   refine (check_early n k s ao es.length cap a w hS h).mono fun r w' ⟨x, hr, hC, hb⟩ => ⟨x, hr, by simpa [SErr] using hC, hb⟩
end
end Go.Proofs.YtgehimdkdeldaabGreatDoor
