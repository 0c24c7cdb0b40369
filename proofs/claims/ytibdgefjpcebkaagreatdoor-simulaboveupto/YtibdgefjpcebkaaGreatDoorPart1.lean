/- Texts of this claim, joined: SmMem, BrPart, SmTake, BrTz, RoLoop, BrAll, SyOut0, SyTab0, BookApp, BookNil, BXSteps, SyReaP. -/
import Derived.Test.YtibdgefjpcebkaaGreatDoorPart0
import Derived.Lib.SliceRun
import Derived.Lib.Walk
import Derived.RangeFuncNested
import Derived.RangeFuncBound
import Derived.RangeFuncCalls
import Derived.RangeFuncLeaves
import Derived.RangeFuncBox
import Derived.RangeFuncWrites
import Derived.Shelf.Abstract
import Derived.Shelf.RegionOpen
import Derived.WalkKit
import Derived.OwnWalkIn
import Derived.TacticsInMore
import Derived.LoopNIn
import Derived.LoopIn
import Derived.ArgAppend
import Derived.Test.YtibdgefjpcebkaaGreatDoorProg
import Derived.RowKitTokens
import Derived.WalkSmall
import Derived.ProofKit
import Derived.Deep.QuietTactic
import Derived.BigQuiet
namespace Go.Proofs.YtibdgefjpcebkaaGreatDoor
section
open Go.RowKit Go.Maps
structure Lc where
  b : Nat
  o : Nat
  c : Nat
def Lc.v (x : Lc) (d : Nat) : Value := rowV x.b x.o d x.c
def Lc.off (d : Nat) (x y : Lc) : Prop := x.b ≠ y.b ∨ x.o + d ≤ y.o ∨ y.o + d ≤ x.o
theorem Lc.off.symm {d : Nat} {x y : Lc} (h : Lc.off d x y) : Lc.off d y x := by
  unfold Lc.off at h ⊢
  rcases h with h | h | h
  · exact .inl fun e => h e.symm
  · exact .inr (.inr h)
  · exact .inr (.inl h)
def upm {α : Type} (f : Nat → α) (p : Nat) (x : α) : Nat → α := fun q => if q = p then x else f q
theorem upm_same {α : Type} (f : Nat → α) (p : Nat) (x : α) : upm f p x p = x := by simp [upm]
theorem upm_ne {α : Type} (f : Nat → α) {p q : Nat} (x : α) (h : q ≠ p) : upm f p x q = f q := by simp [upm, h]
theorem row_list_ne {ty : TypeId} {w : World} {b o d g m i : Nat} {S : Nat → Bool} {f : Nat → Value} (h : RowAt w b o d S) (k : ListAt ty w g m f) (ht : ty ≠ 125) (_ : i = i) : g ≠ b := fun e => by
  obtain ⟨cs, hc, _⟩ := h
  obtain ⟨c2, hc2, _⟩ := k
  rw [e, hc] at hc2
  injection hc2 with e2
  injection e2 with _ e3
  exact ht e3.symm
structure Rws (w : World) (B g n d : Nat) (r : Nat → Lc) (X : Nat → Nat → Bool) : Prop where
  lst : ListAt 75 w g n fun p => (r p).v d
  row : ∀ p, p < n → RowAt w (r p).b (r p).o d (X p)
  ug : B ≤ g
  ur : ∀ p, p < n → B ≤ (r p).b
theorem Rws.below {w w' : World} {B g n d : Nat} {r : Nat → Lc} {X : Nat → Nat → Bool} (h : Rws w B g n d r X) (hb : Below w.heap.size w w') : Rws w' B g n d r X := ⟨h.lst.below hb, fun p hp => (h.row p hp).below hb, h.ug, h.ur⟩
theorem Rws.congr {w : World} {B g n d : Nat} {r : Nat → Lc} {X Y : Nat → Nat → Bool} (h : Rws w B g n d r X) (hX : ∀ p q, p < n → q / 64 < d → X p q = Y p q) : Rws w B g n d r Y := ⟨h.lst, fun p hp => (h.row p hp).congr fun q hq => hX p q hp hq, h.ug, h.ur⟩
theorem Rws.wr {w w' : World} {B g n d b o : Nat} {r : Nat → Lc} {X : Nat → Nat → Bool} {S : Nat → Bool} (h : Rws w B g n d r X) (hw : Wr b o d w w') (hS : RowAt w b o d S) (ha : ∀ p, p < n → (r p).b ≠ b ∨ (r p).o + d ≤ o ∨ o + d ≤ (r p).o) : Rws w' B g n d r X :=
  ⟨h.lst.kept hw.kp (row_list_ne (i := 0) hS h.lst (by decide) rfl), fun p hp => (h.row p hp).wr hw (ha p hp), h.ug, h.ur⟩
theorem Rws.put {w w' : World} {B g n d p : Nat} {r : Nat → Lc} {X : Nat → Nat → Bool} {T : Nat → Bool} (h : Rws w B g n d r X) (hp : p < n) (hw : Wr (r p).b (r p).o d w w') (hT : RowAt w' (r p).b (r p).o d T) (ha : ∀ q, q < n → q ≠ p → Lc.off d (r q) (r p)) : Rws w' B g n d r (upm X p T) := by
  refine ⟨h.lst.kept hw.kp (row_list_ne (i := 0) (h.row p hp) h.lst (by decide) rfl), fun q hq => ?_, h.ug, h.ur⟩
  by_cases e : q = p
  · subst e; rw [upm_same]; exact hT
  · rw [upm_ne _ _ e]; exact (h.row q hq).wr hw (ha q hq e)
theorem RowAt.lists {ty : TypeId} {w : World} {b o d g m i : Nat} {S : Nat → Bool} {f : Nat → Value} {v : Value} (h : RowAt w b o d S) (k : ListAt ty w g m f) (ht : ty ≠ 125) : RowAt (w.setCell ⟨g, i, none⟩ v) b o d S := h.at (set_other w g i b v fun e => row_list_ne (i := 0) h k ht rfl e.symm)
theorem Rws.other {ty : TypeId} {w : World} {B g n d h m i : Nat} {r : Nat → Lc} {X : Nat → Nat → Bool} {f : Nat → Value} {v : Value} (hR : Rws w B g n d r X) (k : ListAt ty w h m f) (ht : ty ≠ 125) (hne : g ≠ h) : Rws (w.setCell ⟨h, i, none⟩ v) B g n d r X := ⟨hR.lst.other hne, fun p hp => (hR.row p hp).lists k ht, hR.ug, hR.ur⟩
theorem Rws.set {w : World} {B g n d p : Nat} {r : Nat → Lc} {X : Nat → Nat → Bool} {T : Nat → Bool} (h : Rws w B g n d r X) (y : Lc) (hT : RowAt w y.b y.o d T) (hy : B ≤ y.b) : Rws (w.setCell ⟨g, p, none⟩ (y.v d)) B g n d (upm r p y) (upm X p T) := by
  refine ⟨(h.lst.put (y.v d)).congr fun q hq => ?_, fun q hq => ?_, h.ug, fun q hq => ?_⟩
  · by_cases e : q = p
    · subst e; rw [if_pos rfl, upm_same]
    · rw [if_neg e, upm_ne _ _ e]
  · by_cases e : q = p
    · subst e; rw [upm_same, upm_same]; exact hT.lists h.lst (by decide)
    · rw [upm_ne _ _ e, upm_ne _ _ e]; exact (h.row q hq).lists h.lst (by decide)
  · by_cases e : q = p
    · subst e; rw [upm_same]; exact hy
    · rw [upm_ne _ _ e]; exact h.ur q hq
structure Ml where
  ge : Nat
  ga : Nat
  gl : Nat
  er : Nat → Nat
  ew : Nat → Nat
def Ez (es : List Sy.Ed) (a : Nat) : Nat → Nat → Bool := fun p t => decide (((p : Int), (a : Int), (t : Int)) ∈ es)
structure SvM (w : World) (B gv gr n k d : Nat) (m : Ml) (ra rl : Nat → Lc) (es : List Sy.Ed) (A L : Nat → Nat → Bool) : Prop where
  box : w.heap[gv]? = some (.cells #[.pointer (some ⟨gr, 0, none⟩), .slice (some ⟨m.ge, 0, none⟩) k k, .slice (some ⟨m.ga, 0, none⟩) n n, .slice (some ⟨m.gl, 0, none⟩) n n] 123 (0, 0))
  uv : B ≤ gv
  ends : ListAt 70 w m.ge k fun a => .slice (some ⟨m.er a, 0, none⟩) n n
  end1 : ∀ a, a < k → Rws w B (m.er a) n d (fun p => ⟨m.ew a, p * d, d⟩) (Ez es a)
  above : Rws w B m.ga n d ra A
  lost : Rws w B m.gl n d rl L
  apll : ∀ p q, p < n → q < n → p ≠ q → Lc.off d (rl p) (rl q)
  apla : ∀ p q, p < n → q < n → Lc.off d (rl p) (ra q)
  aple : ∀ p a, p < n → a < k → (rl p).b ≠ m.ew a
  gal : m.ga ≠ m.gl
  gea : ∀ a, a < k → m.er a ≠ m.ga ∧ m.er a ≠ m.gl
theorem SvM.below {w w' : World} {B gv gr n k d : Nat} {m : Ml} {ra rl : Nat → Lc} {es : List Sy.Ed} {A L : Nat → Nat → Bool} (h : SvM w B gv gr n k d m ra rl es A L) (hb : Below w.heap.size w w') : SvM w' B gv gr n k d m ra rl es A L :=
  ⟨(hb.block _ (t_lt h.box)).trans h.box, h.uv, h.ends.below hb, fun a ha => (h.end1 a ha).below hb, h.above.below hb, h.lost.below hb, h.apll, h.apla, h.aple, h.gal, h.gea⟩
theorem SvM.congr {w : World} {B gv gr n k d : Nat} {m : Ml} {ra rl : Nat → Lc} {es : List Sy.Ed} {A L A' L' : Nat → Nat → Bool} (h : SvM w B gv gr n k d m ra rl es A L) (hA : ∀ p q, p < n → q / 64 < d → A p q = A' p q) (hL : ∀ p q, p < n → q / 64 < d → L p q = L' p q) : SvM w B gv gr n k d m ra rl es A' L' :=
  ⟨h.box, h.uv, h.ends, h.end1, h.above.congr hA, h.lost.congr hL, h.apll, h.apla, h.aple, h.gal, h.gea⟩
theorem SvM.cells {w : World} {B gv gr n k d : Nat} {m : Ml} {ra rl : Nat → Lc} {es : List Sy.Ed} {A L : Nat → Nat → Bool} (h : SvM w B gv gr n k d m ra rl es A L) : w.cell? ⟨gv, 0, none⟩ = some (.pointer (some ⟨gr, 0, none⟩)) ∧ w.cell? ⟨gv, 1, none⟩ = some (.slice (some ⟨m.ge, 0, none⟩) k k) ∧ w.cell? ⟨gv, 2, none⟩ = some (.slice (some ⟨m.ga, 0, none⟩) n n) ∧ w.cell? ⟨gv, 3, none⟩ = some (.slice (some ⟨m.gl, 0, none⟩) n n) := ⟨cell0_of h.box rfl, cell0_of h.box rfl, cell0_of h.box rfl, cell0_of h.box rfl⟩
theorem box_list_ne {ty : TypeId} {w : World} {gv g m : Nat} {cs : Array Value} {t : TypeId} {f : Nat → Value} (h : w.heap[gv]? = some (.cells cs t (0, 0))) (k : ListAt ty w g m f) (ht : ty ≠ t) : gv ≠ g := fun e => by
  obtain ⟨c2, hc2, _⟩ := k
  rw [← e, h] at hc2
  injection hc2 with e2
  injection e2 with _ e3
  exact ht e3.symm
theorem list_list_ne {ty t : TypeId} {w : World} {g m g2 m2 : Nat} {f f2 : Nat → Value} (h : ListAt t w g2 m2 f2) (k : ListAt ty w g m f) (ht : ty ≠ t) : g2 ≠ g := by
  obtain ⟨c2, hc2, _⟩ := h
  exact box_list_ne hc2 k ht
theorem box_row_ne {w : World} {gv b o d : Nat} {cs : Array Value} {t : TypeId} {S : Nat → Bool} (h : w.heap[gv]? = some (.cells cs t (0, 0))) (k : RowAt w b o d S) (ht : t ≠ 125) : gv ≠ b := fun e => by
  obtain ⟨c2, hc2, _⟩ := k
  rw [← e, h] at hc2
  injection hc2 with e2
  injection e2 with _ e3
  exact ht e3
theorem SvM.setAbove {w : World} {B gv gr n k d p : Nat} {m : Ml} {ra rl : Nat → Lc} {es : List Sy.Ed} {A L : Nat → Nat → Bool} {T : Nat → Bool} (h : SvM w B gv gr n k d m ra rl es A L) (hp : p < n) (y : Lc) (hT : RowAt w y.b y.o d T) (hy : B ≤ y.b) (hf : ∀ q, q < n → Lc.off d (rl q) y) : SvM (w.setCell ⟨m.ga, p, none⟩ (y.v d)) B gv gr n k d m (upm ra p y) rl es (upm A p T) L := by
  have k1 := h.above.lst
  refine ⟨(set_other w _ _ _ _ (box_list_ne h.box k1 (by decide))).trans h.box, h.uv, h.ends.other (list_list_ne h.ends k1 (by decide)), fun a ha => (h.end1 a ha).other k1 (by decide) (h.gea a ha).1, h.above.set y hT hy, h.lost.other k1 (by decide) fun e => h.gal e.symm, h.apll, fun x q hx hq => ?_, h.aple, h.gal, h.gea⟩
  by_cases e : q = p
  · subst e; rw [upm_same]; exact hf x hx
  · rw [upm_ne _ _ e]; exact h.apla x q hx hq
theorem SvM.setLost {w : World} {B gv gr n k d p : Nat} {m : Ml} {ra rl : Nat → Lc} {es : List Sy.Ed} {A L : Nat → Nat → Bool} {T : Nat → Bool} (h : SvM w B gv gr n k d m ra rl es A L) (y : Lc) (hT : RowAt w y.b y.o d T) (hy : B ≤ y.b) (hl : ∀ q, q < n → q ≠ p → Lc.off d y (rl q)) (ha : ∀ q, q < n → Lc.off d y (ra q)) (he : ∀ a, a < k → y.b ≠ m.ew a) : SvM (w.setCell ⟨m.gl, p, none⟩ (y.v d)) B gv gr n k d m ra (upm rl p y) es A (upm L p T) := by
  have k1 := h.lost.lst
  refine ⟨(set_other w _ _ _ _ (box_list_ne h.box k1 (by decide))).trans h.box, h.uv, h.ends.other (list_list_ne h.ends k1 (by decide)), fun a ha => (h.end1 a ha).other k1 (by decide) (h.gea a ha).2, h.above.other k1 (by decide) h.gal, h.lost.set y hT hy, fun x q hx hq hne => ?_, fun x q hx hq => ?_, fun x a hx ha2 => ?_, h.gal, h.gea⟩
  · by_cases e : x = p
    · subst e
      rw [upm_same, upm_ne _ _ fun e => hne e.symm]
      exact hl q hq fun e => hne e.symm
    · rw [upm_ne _ _ e]
      by_cases e2 : q = p
      · subst e2; rw [upm_same]; exact (hl x hx e).symm
      · rw [upm_ne _ _ e2]; exact h.apll x q hx hq hne
  · by_cases e : x = p
    · subst e; rw [upm_same]; exact ha q hq
    · rw [upm_ne _ _ e]; exact h.apla x q hx hq
  · by_cases e : x = p
    · subst e; rw [upm_same]; exact he a ha2
    · rw [upm_ne _ _ e]; exact h.aple x a hx ha2
theorem SvM.join {w w' : World} {B gv gr n k d p : Nat} {m : Ml} {ra rl : Nat → Lc} {es : List Sy.Ed} {A L : Nat → Nat → Bool} {T : Nat → Bool} (h : SvM w B gv gr n k d m ra rl es A L) (hp : p < n) (hw : Wr (rl p).b (rl p).o d w w') (hT : RowAt w' (rl p).b (rl p).o d T) : SvM w' B gv gr n k d m ra rl es A (upm L p T) := by
  have hS := h.lost.row p hp
  refine ⟨(hw.kp.block _ (t_lt h.box) (box_row_ne h.box hS (by decide))).trans h.box, h.uv, h.ends.kept hw.kp (row_list_ne (i := 0) hS h.ends (by decide) rfl), fun a ha => (h.end1 a ha).wr hw hS fun q hq => .inl fun e => h.aple p a hp ha e.symm, h.above.wr hw hS fun q hq => (h.apla p q hp hq).symm, h.lost.put hp hw hT fun q hq hne => h.apll q p hq hp hne, h.apll, h.apla, h.aple, h.gal, h.gea⟩
theorem SvM.fresh {w : World} {B gv gr n k d : Nat} {m : Ml} {ra rl : Nat → Lc} {es : List Sy.Ed} {A L : Nat → Nat → Bool} (h : SvM w B gv gr n k d m ra rl es A L) {y : Lc} (hy : w.heap.size ≤ y.b) : (∀ q, q < n → Lc.off d y (rl q)) ∧ (∀ q, q < n → Lc.off d y (ra q)) ∧ (0 < n → ∀ a, a < k → y.b ≠ m.ew a) :=
  ⟨fun q hq => .inl (by have := (h.lost.row q hq).lt; omega), fun q hq => .inl (by have := (h.above.row q hq).lt; omega), fun h0 a ha => by have := ((h.end1 a ha).row 0 h0).lt; show y.b ≠ m.ew a; dsimp only at this; omega⟩
end
section
open Go.RowKit Go.Maps
attribute [local go_sem ↓] Go.wp_at_zero Go.wp_at_succ
def rowC (S : Nat → Bool) (d : Nat) : List Value := (List.range d).map fun i => .int .u64 (Br.wd S i : Nat)
theorem rowC_len (S : Nat → Bool) (d : Nat) : (rowC S d).length = d := by simp [rowC]
theorem rowC_at {S : Nat → Bool} {d i : Nat} {u : Value} (h : (rowC S d)[i]? = some u) : i < d ∧ u = .int .u64 (Br.wd S i : Nat) := by
  have hl := (List.getElem?_eq_some_iff.1 h).1
  rw [rowC_len] at hl
  refine ⟨hl, ?_⟩
  unfold rowC at h
  rw [List.getElem?_map, List.getElem?_range hl] at h
  simpa using h.symm
theorem rowC_get {S : Nat → Bool} {d i : Nat} (h : i < d) : (rowC S d)[i]? = some (.int .u64 (Br.wd S i : Nat)) := by
  unfold rowC
  rw [List.getElem?_map, List.getElem?_range h]; rfl
theorem row_of_owns {w : World} {B d : Nat} {v : Value} {S : Nat → Bool} (h : w.ownsRow B 125 1 v d (rowC S d)) (hd : 0 < d) : ∃ g c, v = rowV g 0 d c ∧ RowAt w g 0 d S ∧ B ≤ g := by
  rcases _root_.id h.2 with ⟨_, h0⟩ | ⟨g, cap, cur, rfl, h3, hg, _⟩
  · omega
  · refine ⟨g, cap, rfl, ⟨cur, hg, fun i hi => ?_⟩, h3⟩
    have h5 := h.cellAt i (by omega)
    rw [rowC_get hi] at h5
    simp only [World.cell?, hg] at h5
    rw [Nat.zero_add]
    exact h5
theorem Tryz.eqClRow (w : World) (a : Option Addr) (n c n' c' : Nat) : (binOp .eql 75 (.slice a n c) (.slice none n' c')).run Tryz.prog w = .ok (.bool a.isNone) w := Lib.run_eql_slice_nil w _ _ a n c n' c' Tryz.underlying75
set_option maxRecDepth 100000 in
set_option maxHeartbeats 1000000 in
theorem cloneRow_any (b o d c : Nat) (S : Nat → Bool) (w : World) (hd0 : 0 < d) (hd : d ≤ 10000) (hR : RowAt w b o d S) :
    Calls Tryz.prog 166 #[rowV b o d c] w fun r w' => ∃ g c', r = .returned (rowV g 0 d c') ∧ RowAt w' g 0 d S ∧ w.heap.size ≤ g ∧ Below w.heap.size w w' := by
  obtain ⟨i0, hi0, hz0, hz1, hz2⟩ := info_parts Tryz.infoU64
  have hq := Tryz.eqClRow
  have hl := rowC_len S d
  have hcs : ∀ j u, (rowC S d)[j]? = some u → w.cell? ((⟨b, o, none⟩ : Addr).add j) = some u := fun j u hj => by
    obtain ⟨h1, rfl⟩ := rowC_at hj
    rw [Addr.add_lit]
    exact hR.cell h1
  have A : Aside (∀ j u, (rowC S d)[j]? = some u → w.cell? ((⟨b, o, none⟩ : Addr).add j) = some u) := hcs
  clear hR hcs
  unfold rowV
  go_enter Tryz.func166, Tryz.ntmps166
  go_wp2_with (at_builtin; refine wpList_append_own _ rfl _ _ 75 rfl w.heap.size 125 i0 (.int .u64 0) 1 8 Tryz.underlying75 hi0 hz0 hz1 hz2 rfl (by decide) _ _ _ rfl (World.ownsRow_made w #[] 0 (Nat.le_refl _) (Nat.zero_le _) (by simp)) ⟨b, o, none⟩ d c (rowC S d) rfl ?qc1 ?qc2 ?qc3 ?qc4 ?qc5 ?qc6 ?_)
  case qc1 => rw [hl]; omega
  case qc2 =>
    intro j u hj
    have h1 := A.out j u hj
    exact (((Below.refl _ w).alloc (Nat.le_refl _) _).cell (World.block_lt_of_cell? w _ h1)).trans h1
  case qc3 =>
    intro u hu
    obtain ⟨j, hj⟩ := List.mem_iff_getElem?.1 hu
    obtain ⟨_, rfl⟩ := rowC_at hj
    rfl
  case qc4 => unfold maxLen; omega
  case qc5 => omega
  case qc6 => simp
  intro v' w1 hown hgrow hnil
  go_wp2
  go_ret
  have h2 : w1.ownsRow w.heap.size 125 1 v' d (rowC S d) := by have := hown; simpa using this
  obtain ⟨g, c', rfl, h3, h4⟩ := row_of_owns h2 hd0
  exact ⟨g, c', rfl, h3, h4, ((Below.refl _ w).alloc (Nat.le_refl _) _).grown hgrow (by simp) (by intro k hk; simp [Value.ownBlock] at hk; omega)⟩
def andS (S T : Nat → Bool) (i : Nat) : Nat → Bool := fun q => S q && (T q || !decide (q / 64 < i))
def notS (S T : Nat → Bool) (i : Nat) : Nat → Bool := fun q => S q && !(T q && decide (q / 64 < i))
set_option maxRecDepth 100000 in
set_option maxHeartbeats 4000000 in
theorem partedRow_any (b o d c b2 o2 c2 : Nat) (S T : Nat → Bool) (w : World) (hd0 : 0 < d) (hd : d ≤ 10000) (hR : RowAt w b o d S) (hT : RowAt w b2 o2 d T) : Calls Tryz.prog 150 #[rowV b o d c, rowV b2 o2 d c2] w fun r w' => ∃ g1 c1 g2 c2', r = .returned (.tuple #[rowV g1 0 d c1, rowV g2 0 d c2']) ∧ RowAt w' g1 0 d (fun q => S q && T q) ∧ RowAt w' g2 0 d (fun q => S q && !T q) ∧ g1 ≠ g2 ∧ w.heap.size ≤ g1 ∧ w.heap.size ≤ g2 ∧ Below w.heap.size w w' := by
  have hC1 := cloneRow_any b o d c S w hd0 hd hR
  have HC1 : Hid _ := hC1
  have HR : Hid (RowAt w b o d S ∧ RowAt w b2 o2 d T) := And.intro hR hT
  clear hR hT hC1
  unfold rowV at HC1 ⊢
  go_enter Tryz.func150, Tryz.ntmps150
  go_wp2_with fail
  refine Calls.mono HC1.out ?_
  rintro r w1 ⟨g1, c1, rfl, hR1, hu1, hb1⟩
  have hC2 := cloneRow_any b o d c S w1 hd0 hd (HR.out.1.below hb1)
  have H1 : Hid (RowAt w1 g1 0 d S ∧ w.heap.size ≤ g1 ∧ Below w.heap.size w w1) := ⟨hR1, hu1, hb1⟩
  have HC2 : Hid _ := hC2
  clear hR1 hu1 hb1 hC2 HC1
  unfold rowV at HC2
  go_wp2_with fail
  refine Calls.mono HC2.out ?_
  rintro r w2 ⟨g2, c2', rfl, hR2, hu2, hb2⟩
  have hne : g1 ≠ g2 := by have := H1.out.1.lt; omega
  have H2 : Hid (RowAt w2 g1 0 d S ∧ RowAt w2 g2 0 d S ∧ RowAt w2 b2 o2 d T ∧ w.heap.size ≤ g1 ∧ w.heap.size ≤ g2 ∧ Below w.heap.size w w2) :=
    ⟨H1.out.1.below hb2, hR2, (HR.out.2.below H1.out.2.2).below hb2, H1.out.2.1, Nat.le_trans H1.out.2.2.size hu2, H1.out.2.2.trans (hb2.mono H1.out.2.2.size)⟩
  have HT : b2 < w.heap.size := HR.out.2.lt
  clear hR2 hu2 hb2 HC2 H1 HR
  go_wp2_with fail
  go_loopg [16] d (fun k iv wr => ∃ i : Nat, k = d - i ∧ i ≤ d ∧ iv = .int .i64 i ∧ RowAt wr g1 0 d (andS S T i) ∧ RowAt wr g2 0 d (notS S T i) ∧ Kept (fun g => g = g1 ∨ g = g2) w2 wr)
  case atStart => exact ⟨0, rfl, Nat.zero_le _, rfl, H2.out.1.congr fun q _ => by simp [andS], H2.out.2.1.congr fun q _ => by simp [notS], Kept.refl _ _⟩
  case round =>
    obtain ⟨i, rfl, hi, rfl, hA, hB, hK⟩ := hrel
    by_cases hlt : i < d
    · have hB2 := H2.out.2.2.1.kept hK (by have := H2.out.2.2.2.1; have := H2.out.2.2.2.2.1; omega)
      have c0 := hA.cell hlt
      have c1 := hB.cell hlt
      have c3 := hB2.cell hlt
      rw [Nat.zero_add] at c0 c1
      have f0 := hA.free i
      have f1 := hB.free i
      have h0 : (0 : Int) ≤ (i : Int) := by omega
      have h1 : (i : Int) < (d : Int) := by omega
      have HA : Hid (RowAt wr g1 0 d (andS S T i) ∧ RowAt wr g2 0 d (notS S T i) ∧ Kept (fun g => g = g1 ∨ g = g2) w2 wr) := ⟨hA, hB, hK⟩
      clear hA hB hK hB2
      go_wp2_with (simp only [Br.b_and, Br.wd_andNot])
      go_roundg (d - (i + 1))
      case measure => omega
      case rel =>
        have e1 : Br.wd (fun q => andS S T i q && T q) i = Br.wd (andS S T (i + 1)) i := Br.wd_congr fun q hq => by
          have e2 : decide (q / 64 < i) = false := by simp; omega
          have e3 : decide (q / 64 < i + 1) = true := by simp; omega
          simp [andS, e2, e3]
        have e4 : Br.wd (fun q => notS S T i q && !T q) i = Br.wd (notS S T (i + 1)) i := Br.wd_congr fun q hq => by
          have e2 : decide (q / 64 < i) = false := by simp; omega
          have e3 : decide (q / 64 < i + 1) = true := by simp; omega
          simp [notS, e2, e3]
        rw [e1, e4]
        have p1 := HA.out.1.put hlt (andS S T (i + 1)) fun q hq => by
          have : decide (q / 64 < i + 1) = decide (q / 64 < i) := by simp only [decide_eq_decide]; omega
          simp only [andS, this]
        rw [Nat.zero_add] at p1
        have k1 := Kept.setCell wr g1 i (.int .u64 (Br.wd (andS S T (i + 1)) i : Nat))
        have p2 := (HA.out.2.1.kept k1 fun e => hne e.symm).put hlt (notS S T (i + 1)) fun q hq => by
          have : decide (q / 64 < i + 1) = decide (q / 64 < i) := by simp only [decide_eq_decide]; omega
          simp only [notS, this]
        rw [Nat.zero_add] at p2
        have k2 := Kept.setCell (wr.setCell ⟨g1, i, none⟩ (.int .u64 (Br.wd (andS S T (i + 1)) i : Nat))) g2 i (.int .u64 (Br.wd (notS S T (i + 1)) i : Nat))
        exact ⟨i + 1, rfl, by omega, by go_num, p1.kept k2 hne, p2, HA.out.2.2.trans ((k1.mono fun _ _ h => .inl h).trans (k2.mono fun _ _ h => .inr h))⟩
    · obtain rfl : i = d := by omega
      have h1 : ¬ (i : Int) < (i : Int) := by omega
      have HA : Hid (RowAt wr g1 0 i (andS S T i) ∧ RowAt wr g2 0 i (notS S T i) ∧ Kept (fun g => g = g1 ∨ g = g2) w2 wr) := ⟨hA, hB, hK⟩
      clear hA hB hK
      go_wp2_with fail
      go_ret2
      have k4 := H2.out.2.2.2.2.1
      have k3 := H2.out.2.2.2.1
      refine ⟨g1, _, g2, ⟨_, rfl⟩, HA.out.1.congr fun q hq => ?_, HA.out.2.1.congr fun q hq => ?_, hne, k3, k4, H2.out.2.2.2.2.2.trans (HA.out.2.2.below H2.out.2.2.2.2.2.size fun k hk => by rcases hk with rfl | rfl <;> omega)⟩
      · simp [andS, hq]
      · simp [notS, hq]
end
section
open Go.RowKit Go.Maps
attribute [local go_sem ↓] Go.wp_at_zero Go.wp_at_succ
structure SmFr (w w' : World) (B n d : Nat) (rl : Nat → Lc) : Prop where
  bl : Below B w w'
  row : ∀ b o S, RowAt w b o d S → (∀ q, q < n → Lc.off d ⟨b, o, 0⟩ (rl q)) → RowAt w' b o d S
  oth : ∀ (g : Nat) (cs : Array Value) (t : TypeId), w.heap[g]? = some (.cells cs t (0, 0)) → t ≠ 125 → t ≠ 75 → w'.heap[g]? = some (.cells cs t (0, 0))
theorem SmFr.trans {w w1 w2 : World} {B n d : Nat} {rl : Nat → Lc} (h : SmFr w w1 B n d rl) (k : SmFr w1 w2 B n d rl) : SmFr w w2 B n d rl := ⟨h.bl.trans k.bl, fun b o S hS hq => k.row b o S (h.row b o S hS hq) hq, fun g cs t hc h1 h2 => k.oth g cs t (h.oth g cs t hc h1 h2) h1 h2⟩
theorem SmFr.of_below {w w' : World} {B n d : Nat} {rl : Nat → Lc} (hB : B ≤ w.heap.size) (h : Below w.heap.size w w') : SmFr w w' B n d rl := ⟨h.mono hB, fun _ _ _ hS _ => hS.below h, fun g _ _ hc _ _ => (h.block g (t_lt hc)).trans hc⟩
set_option maxRecDepth 100000 in
set_option maxHeartbeats 4000000 in
theorem mtake_any {w : World} {B gv gr n k d p bu ou cu : Nat} {m : Ml} {ra rl : Nat → Lc} {es : List Sy.Ed} {A L : Nat → Nat → Bool} {U : Nat → Bool} (hd0 : 0 < d) (hd : d ≤ 10000) (hB : B ≤ w.heap.size) (h : SvM w B gv gr n k d m ra rl es A L) (hp : p < n) (hU : RowAt w bu ou d U) :
    Calls Tryz.prog 138 #[.pointer (some ⟨gv, 0, none⟩), .int .i64 p, rowV bu ou d cu] w fun r w' => (∃ v, r = .returned v) ∧ (∃ ra', SvM w' B gv gr n k d m ra' rl es (Sm.tkA A p U) (Sm.tkL A L p U)) ∧ SmFr w w' B n d rl := by
  obtain ⟨_, _, c2, c3⟩ := h.cells
  have c4 := h.above.lst.cell hp
  have hP := partedRow_any (ra p).b (ra p).o d (ra p).c bu ou cu (A p) U w hd0 hd (h.above.row p hp) hU
  have r0 : (0 : Int) ≤ (p : Int) := by omega
  have r1 : (p : Int) < (n : Int) := by omega
  have HP : Hid _ := hP
  have H0 : Hid (SvM w B gv gr n k d m ra rl es A L) := h
  clear hP h hU
  unfold Lc.v rowV at c4
  unfold rowV at HP ⊢
  go_enter Tryz.func138, Tryz.ntmps138
  go_wp2_with fail
  refine Calls.mono HP.out ?_
  rintro r w1 ⟨g1, c1', g2, c2', rfl, hR1, hR2, hne, hu1, hu2, hb1⟩
  have h1 := H0.out.below hb1
  have hf1 := H0.out.fresh (y := ⟨g1, 0, c1'⟩) hu1
  have hf2 := H0.out.fresh (y := ⟨g2, 0, c2'⟩) hu2
  have h2 := h1.setAbove hp ⟨g2, 0, c2'⟩ hR2 (Nat.le_trans hB hu2) fun q hq => (hf2.1 q hq).symm
  have hR1' := hR1.lists (i := p) (v := (⟨g2, 0, c2'⟩ : Lc).v d) h1.above.lst (by decide)
  obtain ⟨_, _, x2, x3⟩ := h1.cells
  have x4 := h1.above.lst.cell hp
  have x5 := h1.above.lst.free p
  obtain ⟨w2, hw2⟩ : ∃ w2, w2 = w1.setCell ⟨m.ga, p, none⟩ ((⟨g2, 0, c2'⟩ : Lc).v d) := ⟨_, rfl⟩
  rw [← hw2] at h2 hR1'
  have hJ := joinRow_any (rl p).b (rl p).o d (rl p).c g1 0 c1' (L p) (fun q => A p q && U q) w2 hd (h2.lost.row p hp) hR1' (hf1.1 p hp)
  have y3 := h2.cells.2.2.2
  have y4 := h2.lost.lst.cell hp
  have H2 : Hid _ := And.intro hJ (And.intro h2 (And.intro hb1 (And.intro (h1.above.lst) (And.intro hf1 hw2))))
  clear hJ h2 h1 hb1 hf1 hf2 hR1 hR2 hR1' hw2 c2 c3 c4
  unfold Lc.v rowV at x4 y4
  unfold rowV at H2
  go_upto_region 2 with fail
  have hw3 := H2.out.2.2.2.2.2
  unfold Lc.v rowV at hw3
  rw [← hw3]
  clear hw3 x2 x3 x4 x5
  go_wp2_with fail
  refine Calls.mono H2.out.1 ?_
  rintro r w3 ⟨⟨v, rfl⟩, hT3, hW3⟩
  have H3 : Hid (RowAt w3 (rl p).b (rl p).o d (fun z => L p z || (A p z && U z)) ∧ Wr (rl p).b (rl p).o d w2 w3) := ⟨hT3, hW3⟩
  clear hT3 hW3
  go_wp2_with fail
  go_end0
  have h2 := H2.out.2.1
  have hb1 := H2.out.2.2.1
  have hk2 : Kept (fun b => b = m.ga) w1 w2 := by rw [H2.out.2.2.2.2.2]; exact Kept.setCell _ _ _ _
  have hb2 : Below B w w2 := (hb1.mono hB).trans (hk2.below (Nat.le_trans hB hb1.size) fun b hb => by have := H0.out.above.ug; omega)
  refine ⟨⟨_, rfl⟩, ⟨upm ra p ⟨g2, 0, c2'⟩, ?_⟩, ⟨hb2.trans (H3.out.2.below (Nat.le_trans hB hb2.size) (H0.out.lost.ur p hp)), fun b o S hS hq => ?_, fun g cs t hc t1 t2 => ?_⟩⟩
  · refine (h2.join hp H3.out.2 H3.out.1).congr (fun x q _ _ => ?_) fun x q _ _ => ?_
    · unfold upm Sm.tkA
      by_cases e : x = p
      · subst e; rw [if_pos rfl, if_pos rfl]
      · rw [if_neg e, if_neg e]
    · unfold upm Sm.tkL
      by_cases e : x = p
      · subst e; rw [if_pos rfl, if_pos rfl]
      · rw [if_neg e, if_neg e]
  · have s1 := hS.below hb1
    have s2 : RowAt w2 b o d S := by rw [H2.out.2.2.2.2.2]; exact s1.lists H2.out.2.2.2.1 (by decide)
    exact s2.wr H3.out.2 (hq p hp)
  · have s1 := (hb1.block g (t_lt hc)).trans hc
    have s2 : w2.heap[g]? = some (.cells cs t (0, 0)) := (hk2.block g (t_lt s1) fun e => box_list_ne s1 H2.out.2.2.2.1 t2.symm e).trans s1
    exact (H3.out.2.kp.block g (t_lt s2) fun e => box_row_ne s2 (h2.lost.row p hp) t1 e).trans s2
end
section
open Go.RowKit Go.Maps
attribute [local go_sem ↓] Go.wp_at_zero Go.wp_at_succ
def TabW (w : World) : Prop := ∀ j, j < 64 → w.cell? ⟨10, j, none⟩ = some (.int .u8 (Lib.deBruijn64tab.getD j 0 : Nat))
theorem TabW.cells {w w' : World} (h : TabW w) (hc : ∀ j v, w.cell? ⟨10, j, none⟩ = some v → w'.cell? ⟨10, j, none⟩ = some v) : TabW w' := fun j hj => hc j _ (h j hj)
theorem TabW.below {w w' : World} {B : Nat} (h : TabW w) (hB : 10 < B) (hb : Below B w w') : TabW w' := h.cells fun _ _ hv => (hb.cell hB).trans hv
theorem TabW.lt {w : World} (h : TabW w) : 10 < w.heap.size := World.block_lt_of_cell? w _ (h 0 (by decide))
theorem tz_key (x a : Nat) (hx : x < 18446744073709551616) (hx0 : x ≠ 0) (hlow : x &&& (18446744073709551616 - x) = a) :
    IntKind.u64.wrap (bits BinOp.and IntKind.u64 (x : Int) (IntKind.u64.wrap (-(x : Int))) * 285870213051353865) / 288230376151711744 = ((a * 285870213051353865 % 18446744073709551616 / 288230376151711744 : Nat) : Int) := by
  have e1 : IntKind.u64.wrap (-(x : Int)) = ((18446744073709551616 - x : Nat) : Int) := by rw [IntKind.wrap_u64]; omega
  rw [e1, bits_and_u64_nat x _ hx (by omega), hlow, IntKind.wrap_u64]
  omega
set_option maxRecDepth 100000 in
set_option maxHeartbeats 1000000 in
theorem tz_core (x k idx : Nat) (w : World) (hx0 : ((x : Int) == 0) = false)
    (key : IntKind.u64.wrap (bits BinOp.and IntKind.u64 (x : Int) (IntKind.u64.wrap (-(x : Int))) * 285870213051353865) / 288230376151711744 = (idx : Int))
    (hi : idx < 64) (hk : k < 64) (hcell : w.cell? ⟨10, idx, none⟩ = some (.int .u8 k)) :
    Calls Tryz.prog 88 #[.int .u64 x] w fun r w' => r = .returned (.int .i64 k) ∧ w' = w := by
  go_enter Tryz.func88, Tryz.ntmps88
  go_wp2_with (simp only [key])
  go_ret
  exact ⟨rfl, rfl⟩
theorem tz_any (x : Nat) (hx0 : x ≠ 0) (hx : x < 18446744073709551616) (w : World) (hT : TabW w) : Calls Tryz.prog 88 #[.int .u64 x] w fun r w' => r = .returned (.int .i64 (Lib.ctz 64 x : Nat)) ∧ w' = w := by
  obtain ⟨hlow, hk⟩ := Lib.lowest_bit 64 x hx0 hx
  obtain ⟨hi, htab⟩ := Lib.deBruijn64_at _ hk
  have hcell := hT _ hi
  rw [htab] at hcell
  exact tz_core x _ _ w (by simp; omega) (tz_key x _ hx hx0 hlow) hi hk hcell
end
section
open Go.RowKit
def Tells {α : Type} (F : Fence) (n : Nat) (P : Program) (g : Nat) (lb : Array Value) (encs : α → Array Value) (Kp : World → World → Prop) (Good : List α → α → World → Prop) (S Sp : List α → Prop) (w : World) : Prop :=
  ∀ (l : Nat) (J Jx : List α → World → Prop) (W : World), Below w.heap.size w W → AbidesFrom W.heap.size J → AbidesFrom W.heap.size Jx →
    (∀ pre x W1, J pre W1 → Good pre x W1 → YieldAt F (n - 1) P l (encs x) W1 fun e W' =>
      (e = .returned (.bool true) ∧ J (pre ++ [x]) W' ∧ Kp W1 W') ∨ (e = .returned (.bool false) ∧ Jx (pre ++ [x]) W')) →
    J [] W →
    CallsIn F n P g (#[.func (.yield l) #[] #[]] ++ lb) W fun e W' => (∃ v, e = .returned v) ∧ ((∃ xs, S xs ∧ J xs W') ∨ (∃ pre, Sp pre ∧ Jx pre W'))
section
variable {F : Fence} {n : Nat} {P : Program}
def rec5 (fn : FuncId) (a : Act) (ps : Array Tmp) (assign body : Code) (d : Nat) (st : LoopState) (pe : Option Code) : Loop := { state := st, pending := pe, fn, tmps := a.tmps, params := ps, assign, body, defers := d }
theorem loop_tells {α : Type} {g : Operand} {ps : Array Tmp} {assign body : Code} {Q : Exit → Act → World → Prop} {a : Act} {w : World}
    (hro : F.round = none) (h1 : 1 ≤ n) {gf : Nat} {lb : Array Value} (hg : a.eval g = .func (.func gf) #[] lb) (hFg : F.fn gf) (eg : ∀ args w, (callFunc gf args).run P w = .ok (.enter gf args) w)
    {encs : α → Array Value} {Kp : World → World → Prop} {Good : List α → α → World → Prop} {S Sp : List α → Prop} {w0 : World} (hseq : Tells F (n - 1) P gf lb encs Kp Good S Sp w0)
    (hKt : ∀ {A B C : World}, Kp A B → Kp B C → Kp A C) (hKb : ∀ (W : World) (l : Nat) (o o' : Obj), w.heap.size ≤ l → W.heap[l]? = some o → o.isCells = false → o.isWalk = false → Kp W (W.putObj l o'))
    (hGb : ∀ pre x (W : World) (l : Nat) (o o' : Obj), w.heap.size ≤ l → W.heap[l]? = some o → o.isCells = false → Good pre x W → Good pre x (W.putObj l o'))
    (hb0 : Below w0.heap.size w0 w) (hps : ∀ x, (encs x).size = ps.size)
    (I : List α → World → Prop) (Ix : Code → List α → World → Prop) (hI : OwnFrom w.heap.size I) (hIx : ∀ c, OwnFrom w.heap.size (Ix c)) (h0 : I [] w) (a₁ : α → Act)
    (hassign : ∀ (l : Nat) (x : α) (W : World) (K : Act → World → Prop), K (a₁ x) W →
      assign.wpIn (F.inRound l) (n - 1 - 1) P (Exit.then K (fun _ _ _ => False)) { tmps := (ps.zip (encs x)).foldl (fun t (p, v) => t.setIfInBounds p v) a.tmps, defers := [] } W)
    (hbody : ∀ (l : Nat) (pre : List α) (x : α) (W : World), I pre W → Good pre x W → body.wpIn (F.inRound l) (n - 1 - 1) P (ownPostG w.heap.size Kp I Ix (pre ++ [x]) W) (a₁ x) W)
    (hdone : ∀ (D : Nat) (xs : List α) (W : World), w.heap.size ≤ D → S xs → I xs W → W.heap[D]? = some (.deferred (some [])) → Q .normal { a with defers := { target := .collected D, args := #[] } :: a.defers } W)
    (hstop : ∀ (D : Nat) (c : Code) (pre : List α) (W : World), w.heap.size ≤ D → Sp pre → Ix c pre W → W.heap[D]? = some (.deferred (some [])) → c.wpIn F n P Q { a with defers := { target := .collected D, args := #[] } :: a.defers } W) :
    (Code.rangeFunc g ps assign body).wpIn F n P Q a w := by
  refine wpIn_rangeFunc fun fn hfn => ?_
  rw [hro]
  have eL : w.heap.size < w.heap.size + 1 := Nat.lt_succ_self _
  let R5 := rec5 fn a ps assign body w.heap.size
  obtain ⟨W1, hW1⟩ : ∃ W1, W1 = (w.alloc (.deferred (some []))).alloc (.loop (R5 .ready none)) := ⟨_, rfl⟩
  have hz : W1.heap.size = w.heap.size + 2 := by rw [hW1]; simp
  have hL1 : W1.heap[w.heap.size + 1]? = some (.loop (R5 .ready none)) := by
    have h := World.alloc_heap_new (w.alloc (.deferred (some []))) (.loop (R5 .ready none))
    rw [World.size_alloc] at h
    rw [hW1]
    exact h
  have hK1 : W1.heap[w.heap.size]? = some (.deferred (some [])) := by
    rw [hW1]
    exact (Below.heap_alloc _ _ _ (by simp)).trans (World.alloc_heap_new w _)
  have hI1 : I [] W1 := by rw [hW1]; exact hI.alloc _ (hI.alloc _ h0)
  have hb1 : Below w0.heap.size w0 W1 := by
    rw [hW1]
    exact hb0.trans ((((Below.refl _ w).alloc (Nat.le_refl _) _).alloc (by simp) _).mono hb0.size)
  refine ⟨w.heap.size + 1, [{ target := .collected w.heap.size, args := #[] }], W1, { target := .fn (.func gf) lb, args := #[.func (.yield (w.heap.size + 1)) #[] #[]] }, W1, gf, #[.func (.yield (w.heap.size + 1)) #[] #[]] ++ lb, W1, by rw [hW1]; exact run_enterLoop_outer _ _ _ _ _, by simp only [resolve, hg]; simp [go_sem], fun f' hf' => by simp [Target.leads] at hf'; subst hf'; exact hFg, by simp [invoke, go_sem, eg], fun _ => h1, ?_⟩
  have turn : ∀ {A : World} {row : Option Nat}, (∀ r, row = some r → W1.heap.size ≤ r ∧ ∃ o : Obj, A.heap[r]? = some o ∧ o.isWalk = true) → ∀ r, row = some r → w.heap.size ≤ r ∧ ∃ o : Obj, A.heap[r]? = some o ∧ o.isCells = false := fun hr r e => by
    obtain ⟨hB, o, ho, hw⟩ := hr r e
    exact ⟨by omega, o, ho, Obj.not_cells_of_walk hw⟩
  have hcall := hseq (w.heap.size + 1)
    (fun pre W => I pre W ∧ W.heap[w.heap.size + 1]? = some (.loop (R5 .ready none)) ∧ W.heap[w.heap.size]? = some (.deferred (some [])))
    (fun pre W => ∃ c, Ix c pre W ∧ W.heap[w.heap.size + 1]? = some (.loop (R5 .done (some c))) ∧ W.heap[w.heap.size]? = some (.deferred (some [])))
    W1 hb1
    (fun s A B row hs hg' hr => ⟨hI s A B row hs.1 hg' (turn hr), (grownBy_keeps hg' (fun r e => (hr r e).2) hs.2.1 rfl).trans hs.2.1, (grownBy_keeps hg' (fun r e => (hr r e).2) hs.2.2 rfl).trans hs.2.2⟩)
    (fun s A B row hs hg' hr => by
      obtain ⟨c, hc, hl, hk⟩ := hs
      exact ⟨c, hIx c s A B row hc hg' (turn hr), (grownBy_keeps hg' (fun r e => (hr r e).2) hl rfl).trans hl, (grownBy_keeps hg' (fun r e => (hr r e).2) hk rfl).trans hk⟩)
    ?_ ⟨hI1, hL1, hK1⟩
  · refine hcall.mono ?_
    rintro e W2 ⟨⟨v, rfl⟩, (⟨xs, hS, hi, hl, hk⟩ | ⟨pre, hSp, c, hi, hl, hk⟩)⟩
    · exact ⟨none, _, run_endLoop (P := P) hl (by simp [R5, rec5]), hdone _ xs _ (Nat.le_refl _) hS (hI.putObj _ hi (by omega) hl rfl) ((World.putObj_heap_other (by omega)).trans hk)⟩
    · exact ⟨some c, _, run_endLoop (P := P) hl (by simp [R5, rec5]), hstop _ c pre _ (Nat.le_refl _) hSp ((hIx c).putObj _ hi (by omega) hl rfl) ((World.putObj_heap_other (by omega)).trans hk)⟩
  · rintro pre x W ⟨hi, hl, hk⟩ hG
    have hlt : w.heap.size + 1 < W.heap.size := (Array.getElem?_eq_some_iff.1 hl).1
    refine ⟨fn, _, assign, body, run_yield (P := P) (args := encs x) hl (hps x), roundIn_of_wpIn hfn (hassign _ x W _ ⟨_, run_beginRound hl rfl, ?_⟩)⟩
    obtain ⟨V, hV⟩ : ∃ V, V = W.putObj (w.heap.size + 1) (.loop (R5 .busy none)) := ⟨_, rfl⟩
    show Code.wpIn _ _ _ _ _ _ (W.putObj (w.heap.size + 1) (.loop (R5 .busy none)))
    rw [← hV]
    have hl2 : V.heap[w.heap.size + 1]? = some (.loop (R5 .busy none)) := by rw [hV]; exact World.putObj_heap_same hlt
    have hk2 : V.heap[w.heap.size]? = some (.deferred (some [])) := by rw [hV]; exact (World.putObj_heap_other (by omega)).trans hk
    have hw2 : Kp W V := by rw [hV]; exact hKb _ _ _ _ (by omega) hl rfl rfl
    have hi2 : I pre V := by rw [hV]; exact hI.putObj _ hi (by omega) hl rfl
    have hG2 : Good pre x V := by rw [hV]; exact hGb _ _ _ _ _ _ (by omega) hl rfl hG
    have ends : ∀ (jump : Option Code) (W3 : World), KeepsFrom w.heap.size V W3 →
        (Instr.endRound (w.heap.size + 1) jump).run P W3 = .ok (.bool jump.isNone) (W3.putObj (w.heap.size + 1) (.loop (R5 (if jump.isNone then .ready else .done) jump))) ∧ W3.heap[w.heap.size + 1]? = some (.loop (R5 .busy none)) ∧
        (W3.putObj (w.heap.size + 1) (.loop (R5 (if jump.isNone then .ready else .done) jump))).heap[w.heap.size + 1]? = some (.loop (R5 (if jump.isNone then .ready else .done) jump)) ∧
        (W3.putObj (w.heap.size + 1) (.loop (R5 (if jump.isNone then .ready else .done) jump))).heap[w.heap.size]? = some (.deferred (some [])) := fun jump W3 hk3 => by
      have hl3 := hk3.same _ _ (by omega) hl2 rfl
      exact ⟨run_endRound (P := P) jump hl3, hl3, World.putObj_heap_same (Array.getElem?_eq_some_iff.1 hl3).1, (World.putObj_heap_other (by omega)).trans (hk3.same _ _ (Nat.le_refl _) hk2 rfl)⟩
    refine wpIn_mono (hbody _ pre x V hi2 hG2) ?_
    have left : ∀ (c : Code) (W3 : World), KeepsFrom w.heap.size V W3 → Ix c (pre ++ [x]) W3 → ∃ v W4, (Instr.endRound (w.heap.size + 1) (some c)).run P W3 = .ok v W4 ∧ ((Ending.returned v = .returned (.bool true) ∧ (I (pre ++ [x]) W4 ∧ W4.heap[w.heap.size + 1]? = some (.loop (R5 .ready none)) ∧ W4.heap[w.heap.size]? = some (.deferred (some []))) ∧ Kp W W4) ∨ (Ending.returned v = .returned (.bool false) ∧ ∃ c, Ix c (pre ++ [x]) W4 ∧ W4.heap[w.heap.size + 1]? = some (.loop (R5 .done (some c))) ∧ W4.heap[w.heap.size]? = some (.deferred (some [])))) := fun c W3 hk3 hx3 => by
      obtain ⟨hr, hl3, hl4, hk4⟩ := ends (some c) W3 hk3
      exact ⟨_, _, hr, .inr ⟨rfl, c, (hIx _).putObj _ hx3 (by omega) hl3 rfl, hl4, hk4⟩⟩
    rintro e a3 W3 hp
    cases e with
    | normal =>
      obtain ⟨hk3, hkp3, hi3⟩ := hp
      obtain ⟨hr, hl3, hl4, hk4⟩ := ends none W3 hk3
      exact ⟨_, _, hr, .inl ⟨rfl, ⟨hI.putObj _ hi3 (by omega) hl3 rfl, hl4, hk4⟩, hKt (hKt hw2 hkp3) (hKb _ _ _ _ (by omega) hl3 rfl rfl)⟩⟩
    | ret => exact left .ret W3 hp.1 hp.2
    | exit id => exact left (.exit id) W3 hp.1 hp.2
    | goto t => exact left (.goto t) W3 hp.1 hp.2
    | panic ch => exact hp.elim
    | outgrown => exact hp.elim
end
end
section
open Go.RowKit Go.Maps Go.Shelf
attribute [local go_sem] Oper.semAt_some
def allV (bx : Nat) : Value := .func (.func 87) #[] #[.pointer (some ⟨bx, 0, none⟩)]
set_option maxRecDepth 100000 in
set_option maxHeartbeats 1000000 in
theorem allRow_any (b o d c : Nat) (w : World) : Calls Tryz.prog 28 #[rowV b o d c] w fun r w' => r = .returned (allV w.heap.size) ∧ w' = w.alloc (.cells #[rowV b o d c] 75) := by
  unfold rowV allV
  go_enter Tryz.func28, Tryz.ntmps28
  go_wp2_with fail
  go_ret
  exact ⟨rfl, rfl⟩
def KpB (bx b : Nat) (W W' : World) : Prop := ∀ g, g = bx ∨ g = b ∨ g = 10 → ∀ j v, W.cell? ⟨g, j, none⟩ = some v → W'.cell? ⟨g, j, none⟩ = some v
theorem KpB.refl (bx b : Nat) (W : World) : KpB bx b W W := fun _ _ _ _ h => h
theorem KpB.trans {bx b : Nat} {A B C : World} (h : KpB bx b A B) (k : KpB bx b B C) : KpB bx b A C := fun g hg j v hv => k g hg j v (h g hg j v hv)
def GoodB (S : Nat → Bool) (N : Nat) (pre : List Nat) (x : Nat) (_ : World) : Prop := pre = Br.els S x ∧ x < N ∧ S x = true
set_option maxRecDepth 100000 in
set_option maxHeartbeats 4000000 in
theorem row_tells (n : Nat) (b o d c bx : Nat) (S : Nat → Bool) (w : World) (hd : d ≤ 10000) (hbx : w.cell? ⟨bx, 0, none⟩ = some (rowV b o d c)) (hR : RowAt w b o d S) (hT : TabW w) :
    Tells Fence.wide n Tryz.prog 87 #[.pointer (some ⟨bx, 0, none⟩)] (fun q : Nat => #[.int .i64 q]) (KpB bx b) (GoodB S (64 * d)) (fun xs => xs = Br.els S (64 * d)) (fun _ => True) w := by
  intro l J Jx W hW hJ hJx hY h0
  have c1 := (hW.cell (World.block_lt_of_cell? w _ hbx)).trans hbx
  have hRW := hR.below hW
  have hTW := hT.below hT.lt hW
  have HH : Hid _ := And.intro hJ (And.intro hJx (And.intro hY (And.intro h0 (And.intro hTW c1))))
  have HR : Hid (RowAt W b o d S) := hRW
  clear hW hJ hJx hY h0 hR hT hRW hTW hbx
  unfold rowV at c1
  refine callsIn_of_wp Tryz.func87 rfl trivial ?_ rfl
  simp only [Tryz.ntmps87, List.size_toArray, List.length_cons, List.length_nil, Nat.reduceAdd, Nat.reduceSub, Array.replicate_succ, Array.replicate_zero, List.push_toArray, List.append_toArray, List.nil_append, List.cons_append]
  gi_wp2
  clear c1
  gi_loopw [7] (fun iv wr => ∃ i : Nat, iv = .int .i64 i ∧ i ≤ d ∧ J (Br.els S (64 * i)) wr ∧ KpB bx b W wr) (fun iv _ => d - (intOf iv).toNat)
  case atStart => exact ⟨0, rfl, Nat.zero_le _, HH.out.2.2.2.1, KpB.refl _ _ _⟩
  case round =>
    obtain ⟨i, rfl, hi, hJi, hK⟩ := hrel
    obtain ⟨wo, rfl⟩ : ∃ wo, wo = wr := ⟨_, rfl⟩
    by_cases hlt : i < d
    · have c0 := hK b (.inr (.inl rfl)) _ _ (HR.out.cell hlt)
      have h0 : (0 : Int) ≤ (i : Int) := by omega
      have h1 : (i : Int) < (d : Int) := by omega
      have HI : Hid (J (Br.els S (64 * i)) wo ∧ KpB bx b W wo) := ⟨hJi, hK⟩
      clear hJi hK
      gi_wp2
      gi_loopw [4] (fun wv wr => ∃ k : Nat, wv = .int .u64 (Br.wd (Br.frm S k) i : Nat) ∧ 64 * i ≤ k ∧ k ≤ 64 * (i + 1) ∧ J (Br.els S k) wr ∧ KpB bx b W wr) (fun wv _ => (intOf wv).toNat)
      case atStart =>
        refine ⟨64 * i, ?_, Nat.le_refl _, by omega, HI.out.1, HI.out.2⟩
        rw [Br.wd_congr (S := Br.frm S (64 * i)) (T := S)]
        intro q hq
        unfold Br.frm
        have : decide (64 * i ≤ q) = true := by simp; omega
        rw [this, Bool.and_true]
      case round =>
        obtain ⟨k, rfl, hk1, hk2, hJk, hKk⟩ := hrel
        obtain ⟨wi, rfl⟩ : ∃ wi, wi = wr := ⟨_, rfl⟩
        have HK : Hid (J (Br.els S k) wi ∧ KpB bx b W wi ∧ 64 * i ≤ k ∧ k ≤ 64 * (i + 1)) := ⟨hJk, hKk, hk1, hk2⟩
        have hwl := Br.wd_lt (Br.frm S k) i
        obtain ⟨x, hx⟩ : ∃ x, x = Br.wd (Br.frm S k) i := ⟨_, rfl⟩
        rw [← hx] at hwl ⊢
        have HX : Hid (x = Br.wd (Br.frm S k) i) := hx
        clear hJk hKk hk1 hk2 hx c0
        by_cases hz : x = 0
        · subst hz
          gi_wp2
          go_roundw
          case rel =>
            refine ⟨i + 1, by go_num, by omega, ?_, HK.out.2.1⟩
            have h2 := (Br.wd_zero _ _).1 HX.out.symm
            rw [Br.els_skip HK.out.2.2.2 fun z hz1 hz2 => ?_]
            · exact HK.out.1
            · have h3 := h2 z (by have := HK.out.2.2.1; omega)
              unfold Br.frm at h3
              simpa [hz1] using h3
          case measure => simp [intOf]; omega
        · have e1 : ((x : Int) != 0) = true := by rw [u64_ne0]; simp [hz]
          have h2 := Br.wd_low (S := S) (i := i) (k := k) (by rw [← HX.out]; exact hz)
          rw [← HX.out] at h2
          obtain ⟨q, hq1, hq2, hq3, hq4, hq5, hq6⟩ := h2
          have hTZ := tz_any x hz hwl wi (HH.out.2.2.2.2.1.cells fun j v hv => HK.out.2.1 _ (.inr (.inr rfl)) j v hv)
          have r1 : IntKind.i64.wrap ((i : Int) * 64 + (Lib.ctz 64 x : Nat)) = (q : Int) := by rw [IntKind.wrap_i64]; omega
          have r2 : (i : Int) * 64 + (Lib.ctz 64 x : Nat) = (q : Int) := by omega
          have hband : bits .and .u64 (x : Int) ((x : Int) - 1) = ((Br.wd (Br.frm S (q + 1)) i : Nat) : Int) := by
            rw [show (x : Int) - 1 = ((x - 1 : Nat) : Int) by omega, bits_and_u64_nat _ _ hwl (by omega), hq6]
          have hqd : q < 64 * d := by omega
          have hmeas : Br.wd (Br.frm S (q + 1)) i < x := by
            rw [← hq6]
            exact Nat.lt_of_le_of_lt Nat.and_le_right (by omega)
          have HQ : Hid (64 * i ≤ q + 1 ∧ q + 1 ≤ 64 * (i + 1) ∧ k ≤ q ∧ S q = true ∧ Br.els S k = Br.els S q ∧ Br.els S (q + 1) = Br.els S k ++ [q]) := by
            have hno : ∀ z, k ≤ z → z < q → S z = false := fun z h3 h4 => hq5 z (by have := HK.out.2.2.1; omega) h3 h4
            exact ⟨by omega, by omega, hq3, hq4, (Br.els_skip hq3 hno).symm, Br.els_next hq3 hno hq4⟩
          obtain ⟨fn, tmps, assign, body, hy, hRd⟩ := HH.out.2.2.1 (Br.els S k) q wi HK.out.1 ⟨HQ.out.2.2.2.2.1, hqd, HQ.out.2.2.2.1⟩
          have HTZ : Hid _ := hTZ
          have HB : Hid _ := And.intro hband hmeas
          clear hTZ hq1 hq2 hq3 hq4 hq5 hq6 hband hmeas
          gi_wp2_with (simp only [e1])
          refine ⟨trivial, fun h => (by cases h), (callsIn_wide.2 HTZ.out).mono ?_⟩
          rintro e W2 ⟨rfl, hw2⟩
          obtain rfl := hw2.symm
          clear hw2
          gi_wp2
          refine ⟨fun h => (by cases h), hRd.mono ?_⟩
          rintro e W3 (⟨rfl, hJ3, hk3⟩ | ⟨rfl, hJx3⟩)
          · have H3 : Hid (J (Br.els S k ++ [q]) W3 ∧ KpB bx b wi W3) := ⟨hJ3, hk3⟩
            clear hJ3 hk3 hRd hy HTZ
            gi_wp2
            go_roundw
            case rel =>
              exact ⟨q + 1, by rw [HB.out.1], HQ.out.1, HQ.out.2.1, by rw [HQ.out.2.2.2.2.2]; exact H3.out.1, HK.out.2.1.trans H3.out.2⟩
            case measure =>
              rw [HB.out.1]
              have := HB.out.2
              simp [intOf]; omega
          · have H3 : Hid (Jx (Br.els S k ++ [q]) W3) := hJx3
            clear hJx3 hRd hy HTZ
            gi_wp2
            refine bodyPost_ret (results_none rfl _ _ _) rfl ?_
            exact ⟨⟨_, rfl⟩, .inr ⟨_, trivial, H3.out⟩⟩
    · obtain rfl : i = d := by omega
      have h1 : ¬ (i : Int) < (i : Int) := by omega
      have HI : Hid (J (Br.els S (64 * i)) wo) := hJi
      clear hJi hK
      gi_wp2
      go_end0
      exact ⟨⟨_, rfl⟩, .inl HI.out⟩
end
section
def Sy.steps (es : List Sy.Ed) (i : Int) : List (Int × Int) := (es.filter fun e => e.1 == i).map fun e => (e.2.1, e.2.2)
theorem Sy.steps_snoc (es : List Sy.Ed) (e : Sy.Ed) (i : Int) : Sy.steps (es ++ [e]) i = if e.1 = i then Sy.steps es i ++ [(e.2.1, e.2.2)] else Sy.steps es i := by
  unfold Sy.steps
  rw [List.filter_append, List.map_append]
  by_cases h : e.1 = i <;> simp [h]
theorem Sy.steps_len (es : List Sy.Ed) (i : Int) : (Sy.steps es i).length ≤ es.length := by
  unfold Sy.steps
  rw [List.length_map]
  exact List.length_filter_le _ _
end
namespace Sy
def cnt (l : List Ed) (r : Int) : Nat := (l.filter fun e => decide (e.1 < r)).length
def Rows (l : List Ed) : Prop := l.Pairwise fun a b => a.1 ≤ b.1
theorem cnt_le (l : List Ed) (r : Int) : cnt l r ≤ l.length := List.length_filter_le _ _
theorem cnt_all {l : List Ed} {r : Int} (h : ∀ e ∈ l, e.1 < r) : cnt l r = l.length := by
  unfold cnt
  rw [List.filter_eq_self.2 fun e he => by simpa using h e he]
theorem cnt_none {l : List Ed} {r : Int} (h : ∀ e ∈ l, ¬ e.1 < r) : cnt l r = 0 := by
  unfold cnt
  rw [List.filter_eq_nil_iff.2 fun e he => by simpa using h e he]
  rfl
theorem cnt_cons (e : Ed) (l : List Ed) (r : Int) : cnt (e :: l) r = (if e.1 < r then 1 else 0) + cnt l r := by
  unfold cnt
  rw [List.filter_cons]
  by_cases h : e.1 < r
  · simp [h]; omega
  · simp [h]
theorem cnt_snoc (l : List Ed) (e : Ed) (r : Int) : cnt (l ++ [e]) r = cnt l r + if e.1 < r then 1 else 0 := by
  unfold cnt
  rw [List.filter_append, List.length_append]
  by_cases h : e.1 < r <;> simp [h]
theorem cnt_mono (l : List Ed) (r : Int) : cnt l r ≤ cnt l (r + 1) := by
  induction l with
  | nil => simp [cnt]
  | cons e t ih =>
    rw [cnt_cons, cnt_cons]
    by_cases h : e.1 < r
    · have h2 : e.1 < r + 1 := by omega
      simp [h, h2]; exact ih
    · by_cases h2 : e.1 < r + 1 <;> simp [h, h2] <;> omega
theorem row_piece {l : List Ed} (h : Rows l) (i : Int) : l.filter (fun e => e.1 == i) = (l.drop (cnt l i)).take (cnt l (i + 1) - cnt l i) := by
  induction l with
  | nil => simp
  | cons e r ih =>
    obtain ⟨h1, h2⟩ := List.pairwise_cons.1 h
    have ih := ih h2
    rw [cnt_cons, cnt_cons]
    by_cases c1 : e.1 < i
    · have c2 : e.1 < i + 1 := by omega
      have c3 : (e.1 == i) = false := by simp; omega
      rw [List.filter_cons, c3, if_pos c1, if_pos c2, Nat.add_comm 1 (cnt r i), List.drop_succ_cons]
      have e1 : 1 + cnt r (i + 1) - (cnt r i + 1) = cnt r (i + 1) - cnt r i := by omega
      rw [e1]
      simpa using ih
    · have hz : cnt r i = 0 := cnt_none fun x hx => by have := h1 x hx; omega
      by_cases c2 : e.1 = i
      · have c3 : (e.1 == i) = true := by simp [c2]
        have c4 : e.1 < i + 1 := by omega
        rw [List.filter_cons, c3, if_neg c1, if_pos c4, hz]
        rw [hz] at ih
        simp only [List.drop_zero, Nat.sub_zero, if_true] at ih ⊢
        rw [ih, Nat.add_comm 1]
        simp
      · have c3 : (e.1 == i) = false := by simpa using c2
        have c4 : ¬ e.1 < i + 1 := by omega
        have hz2 : cnt r (i + 1) = 0 := cnt_none fun x hx => by have := h1 x hx; omega
        rw [List.filter_cons, c3, if_neg c1, if_neg c4, hz, hz2]
        rw [hz, hz2] at ih
        simpa using ih
def lastOf (l : List Ed) (r : Int) : Nat := (l.foldl (fun (p : Nat × Nat) e => (p.1 + 1, if e.1 = r then p.1 + 1 else p.2)) (0, 0)).2
theorem last_fst (r : Int) (l : List Ed) : ∀ p : Nat × Nat, (l.foldl (fun (p : Nat × Nat) (e : Ed) => (p.1 + 1, if e.1 = r then p.1 + 1 else p.2)) p).1 = p.1 + l.length := by
  induction l with
  | nil => intro p; rfl
  | cons e t ih => intro p; rw [List.foldl_cons, ih]; simp; omega
theorem last_snoc (l : List Ed) (e : Ed) (r : Int) : lastOf (l ++ [e]) r = if e.1 = r then l.length + 1 else lastOf l r := by
  unfold lastOf
  rw [List.foldl_append]
  simp only [List.foldl_cons, List.foldl_nil, last_fst, Nat.zero_add]
theorem last_none {l : List Ed} {r : Int} (h : ∀ e ∈ l, e.1 ≠ r) : ∀ i, i ≤ l.length → lastOf (l.take i) r = 0 := by
  intro i
  induction i with
  | zero => intro _; rfl
  | succ i ih =>
    intro hi
    obtain ⟨x, hx⟩ : ∃ x, l[i]? = some x := ⟨l[i], List.getElem?_eq_getElem _⟩
    rw [take_succ_of hx, last_snoc, if_neg (h x (List.mem_of_getElem? hx))]
    exact ih (by omega)
theorem rows_take {l : List Ed} (h : Rows l) {i : Nat} {x : Ed} (hx : l[i]? = some x) : ∀ e ∈ l.take i, e.1 ≤ x.1 := fun e he => by
  obtain ⟨j, hj, rfl⟩ := List.mem_take_iff_getElem.1 he
  obtain ⟨hi, rfl⟩ := List.getElem?_eq_some_iff.1 hx
  exact List.pairwise_iff_getElem.1 h j i (by omega) hi (by omega)
theorem cnt_last {l : List Ed} (h : Rows l) (r : Int) : ∀ i, i ≤ l.length → cnt (l.take i) (r + 1) = max (lastOf (l.take i) r) (cnt (l.take i) r) := by
  intro i
  induction i with
  | zero => intro _; simp [cnt, lastOf]
  | succ i ih =>
    intro hi
    obtain ⟨x, hx⟩ : ∃ x, l[i]? = some x := ⟨l[i], List.getElem?_eq_getElem _⟩
    have hle := rows_take h hx
    have hlen : (l.take i).length = i := by rw [List.length_take]; omega
    rw [take_succ_of hx, cnt_snoc, cnt_snoc, last_snoc, hlen]
    by_cases c1 : x.1 = r
    · have e1 : cnt (l.take i) (r + 1) = i := by rw [cnt_all fun e he => by have := hle e he; omega]; exact hlen
      have e2 := cnt_le (l.take i) r
      rw [hlen] at e2
      rw [e1, if_pos (by omega), if_pos c1, if_neg (by omega)]
      omega
    · by_cases c2 : x.1 < r
      · have e1 : cnt (l.take i) (r + 1) = i := by rw [cnt_all fun e he => by have := hle e he; omega]; exact hlen
        have e2 : cnt (l.take i) r = i := by rw [cnt_all fun e he => by have := hle e he; omega]; exact hlen
        have e3 := last_none (l := l.take i) (r := r) (fun e he => by have := hle e he; omega) i (by rw [hlen]; exact Nat.le_refl _)
        rw [List.take_take, Nat.min_self] at e3
        rw [e1, e2, e3, if_pos (by omega), if_neg c1, if_pos c2]
        omega
      · rw [if_neg (by omega), if_neg c1, if_neg c2]
        exact ih (by omega)
def mixL (n : Nat) (l : List Ed) (st : Nat) : List Int := (List.range (n + 1)).map fun (r : Nat) => if r ≤ st then ((cnt l (r : Int) : Nat) : Int) else ((lastOf l ((r : Int) - 1) : Nat) : Int)
def bndL (n : Nat) (l : List Ed) : List Int := (List.range (n + 1)).map fun (r : Nat) => if r = 0 then 0 else ((lastOf l ((r : Int) - 1) : Nat) : Int)
def bounds (n : Nat) (l : List Ed) : List Int := (List.range (n + 1)).map fun (r : Nat) => ((cnt l (r : Int) : Nat) : Int)
theorem bnd_zero (n : Nat) : bndL n [] = List.replicate (n + 1) 0 := by
  unfold bndL
  rw [List.eq_replicate_iff]
  refine ⟨by simp, fun b hb => ?_⟩
  obtain ⟨r, _, rfl⟩ := List.mem_map.1 hb
  split <;> simp [lastOf]
theorem bnd_step {l : List Ed} {n i : Nat} {x : Ed} (hx : l[i]? = some x) {q : Nat} (hq : x.1 = (q : Int)) : (bndL n (l.take i)).set (q + 1) ((i : Int) + 1) = bndL n (l.take (i + 1)) := by
  have hlen : (l.take i).length = i := by rw [List.length_take]; have := (List.getElem?_eq_some_iff.1 hx).1; omega
  apply List.ext_getElem?
  intro r
  rw [List.getElem?_set]
  unfold bndL
  simp only [List.length_map, List.length_range, List.getElem?_map]
  by_cases hr : r < n + 1
  · rw [List.getElem?_range hr, take_succ_of hx]
    simp only [Option.map_some, last_snoc, hlen, hq]
    by_cases e : q + 1 = r
    · subst e
      rw [if_pos rfl, if_pos hr, if_neg (by omega), if_pos (by omega)]
      rfl
    · rw [if_neg e]
      by_cases e0 : r = 0
      · rw [if_pos e0, if_pos e0]
      · rw [if_neg e0, if_neg e0, if_neg (by omega)]
  · rw [List.getElem?_eq_none (by simp; omega)]
    by_cases e : q + 1 = r
    · rw [if_pos e, if_neg (by omega)]; rfl
    · rw [if_neg e]; rfl
theorem mix_zero {n : Nat} {l : List Ed} (h : ∀ e ∈ l, 0 ≤ e.1) : mixL n l 0 = bndL n l := by
  unfold mixL bndL
  apply List.map_congr_left
  intro r _
  by_cases e : r = 0
  · subst e
    simp only [Nat.le_refl, if_true]
    rw [cnt_none fun x hx => by have := h x hx; omega]
    rfl
  · rw [if_neg (by omega), if_neg e]
theorem mix_full (n : Nat) (l : List Ed) : mixL n l n = bounds n l := by
  unfold mixL bounds
  apply List.map_congr_left
  intro r hr
  have := List.mem_range.1 hr
  rw [if_pos (by omega)]
theorem mix_at {n st r : Nat} {l : List Ed} (hr : r ≤ n) : (mixL n l st)[r]? = some (if r ≤ st then ((cnt l (r : Int) : Nat) : Int) else ((lastOf l ((r : Int) - 1) : Nat) : Int)) := by
  unfold mixL
  rw [List.getElem?_map, List.getElem?_range (by omega)]
  rfl
theorem bounds_at {n r : Nat} {l : List Ed} (hr : r ≤ n) : (bounds n l)[r]? = some ((cnt l (r : Int) : Nat) : Int) := by
  unfold bounds
  rw [List.getElem?_map, List.getElem?_range (by omega)]
  rfl
theorem mix_step {n st : Nat} {l : List Ed} (h : Rows l) : (mixL n l st).set (st + 1) (((max (lastOf l (st : Int)) (cnt l (st : Int)) : Nat)) : Int) = mixL n l (st + 1) := by
  have hc := cnt_last h (st : Int) l.length (Nat.le_refl _)
  rw [List.take_length] at hc
  apply List.ext_getElem?
  intro r
  rw [List.getElem?_set]
  unfold mixL
  simp only [List.length_map, List.length_range, List.getElem?_map]
  by_cases hr : r < n + 1
  · rw [List.getElem?_range hr]
    simp only [Option.map_some]
    by_cases e : st + 1 = r
    · subst e
      rw [if_pos rfl, if_pos hr, if_pos (Nat.le_refl _), ← hc]
      rfl
    · rw [if_neg e]
      by_cases e2 : r ≤ st
      · rw [if_pos e2, if_pos (by omega)]
      · rw [if_neg e2, if_neg (by omega)]
  · rw [List.getElem?_eq_none (by simp; omega)]
    by_cases e : st + 1 = r
    · rw [if_pos e, if_neg (by omega)]; rfl
    · rw [if_neg e]; rfl
end Sy
section
open Go.RowKit
theorem run_append_keep {P : Program} (w : World) (base : Nat) (t ty e : TypeId) (i : TypeInfo) (z : Value) (size bytes : Nat) (ht : P.underlying t = some (.slice e)) (hi : P.info? e = some i) (hz : i.zero = some z)
    (hsize : i.size = size) (hby : i.bytes = bytes) (hzs : z.cells.size = size) (hsz : 0 < size) (v : Value) (n : Nat) (xs : List Value) (hown : w.ownsRow base e size v n xs)
    (a : Addr) (m c : Nat) (news : List Value) (hl : news.length = m * size) (hnews : ∀ j u, news[j]? = some u → w.cell? (a.add j) = some u) (h1 : ∀ u ∈ news, u.oneCell' = true)
    (h63 : n + m ≤ maxLen) (hbytes : (n + m) * bytes ≤ 140737488355328) (hbase : base ≤ w.heap.size) :
    ∃ v' w', (Builtin.append_ #[t, t] ty #[v, .slice (some a) m c]).run P w = .ok v' w' ∧ w'.ownsRow base e size v' (n + m) (xs ++ news) ∧
      ((v'.ownBlock = v.ownBlock ∧ w.grownBy w' v.ownBlock) ∨ ((∀ k, v'.ownBlock = some k → w.heap.size ≤ k) ∧ w.grownBy w' none)) := by
  obtain ⟨v1, w1, hr1, h2, h3, _, h5⟩ := run_append_own_at (P := P) w base t ty e i z size bytes ht hi hz hsize hby hzs hsz v n xs hown a m c news hl hnews h1 h63 hbytes hbase
  rcases _root_.id hown.2 with ⟨rfl, _⟩ | ⟨g, cap, cur, rfl, hg, hb, hc, hm, hs, htk⟩
  · refine ⟨v1, w1, hr1, h2, .inr ⟨fun k hk => ?_, h3⟩⟩
    rcases h5 with e | e
    · rw [e] at hk; cases hk
    · rw [e] at hk; have := Option.some.inj hk; omega
  · by_cases hroom : n + m ≤ cap
    · subst hsize
      have hr2 := run_append_room (P := P) w t ty e i ht hi g n cap cur hb a m c news hl hnews h1 hroom (by rw [hs, hl, ← Nat.add_mul]; exact Nat.mul_le_mul_right _ hroom)
      rw [hr1] at hr2
      injection hr2 with e1 e2
      exact ⟨v1, w1, hr1, h2, .inl ⟨by rw [e1]; rfl, h3⟩⟩
    · have hcells : ∀ j u, xs[j]? = some u → w.cell? ((⟨g, 0, none⟩ : Addr).add j) = some u := fun j u hj => by
        have hlt := (List.getElem?_eq_some_iff.1 hj).1
        rw [addz, World.ownsRow.cellAt hown j (by rw [← hown.1]; exact hlt), hj]
      obtain ⟨v2, w2, hr2, h6, h7⟩ := run_append_arg_grows (P := P) w t ty e i z size bytes ht hi hz hsize hby hzs hsz ⟨g, 0, none⟩ n cap xs hown.1 hcells a m c news hl hnews (by omega) h63 hbytes
      exact ⟨v2, w2, hr2, row_base h6 hbase, .inr ⟨fun k hk => (World.ownsRow.lt h6 k hk).1, h7⟩⟩
theorem wpList_append_keep {P : Program} (w : World) {ops : Array Oper} {rest : List Oper} {o : Oper} {a : Act} {Q : Exit → Act → World → Prop} (hgd : o.guard = none) (s x : Operand) (t : TypeId)
    (ho : o.op = .call { callee := .builtin .append, args := #[s, x], argTypes := #[t, t] })
    (base : Nat) (e : TypeId) (i : TypeInfo) (z : Value) (size bytes : Nat) (ht : P.underlying t = some (.slice e)) (hi : P.info? e = some i) (hz : i.zero = some z)
    (hsize : i.size = size) (hby : i.bytes = bytes) (hzs : z.cells.size = size) (hsz : 0 < size) (v : Value) (n : Nat) (xs : List Value) (hs : a.eval s = v) (hown : w.ownsRow base e size v n xs)
    (ad : Addr) (m c : Nat) (news : List Value) (hx : a.eval x = .slice (some ad) m c) (hl : news.length = m * size) (hnews : ∀ j u, news[j]? = some u → w.cell? (ad.add j) = some u) (h1 : ∀ u ∈ news, u.oneCell' = true)
    (h63 : n + m ≤ maxLen) (hbytes : (n + m) * bytes ≤ 140737488355328) (hbase : base ≤ w.heap.size)
    (h : ∀ v' w', w'.ownsRow base e size v' (n + m) (xs ++ news) → ((v'.ownBlock = v.ownBlock ∧ w.grownBy w' v.ownBlock) ∨ ((∀ k, v'.ownBlock = some k → w.heap.size ≤ k) ∧ w.grownBy w' none)) → wpList P ops Q rest (a.put o.dst v') w') :
    wpList P ops Q (o :: rest) a w := by
  refine wpList_plain hgd fun K hK => ?_
  obtain ⟨v', w', hr, h2, h3⟩ := run_append_keep (P := P) w base t o.type e i z size bytes ht hi hz hsize hby hzs hsz v n xs hown ad m c news hl hnews h1 h63 hbytes hbase
  unfold Oper.wp execOp
  simp only [ho, resolve, invoke, builtin, Sem.run_bind, Sem.run_pure, Result.andThen_ok, List.map_toArray, List.map_cons, List.map_nil, hs, hx, hr]
  exact hK _ _ (h v' w' h2 h3)
end
section
open Go.RowKit
set_option maxRecDepth 100000 in
theorem stillTokens_nil (bk : Nat) (w : World) (hc : w.cell? ⟨bk, 2, none⟩ = some (.slice none 0 0)) : Calls Tryz.prog 37 #[.pointer (some ⟨bk, 0, none⟩)] w fun r w' => r = .returned (.bool true) ∧ w' = w := by
  go_enter Tryz.func37, Tryz.ntmps37
  go_wp2
  refine wp_loop_rounds 1 ?_
  rw [rounds_succ]
  go_wp2
  go_ret
  exact ⟨rfl, rfl⟩
set_option maxRecDepth 100000 in
theorem putTokens_nil (bk : Nat) (w : World) (hc : w.cell? ⟨bk, 2, none⟩ = some (.slice none 0 0)) : Calls Tryz.prog 48 #[.pointer (some ⟨bk, 0, none⟩)] w fun r w' => r = .returned (.tuple #[]) ∧ w' = w := by
  go_enter Tryz.func48, Tryz.ntmps48
  go_wp2
  refine wp_loop_rounds 1 ?_
  rw [rounds_succ]
  go_wp2
  go_end0
  exact ⟨rfl, rfl⟩
set_option maxRecDepth 100000 in
theorem growTokens_nil (bk : Nat) (w : World) (hc : w.cell? ⟨bk, 2, none⟩ = some (.slice none 0 0)) : Calls Tryz.prog 59 #[.pointer (some ⟨bk, 0, none⟩)] w fun r w' => r = .returned (.slice none 0 0) ∧ w' = w := by
  go_enter Tryz.func59, Tryz.ntmps59
  go_wp2
  refine wp_loop_rounds 1 ?_
  rw [rounds_succ]
  go_wp2
  go_ret
  exact ⟨rfl, rfl⟩
set_option maxRecDepth 100000 in
theorem markedTokens_nil (w : World) : Calls Tryz.prog 70 #[.slice none 0 0] w fun r w' => r = .returned (.bool true) ∧ w' = w := by
  go_enter Tryz.func70, Tryz.ntmps70
  go_wp2
  refine wp_loop_rounds 1 ?_
  rw [rounds_succ]
  go_wp2
  go_ret
  exact ⟨rfl, rfl⟩
set_option maxRecDepth 100000 in
theorem stillTexts_nil (bk : Nat) (w : World) (hc : w.cell? ⟨bk, 4, none⟩ = some (.slice none 0 0)) : Calls Tryz.prog 38 #[.pointer (some ⟨bk, 0, none⟩)] w fun r w' => r = .returned (.bool true) ∧ w' = w := by
  go_enter Tryz.func38, Tryz.ntmps38
  go_wp2
  refine wp_loop_rounds 1 ?_
  rw [rounds_succ]
  go_wp2
  go_ret
  exact ⟨rfl, rfl⟩
set_option maxRecDepth 100000 in
theorem putTexts_nil (bk : Nat) (w : World) (hc : w.cell? ⟨bk, 4, none⟩ = some (.slice none 0 0)) : Calls Tryz.prog 49 #[.pointer (some ⟨bk, 0, none⟩)] w fun r w' => r = .returned (.tuple #[]) ∧ w' = w := by
  go_enter Tryz.func49, Tryz.ntmps49
  go_wp2
  refine wp_loop_rounds 1 ?_
  rw [rounds_succ]
  go_wp2
  go_end0
  exact ⟨rfl, rfl⟩
set_option maxRecDepth 100000 in
theorem growTexts_nil (bk : Nat) (w : World) (hc : w.cell? ⟨bk, 4, none⟩ = some (.slice none 0 0)) : Calls Tryz.prog 60 #[.pointer (some ⟨bk, 0, none⟩)] w fun r w' => r = .returned (.slice none 0 0) ∧ w' = w := by
  go_enter Tryz.func60, Tryz.ntmps60
  go_wp2
  refine wp_loop_rounds 1 ?_
  rw [rounds_succ]
  go_wp2
  go_ret
  exact ⟨rfl, rfl⟩
set_option maxRecDepth 100000 in
theorem markedTexts_nil (w : World) : Calls Tryz.prog 71 #[.slice none 0 0] w fun r w' => r = .returned (.bool true) ∧ w' = w := by
  go_enter Tryz.func71, Tryz.ntmps71
  go_wp2
  refine wp_loop_rounds 1 ?_
  rw [rounds_succ]
  go_wp2
  go_ret
  exact ⟨rfl, rfl⟩
set_option maxRecDepth 100000 in
theorem stillBools_nil (bk : Nat) (w : World) (hc : w.cell? ⟨bk, 6, none⟩ = some (.slice none 0 0)) : Calls Tryz.prog 39 #[.pointer (some ⟨bk, 0, none⟩)] w fun r w' => r = .returned (.bool true) ∧ w' = w := by
  go_enter Tryz.func39, Tryz.ntmps39
  go_wp2
  refine wp_loop_rounds 1 ?_
  rw [rounds_succ]
  go_wp2
  go_ret
  exact ⟨rfl, rfl⟩
set_option maxRecDepth 100000 in
theorem putBools_nil (bk : Nat) (w : World) (hc : w.cell? ⟨bk, 6, none⟩ = some (.slice none 0 0)) : Calls Tryz.prog 50 #[.pointer (some ⟨bk, 0, none⟩)] w fun r w' => r = .returned (.tuple #[]) ∧ w' = w := by
  go_enter Tryz.func50, Tryz.ntmps50
  go_wp2
  refine wp_loop_rounds 1 ?_
  rw [rounds_succ]
  go_wp2
  go_end0
  exact ⟨rfl, rfl⟩
set_option maxRecDepth 100000 in
theorem growBools_nil (bk : Nat) (w : World) (hc : w.cell? ⟨bk, 6, none⟩ = some (.slice none 0 0)) : Calls Tryz.prog 61 #[.pointer (some ⟨bk, 0, none⟩)] w fun r w' => r = .returned (.slice none 0 0) ∧ w' = w := by
  go_enter Tryz.func61, Tryz.ntmps61
  go_wp2
  refine wp_loop_rounds 1 ?_
  rw [rounds_succ]
  go_wp2
  go_ret
  exact ⟨rfl, rfl⟩
set_option maxRecDepth 100000 in
theorem markedBools_nil (w : World) : Calls Tryz.prog 72 #[.slice none 0 0] w fun r w' => r = .returned (.bool true) ∧ w' = w := by
  go_enter Tryz.func72, Tryz.ntmps72
  go_wp2
  refine wp_loop_rounds 1 ?_
  rw [rounds_succ]
  go_wp2
  go_ret
  exact ⟨rfl, rfl⟩
set_option maxRecDepth 100000 in
theorem stillSteps_nil (bk : Nat) (w : World) (hc : w.cell? ⟨bk, 8, none⟩ = some (.slice none 0 0)) : Calls Tryz.prog 40 #[.pointer (some ⟨bk, 0, none⟩)] w fun r w' => r = .returned (.bool true) ∧ w' = w := by
  go_enter Tryz.func40, Tryz.ntmps40
  go_wp2
  refine wp_loop_rounds 1 ?_
  rw [rounds_succ]
  go_wp2
  go_ret
  exact ⟨rfl, rfl⟩
set_option maxRecDepth 100000 in
theorem putSteps_nil (bk : Nat) (w : World) (hc : w.cell? ⟨bk, 8, none⟩ = some (.slice none 0 0)) : Calls Tryz.prog 51 #[.pointer (some ⟨bk, 0, none⟩)] w fun r w' => r = .returned (.tuple #[]) ∧ w' = w := by
  go_enter Tryz.func51, Tryz.ntmps51
  go_wp2
  refine wp_loop_rounds 1 ?_
  rw [rounds_succ]
  go_wp2
  go_end0
  exact ⟨rfl, rfl⟩
set_option maxRecDepth 100000 in
theorem growSteps_nil (bk : Nat) (w : World) (hc : w.cell? ⟨bk, 8, none⟩ = some (.slice none 0 0)) : Calls Tryz.prog 62 #[.pointer (some ⟨bk, 0, none⟩)] w fun r w' => r = .returned (.slice none 0 0) ∧ w' = w := by
  go_enter Tryz.func62, Tryz.ntmps62
  go_wp2
  refine wp_loop_rounds 1 ?_
  rw [rounds_succ]
  go_wp2
  go_ret
  exact ⟨rfl, rfl⟩
set_option maxRecDepth 100000 in
theorem markedSteps_nil (w : World) : Calls Tryz.prog 73 #[.slice none 0 0] w fun r w' => r = .returned (.bool true) ∧ w' = w := by
  go_enter Tryz.func73, Tryz.ntmps73
  go_wp2
  refine wp_loop_rounds 1 ?_
  rw [rounds_succ]
  go_wp2
  go_ret
  exact ⟨rfl, rfl⟩
set_option maxRecDepth 100000 in
theorem stillEdges_nil (bk : Nat) (w : World) (hc : w.cell? ⟨bk, 10, none⟩ = some (.slice none 0 0)) : Calls Tryz.prog 41 #[.pointer (some ⟨bk, 0, none⟩)] w fun r w' => r = .returned (.bool true) ∧ w' = w := by
  go_enter Tryz.func41, Tryz.ntmps41
  go_wp2
  refine wp_loop_rounds 1 ?_
  rw [rounds_succ]
  go_wp2
  go_ret
  exact ⟨rfl, rfl⟩
set_option maxRecDepth 100000 in
theorem putEdges_nil (bk : Nat) (w : World) (hc : w.cell? ⟨bk, 10, none⟩ = some (.slice none 0 0)) : Calls Tryz.prog 52 #[.pointer (some ⟨bk, 0, none⟩)] w fun r w' => r = .returned (.tuple #[]) ∧ w' = w := by
  go_enter Tryz.func52, Tryz.ntmps52
  go_wp2
  refine wp_loop_rounds 1 ?_
  rw [rounds_succ]
  go_wp2
  go_end0
  exact ⟨rfl, rfl⟩
set_option maxRecDepth 100000 in
theorem growEdges_nil (bk : Nat) (w : World) (hc : w.cell? ⟨bk, 10, none⟩ = some (.slice none 0 0)) : Calls Tryz.prog 63 #[.pointer (some ⟨bk, 0, none⟩)] w fun r w' => r = .returned (.slice none 0 0) ∧ w' = w := by
  go_enter Tryz.func63, Tryz.ntmps63
  go_wp2
  refine wp_loop_rounds 1 ?_
  rw [rounds_succ]
  go_wp2
  go_ret
  exact ⟨rfl, rfl⟩
set_option maxRecDepth 100000 in
theorem markedEdges_nil (w : World) : Calls Tryz.prog 74 #[.slice none 0 0] w fun r w' => r = .returned (.bool true) ∧ w' = w := by
  go_enter Tryz.func74, Tryz.ntmps74
  go_wp2
  refine wp_loop_rounds 1 ?_
  rw [rounds_succ]
  go_wp2
  go_ret
  exact ⟨rfl, rfl⟩
set_option maxRecDepth 100000 in
theorem stillNodes_nil (bk : Nat) (w : World) (hc : w.cell? ⟨bk, 12, none⟩ = some (.slice none 0 0)) : Calls Tryz.prog 42 #[.pointer (some ⟨bk, 0, none⟩)] w fun r w' => r = .returned (.bool true) ∧ w' = w := by
  go_enter Tryz.func42, Tryz.ntmps42
  go_wp2
  refine wp_loop_rounds 1 ?_
  rw [rounds_succ]
  go_wp2
  go_ret
  exact ⟨rfl, rfl⟩
set_option maxRecDepth 100000 in
theorem putNodes_nil (bk : Nat) (w : World) (hc : w.cell? ⟨bk, 12, none⟩ = some (.slice none 0 0)) : Calls Tryz.prog 53 #[.pointer (some ⟨bk, 0, none⟩)] w fun r w' => r = .returned (.tuple #[]) ∧ w' = w := by
  go_enter Tryz.func53, Tryz.ntmps53
  go_wp2
  refine wp_loop_rounds 1 ?_
  rw [rounds_succ]
  go_wp2
  go_end0
  exact ⟨rfl, rfl⟩
set_option maxRecDepth 100000 in
theorem growNodes_nil (bk : Nat) (w : World) (hc : w.cell? ⟨bk, 12, none⟩ = some (.slice none 0 0)) : Calls Tryz.prog 64 #[.pointer (some ⟨bk, 0, none⟩)] w fun r w' => r = .returned (.slice none 0 0) ∧ w' = w := by
  go_enter Tryz.func64, Tryz.ntmps64
  go_wp2
  refine wp_loop_rounds 1 ?_
  rw [rounds_succ]
  go_wp2
  go_ret
  exact ⟨rfl, rfl⟩
set_option maxRecDepth 100000 in
theorem markedNodes_nil (w : World) : Calls Tryz.prog 75 #[.slice none 0 0] w fun r w' => r = .returned (.bool true) ∧ w' = w := by
  go_enter Tryz.func75, Tryz.ntmps75
  go_wp2
  refine wp_loop_rounds 1 ?_
  rw [rounds_succ]
  go_wp2
  go_ret
  exact ⟨rfl, rfl⟩
set_option maxRecDepth 100000 in
theorem stillPairs_nil (bk : Nat) (w : World) (hc : w.cell? ⟨bk, 14, none⟩ = some (.slice none 0 0)) : Calls Tryz.prog 43 #[.pointer (some ⟨bk, 0, none⟩)] w fun r w' => r = .returned (.bool true) ∧ w' = w := by
  go_enter Tryz.func43, Tryz.ntmps43
  go_wp2
  refine wp_loop_rounds 1 ?_
  rw [rounds_succ]
  go_wp2
  go_ret
  exact ⟨rfl, rfl⟩
set_option maxRecDepth 100000 in
theorem putPairs_nil (bk : Nat) (w : World) (hc : w.cell? ⟨bk, 14, none⟩ = some (.slice none 0 0)) : Calls Tryz.prog 54 #[.pointer (some ⟨bk, 0, none⟩)] w fun r w' => r = .returned (.tuple #[]) ∧ w' = w := by
  go_enter Tryz.func54, Tryz.ntmps54
  go_wp2
  refine wp_loop_rounds 1 ?_
  rw [rounds_succ]
  go_wp2
  go_end0
  exact ⟨rfl, rfl⟩
set_option maxRecDepth 100000 in
theorem growPairs_nil (bk : Nat) (w : World) (hc : w.cell? ⟨bk, 14, none⟩ = some (.slice none 0 0)) : Calls Tryz.prog 65 #[.pointer (some ⟨bk, 0, none⟩)] w fun r w' => r = .returned (.slice none 0 0) ∧ w' = w := by
  go_enter Tryz.func65, Tryz.ntmps65
  go_wp2
  refine wp_loop_rounds 1 ?_
  rw [rounds_succ]
  go_wp2
  go_ret
  exact ⟨rfl, rfl⟩
set_option maxRecDepth 100000 in
theorem markedPairs_nil (w : World) : Calls Tryz.prog 76 #[.slice none 0 0] w fun r w' => r = .returned (.bool true) ∧ w' = w := by
  go_enter Tryz.func76, Tryz.ntmps76
  go_wp2
  refine wp_loop_rounds 1 ?_
  rw [rounds_succ]
  go_wp2
  go_ret
  exact ⟨rfl, rfl⟩
set_option maxRecDepth 100000 in
theorem stillLines_nil (bk : Nat) (w : World) (hc : w.cell? ⟨bk, 18, none⟩ = some (.slice none 0 0)) : Calls Tryz.prog 45 #[.pointer (some ⟨bk, 0, none⟩)] w fun r w' => r = .returned (.bool true) ∧ w' = w := by
  go_enter Tryz.func45, Tryz.ntmps45
  go_wp2
  refine wp_loop_rounds 1 ?_
  rw [rounds_succ]
  go_wp2
  go_ret
  exact ⟨rfl, rfl⟩
set_option maxRecDepth 100000 in
theorem putLines_nil (bk : Nat) (w : World) (hc : w.cell? ⟨bk, 18, none⟩ = some (.slice none 0 0)) : Calls Tryz.prog 56 #[.pointer (some ⟨bk, 0, none⟩)] w fun r w' => r = .returned (.tuple #[]) ∧ w' = w := by
  go_enter Tryz.func56, Tryz.ntmps56
  go_wp2
  refine wp_loop_rounds 1 ?_
  rw [rounds_succ]
  go_wp2
  go_end0
  exact ⟨rfl, rfl⟩
set_option maxRecDepth 100000 in
theorem growLines_nil (bk : Nat) (w : World) (hc : w.cell? ⟨bk, 18, none⟩ = some (.slice none 0 0)) : Calls Tryz.prog 67 #[.pointer (some ⟨bk, 0, none⟩)] w fun r w' => r = .returned (.slice none 0 0) ∧ w' = w := by
  go_enter Tryz.func67, Tryz.ntmps67
  go_wp2
  refine wp_loop_rounds 1 ?_
  rw [rounds_succ]
  go_wp2
  go_ret
  exact ⟨rfl, rfl⟩
set_option maxRecDepth 100000 in
theorem markedLines_nil (w : World) : Calls Tryz.prog 78 #[.slice none 0 0] w fun r w' => r = .returned (.bool true) ∧ w' = w := by
  go_enter Tryz.func78, Tryz.ntmps78
  go_wp2
  refine wp_loop_rounds 1 ?_
  rw [rounds_succ]
  go_wp2
  go_ret
  exact ⟨rfl, rfl⟩
set_option maxRecDepth 100000 in
theorem stillWalks_nil (bk : Nat) (w : World) (hc : w.cell? ⟨bk, 20, none⟩ = some (.slice none 0 0)) : Calls Tryz.prog 46 #[.pointer (some ⟨bk, 0, none⟩)] w fun r w' => r = .returned (.bool true) ∧ w' = w := by
  go_enter Tryz.func46, Tryz.ntmps46
  go_wp2
  refine wp_loop_rounds 1 ?_
  rw [rounds_succ]
  go_wp2
  go_ret
  exact ⟨rfl, rfl⟩
set_option maxRecDepth 100000 in
theorem putWalks_nil (bk : Nat) (w : World) (hc : w.cell? ⟨bk, 20, none⟩ = some (.slice none 0 0)) : Calls Tryz.prog 57 #[.pointer (some ⟨bk, 0, none⟩)] w fun r w' => r = .returned (.tuple #[]) ∧ w' = w := by
  go_enter Tryz.func57, Tryz.ntmps57
  go_wp2
  refine wp_loop_rounds 1 ?_
  rw [rounds_succ]
  go_wp2
  go_end0
  exact ⟨rfl, rfl⟩
set_option maxRecDepth 100000 in
theorem growWalks_nil (bk : Nat) (w : World) (hc : w.cell? ⟨bk, 20, none⟩ = some (.slice none 0 0)) : Calls Tryz.prog 68 #[.pointer (some ⟨bk, 0, none⟩)] w fun r w' => r = .returned (.slice none 0 0) ∧ w' = w := by
  go_enter Tryz.func68, Tryz.ntmps68
  go_wp2
  refine wp_loop_rounds 1 ?_
  rw [rounds_succ]
  go_wp2
  go_ret
  exact ⟨rfl, rfl⟩
set_option maxRecDepth 100000 in
theorem markedWalks_nil (w : World) : Calls Tryz.prog 79 #[.slice none 0 0] w fun r w' => r = .returned (.bool true) ∧ w' = w := by
  go_enter Tryz.func79, Tryz.ntmps79
  go_wp2
  refine wp_loop_rounds 1 ?_
  rw [rounds_succ]
  go_wp2
  go_ret
  exact ⟨rfl, rfl⟩
end
namespace BSteps
open Go.RowKit Go.Maps
attribute [local go_sem ↓] Go.wp_at_zero Go.wp_at_succ
abbrev El : Type := Int × Int
def enc (z : El) : List Value := [.int .i64 z.1, .int .i64 z.2]
def C (zs : List El) : List Value := zs.flatMap enc
theorem enc_len (z : El) : (enc z).length = 2 := rfl
theorem C_len (zs : List El) : (C zs).length = zs.length * 2 := by
  unfold C
  induction zs with
  | nil => rfl
  | cons z r ih => rw [List.flatMap_cons, List.length_append, ih, enc_len, List.length_cons]; omega
theorem C_app (a b : List El) : C (a ++ b) = C a ++ C b := List.flatMap_append
theorem C_one (zs : List El) : ∀ u ∈ C zs, u.oneCell' = true := fun u hu => by
  obtain ⟨z, _, hz⟩ := List.mem_flatMap.1 hu
  simp only [enc, List.mem_cons, List.not_mem_nil, or_false] at hz
  rcases hz with rfl | rfl <;> rfl
theorem C_at : ∀ (zs : List El) (k : Nat) (z : El), zs[k]? = some z → ∀ q, q < 2 → (C zs)[k * 2 + q]? = (enc z)[q]?
  | [], _, _, h, _, _ => by simp at h
  | y :: r, 0, z, h, q, hq => by
    simp at h
    subst h
    show (enc y ++ C r)[0 * 2 + q]? = _
    rw [List.getElem?_append_left (by rw [enc_len]; omega)]
    congr 1
    omega
  | y :: r, k + 1, z, h, q, hq => by
    have ih := C_at r k z (by simpa using h) q hq
    show (enc y ++ C r)[(k + 1) * 2 + q]? = _
    rw [List.getElem?_append_right (by rw [enc_len]; omega), enc_len, ← ih]
    congr 1
    omega
theorem C_set (zs : List El) {k : Nat} (hk : k < zs.length) (x : El) : C (zs.set k x) = (((C zs).set (k * 2) (.int .i64 x.1)).set (k * 2 + 1) (.int .i64 x.2)) := by
  apply List.ext_getElem?
  intro j
  by_cases hj : j / 2 = k
  · obtain ⟨q, hq, rfl⟩ : ∃ q, q < 2 ∧ j = k * 2 + q := ⟨j % 2, Nat.mod_lt _ (by decide), by omega⟩
    rw [C_at (zs.set k x) k x (List.getElem?_set_self hk) q hq]
    have hl : (C zs).length = zs.length * 2 := C_len zs
    have hq' : q = 0 ∨ q = 1 := by omega
    rcases hq' with rfl | rfl <;> simp [List.getElem?_set, hl, enc] <;> omega
  · have e : (C (zs.set k x))[j]? = (C zs)[j]? := by
      rcases Nat.lt_or_ge (j / 2) zs.length with h | h
      · obtain ⟨z, hz⟩ : ∃ z, zs[j / 2]? = some z := ⟨_, List.getElem?_eq_getElem h⟩
        have hz' : (zs.set k x)[j / 2]? = some z := by rw [List.getElem?_set_ne (fun e => hj e.symm)]; exact hz
        have e0 : j = j / 2 * 2 + j % 2 := by omega
        rw [e0, C_at _ _ z hz' _ (Nat.mod_lt _ (by decide)), C_at _ _ z hz _ (Nat.mod_lt _ (by decide))]
      · rw [List.getElem?_eq_none (by rw [C_len, List.length_set]; omega), List.getElem?_eq_none (by rw [C_len]; omega)]
    rw [e]
    rw [List.getElem?_set_ne (by omega), List.getElem?_set_ne (by omega)]
def Own (w : World) (B : Nat) (v : Value) (zs : List El) : Prop := w.ownsRow B 115 2 v zs.length (C zs)
def Has (w : World) (v : Value) (zs : List El) : Prop := ∃ ao cap, v = .slice ao zs.length cap ∧ ∀ (j : Nat) (u : Value), (C zs)[j]? = some u → ∃ a, ao = some a ∧ w.cell? (a.add j) = some u
theorem Has.below {w w' : World} {v : Value} {zs : List El} (h : Has w v zs) (hb : Below w.heap.size w w') : Has w' v zs := by
  obtain ⟨ao, cap, h1, h2⟩ := h
  refine ⟨ao, cap, h1, fun i p hi => ?_⟩
  obtain ⟨a, ha, c0⟩ := h2 i p hi
  exact ⟨a, ha, (hb.cell (World.block_lt_of_cell? w _ c0)).trans c0⟩
theorem C_nil {zs : List El} (h : zs ≠ []) : ∃ u, (C zs)[0]? = some u := by
  cases zs with
  | nil => exact absurd rfl h
  | cons z r =>
    have h1 := C_at (z :: r) 0 z rfl 0 (by decide)
    have h2 : (enc z)[0]? = some ((enc z)[0]'(by rw [enc_len]; decide)) := List.getElem?_eq_getElem _
    exact ⟨_, h1.trans h2⟩
theorem Own.at {w : World} {B g cap n : Nat} {zs : List El} (h : Own w B (.slice (some ⟨g, 0, none⟩) n cap) zs) {j : Nat} {u : Value} (hj : (C zs)[j]? = some u) : w.cell? ⟨g, j, none⟩ = some u := by
  obtain ⟨ao', cap', hv⟩ := row_shape h
  injection hv with _ e _
  subst e
  have h' : w.ownsRow B 115 2 (.slice (some ⟨g, 0, none⟩) zs.length cap) zs.length (C zs) := h
  rw [h'.cellAt j (by rw [← h'.1]; exact (List.getElem?_eq_some_iff.1 hj).1), hj]
theorem Own.has {w : World} {B : Nat} {v : Value} {zs : List El} (h : Own w B v zs) : Has w v zs := by
  obtain ⟨ao, cap, hv⟩ := row_shape h
  refine ⟨ao, cap, hv, fun j u hj => ?_⟩
  have hlt := (List.getElem?_eq_some_iff.1 hj).1
  rw [C_len] at hlt
  obtain ⟨g, c, hf, _, _⟩ := World.ownsRow.form h (by omega)
  rw [hv] at hf
  injection hf with e1 e2 e3
  subst e1; subst e3
  refine ⟨_, rfl, ?_⟩
  rw [addz]
  rw [hv] at h
  exact Own.at h hj
theorem add_q (a : Addr) (m q : Nat) : (a.add m).add q = a.add (m + q) := by
  unfold Addr.add
  by_cases h1 : m = 0 <;> by_cases h2 : q = 0 <;> simp [h1, h2] <;> omega
theorem copy_of {w : World} {ao : Option Addr} {n cap : Nat} {zs : List El} (h : Has w (.slice ao n cap) zs) : (ao = none → n = 0) ∧ ∀ ad, ao = some ad → ∀ j u, (C zs)[j]? = some u → w.cell? (ad.add j) = some u := by
  obtain ⟨ao', cap', hv, h2⟩ := h
  injection hv with e1 e2 e3
  subst e1
  refine ⟨fun e => ?_, fun ad e j u hj => ?_⟩
  · rw [e2]
    by_cases hz : zs = []
    · rw [hz]; rfl
    · obtain ⟨u, hu⟩ := C_nil hz
      obtain ⟨a, ha, _⟩ := h2 0 u hu
      rw [e] at ha; cases ha
  · obtain ⟨a, ha, hc⟩ := h2 j u hj
    rw [e] at ha
    cases ha
    exact hc
def mk1 (i k : Nat) : El := (-1 - (i : Int), (k : Int))
def marks (i f n : Nat) : List El := (List.range n).map fun k => mk1 i (f + k)
theorem Tryz.infoE : (Tryz.prog.info? 115).map (fun i => (i.zero, i.size, i.bytes)) = some (some (.agg #[.int .i64 0, .int .i64 0]), 2, 16) := by kernel_rfl
end BSteps
section
open Go.RowKit Go.Maps
namespace Sy
inductive Rea (es : List Ed) (s : Int) : Int → Prop
  | start : Rea es s s
  | step (e : Ed) : e ∈ es → Rea es s e.1 → Rea es s e.2.2
structure RInv (es : List Ed) (s : Int) (n : Nat) (zs : List Int) (bs : List Bool) (i : Nat) : Prop where
  len : bs.length = n
  iff : ∀ p : Nat, bs[p]? = some true ↔ (p : Int) ∈ zs
  rng : ∀ z ∈ zs, 0 ≤ z ∧ z < (n : Int)
  cnt : zs.length = bs.count true
  rea : ∀ z ∈ zs, Rea es s z
  st : s ∈ zs
  done : ∀ (j : Nat) (z : Int), j < i → zs[j]? = some z → ∀ e ∈ es, e.1 = z → e.2.2 ∈ zs
theorem steps_mem {es : List Ed} {i a b : Int} : (a, b) ∈ steps es i ↔ (i, a, b) ∈ es := by
  unfold steps
  rw [List.mem_map]
  constructor
  · rintro ⟨e, he, h1⟩
    obtain ⟨h2, h3⟩ := List.mem_filter.1 he
    have e1 : e.1 = i := by simpa using h3
    cases h1
    rw [← e1]
    exact h2
  · intro h
    exact ⟨(i, a, b), List.mem_filter.2 ⟨h, by simp⟩, rfl⟩
end Sy
def bC (bs : List Bool) : List Value := bs.map Value.bool
theorem own_num {w : World} {B : Nat} {ao : Option Addr} {n cap : Nat} {zs : List Int} (h : OwnI w B (.slice ao n cap) zs) {j : Nat} {z : Int} (hz : zs[j]? = some z) : ∃ g, ao = some ⟨g, 0, none⟩ ∧ w.cell? ⟨g, j, none⟩ = some (.int .i64 z) := by
  have hlt := (List.getElem?_eq_some_iff.1 hz).1
  obtain ⟨g, c, hf, _, _⟩ := World.ownsRow.form h (by omega)
  injection hf with e1 e2 e3
  subst e1
  exact ⟨g, rfl, h.cell hz⟩
theorem step_at {w : World} {ao : Option Addr} {n cap : Nat} {zs : List BSteps.El} (h : BSteps.Has w (.slice ao n cap) zs) {j : Nat} {z : BSteps.El} (hz : zs[j]? = some z) :
    ∃ a, ao = some a ∧ w.cell? (a.add (j * 2)) = some (.int .i64 z.1) ∧ w.cell? ⟨(a.add (j * 2)).block, (a.add (j * 2)).off + 1, none⟩ = some (.int .i64 z.2) := by
  obtain ⟨ao', cap', hv, hc⟩ := h
  injection hv with e1 e2 e3
  subst e1
  obtain ⟨a, rfl, c0⟩ := hc (j * 2 + 0) _ ((BSteps.C_at zs j z hz 0 (by decide)).trans rfl)
  obtain ⟨a1, e1, c1⟩ := hc (j * 2 + 1) _ ((BSteps.C_at zs j z hz 1 (by decide)).trans rfl)
  cases e1
  refine ⟨a, rfl, by simpa using c0, ?_⟩
  rw [← BSteps.add_q] at c1
  exact c1
end
end Go.Proofs.YtibdgefjpcebkaaGreatDoor
