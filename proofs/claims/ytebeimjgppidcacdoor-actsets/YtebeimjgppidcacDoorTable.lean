/- What a table of names is in memory; plain facts on it; contracts of act.fault and strings.Clone. -/
import Derived.Test.YtebeimjgppidcacDoorShelf
import Derived.WalkKit
import Derived.WalkSpells
import Derived.Below
import Derived.Maps.OwnSet
import Derived.Maps.Range
import Derived.Maps.AppendAt
import Derived.OneCell
namespace Go.Proofs.YtebeimjgppidcacDoor
open Go.RowKit Go.Maps
theorem tab_lt {w : World} {b : Nat} {o : Obj} (h : w.heap[b]? = some o) : b < w.heap.size := (Array.getElem?_eq_some_iff.1 h).1
theorem tab_cells {w : World} {b : Nat} {x y : Value} {t : TypeId} (h : w.heap[b]? = some (.cells #[x, y] t (0, 0))) : w.cell? ⟨b, 0, none⟩ = some x ∧ w.cell? ⟨b, 1, none⟩ = some y := by
  constructor <;> simp [World.cell?, h]
theorem sclone_any (s : ByteArray) (w : World) (hlim : s.size ≤ 281474976710656) :
    Calls Tryd.prog 55 #[.string s] w fun e w' => e = .returned (.string s) ∧ Below w.heap.size w w' := by
  go_enter Tryd.func55, Tryd.ntmps55
  go_wp2_with (go_at_call 59; refine (Tryd.stringslite_Clone _ _ hlim).mono ?_; rintro e w' ⟨rfl, hb⟩)
  go_ret
  exact ⟨rfl, hb⟩
/-- A fault of act that wraps this, in memory. -/
def ActFault (w : World) (b : Nat) (e : Value) : Prop := w.heap[b]? = some (.cells #[.string ⟨#[97, 99, 116]⟩, .int .i64 0, .int .i64 0, e] 77 (0, 0))
def faultV (b : Nat) : Value := .iface 74 (.pointer (some ⟨b, 0, none⟩))
theorem fault_any (T : TypeId) (u : Value) (w : World) : Calls Tryd.prog 43 #[.iface T u] w fun r w' => r = .returned (faultV w.heap.size) ∧ ActFault w' w.heap.size (.iface T u) ∧ Below w.heap.size w w' := by
  go_enter Tryd.func43, Tryd.ntmps43
  go_wp2
  go_ret
  exact ⟨rfl, (MapKept.heap_alloc w _).1, (Below.refl _ _).alloc (Nat.le_refl _) _⟩
/-- All blocks but those of F stand. -/
structure Keeps (F : Nat → Prop) (w w' : World) : Prop where
  os : w'.os = w.os
  tape : w'.tape = w.tape
  output : w'.output = w.output
  size : w.heap.size ≤ w'.heap.size
  block : ∀ k, k < w.heap.size → ¬ F k → w'.heap[k]? = w.heap[k]?
theorem Keeps.refl (F : Nat → Prop) (w : World) : Keeps F w w := ⟨rfl, rfl, rfl, Nat.le_refl _, fun _ _ _ => rfl⟩
theorem Keeps.trans {F : Nat → Prop} {a b c : World} (h : Keeps F a b) (k : Keeps F b c) : Keeps F a c :=
  ⟨k.os.trans h.os, k.tape.trans h.tape, k.output.trans h.output, Nat.le_trans h.size k.size, fun i hi hf => (k.block i (Nat.lt_of_lt_of_le hi h.size) hf).trans (h.block i hi hf)⟩
theorem Keeps.mono {F G : Nat → Prop} {a b : World} (h : Keeps F a b) (hs : ∀ k, k < a.heap.size → F k → G k) : Keeps G a b := ⟨h.os, h.tape, h.output, h.size, fun i hi hg => h.block i hi fun hf => hg (hs i hi hf)⟩
theorem Keeps.of_below {F : Nat → Prop} {a b : World} (h : Below a.heap.size a b) : Keeps F a b := ⟨h.os, h.tape, h.output, h.size, fun i hi _ => h.block i hi⟩
theorem Keeps.of_grown {a b : World} {row : Option Nat} (h : a.grownBy b row) : Keeps (fun i => row = some i) a b := ⟨h.os, h.tape, h.output, h.size, fun i hi hn => h.block i hi fun e => hn e.symm⟩
theorem Keeps.below {F : Nat → Prop} {a b : World} (h : Keeps F a b) {B : Nat} (hB : B ≤ a.heap.size) (hF : ∀ k, F k → B ≤ k) : Below B a b := ⟨h.os, h.tape, h.output, h.size, fun i hi => h.block i (by omega) fun hf => by have := hF i hf; omega⟩
theorem Keeps.setCell (a : World) (b o : Nat) (u : Value) : Keeps (fun i => i = b) a (a.setCell ⟨b, o, none⟩ u) := by
  have h : Below b a (a.setCell ⟨b, o, none⟩ u) := Below.setCell (Below.refl b a) (Nat.le_refl _) u
  refine ⟨h.os, h.tape, h.output, h.size, fun i _ hn => ?_⟩
  simp only [World.setCell]
  rw [Array.getElem?_modify, if_neg (fun e => hn e.symm)]
end Go.Proofs.YtebeimjgppidcacDoor
