/- Terms: plain, as values, in memory; contracts of the smallest functions of package term. -/
import Derived.Test.YthnenpncajpibaaGreatDoorInts
import Derived.Maps.OwnSet
import Derived.Maps.Range
import Derived.Maps.AppendAt
import Derived.OneCell
import Derived.DeepKeys4
import Derived.Deep.AppendLies
namespace Go.Proofs.YthnenpncajpibaaGreatDoor
open Go.RowKit Go.Maps
/-- A term, plain. -/
structure Tm where
  kind : Int
  label : Int
  a : Int
  b : Int
  names : List Int
  pairs : List (Int × Int)
namespace Tm
def has (n : Nat) (i : Int) : Bool := decide (0 ≤ i) && decide (i < (n : Int))
/-- Is the kind's own part right? -/
def right (n : Nat) (t : Tm) : Bool :=
  if t.kind = 1 then true
  else if t.kind = 2 then decide (0 ≤ t.label ∧ t.label < 201) && has n t.a
  else if t.kind = 3 ∨ t.kind = 4 then has n t.a && has n t.b
  else if t.kind = 5 then has n t.a && Ac.rising (-1) t.names
  else if t.kind = 6 then has n t.a && Ac.pairs (-1) t.pairs
  else if t.kind = 7 then decide (0 ≤ t.a ∧ t.a < 200)
  else false
/-- Is the rest zero? -/
def rest (t : Tm) : Bool :=
  (t.kind == 2 || t.label == 0) && (t.kind != 1 || t.a == 0) && (t.kind == 3 || t.kind == 4 || t.b == 0) && (t.kind == 5 || t.names.length == 0) && (t.kind == 6 || t.pairs.length == 0)
def may (n : Nat) (t : Tm) : Bool := right n t && rest t
def byteOf (z : Int) : UInt8 := UInt8.ofNat z.toNat
/-- The bytes of the key. -/
def lists (t : Tm) : List UInt8 := t.names.map byteOf ++ (t.pairs.map fun p => [byteOf p.1, byteOf p.2]).flatten
end Tm
/-- A term as a value. -/
def tmV (t : Tm) (vn vp : Value) : Value := .agg #[.int .i64 t.kind, .int .i64 t.label, .int .i64 t.a, .int .i64 t.b, vn, vp]
def tmC (t : Tm) (vn vp : Value) : List Value := [.int .i64 t.kind, .int .i64 t.label, .int .i64 t.a, .int .i64 t.b, vn, vp]
/-- The key of a term as a value. -/
def keyV (t : Tm) : Value := .agg #[.int .i64 t.kind, .int .i64 t.label, .int .i64 t.a, .int .i64 t.b, .string ⟨t.lists.toArray⟩]
theorem t_lt {w : World} {b : Nat} {o : Obj} (h : w.heap[b]? = some o) : b < w.heap.size := (Array.getElem?_eq_some_iff.1 h).1
theorem t_cells {w : World} {b : Nat} {x y : Value} {t : TypeId} (h : w.heap[b]? = some (.cells #[x, y] t (0, 0))) : w.cell? ⟨b, 0, none⟩ = some x ∧ w.cell? ⟨b, 1, none⟩ = some y := by
  constructor <;> simp [World.cell?, h]
/-- A fault of term that wraps this, in memory. -/
def TermFault (w : World) (b : Nat) (e : Value) : Prop := w.heap[b]? = some (.cells #[.string ⟨#[116, 101, 114, 109]⟩, .int .i64 0, .int .i64 0, e] 127 (0, 0))
def tFaultV (b : Nat) : Value := .iface 124 (.pointer (some ⟨b, 0, none⟩))
theorem tfault_any (T : TypeId) (u : Value) (w : World) : Calls Tryz.prog 81 #[.iface T u] w fun r w' => r = .returned (tFaultV w.heap.size) ∧ TermFault w' w.heap.size (.iface T u) ∧ Below w.heap.size w w' := by
  go_enter Tryz.func81, Tryz.ntmps81
  go_wp2
  go_ret
  exact ⟨rfl, (MapKept.heap_alloc w _).1, (Below.refl _ _).alloc (Nat.le_refl _) _⟩
theorem thas_any (b : Nat) (ao : Option Addr) (n cap : Nat) (i : Int) (w : World) (hc : w.cell? ⟨b, 0, none⟩ = some (.slice ao n cap)) :
    Calls Tryz.prog 86 #[.pointer (some ⟨b, 0, none⟩), .int .i64 i] w fun r w' => r = .returned (.bool (Tm.has n i)) ∧ w' = w := by
  by_cases h0 : 0 ≤ i
  · by_cases h1 : i < (n : Int)
    · have HF : Hid (Tm.has n i = true) := (by simp [Tm.has, h0, h1] : Tm.has n i = true)
      go_enter Tryz.func86, Tryz.ntmps86
      go_wp2
      go_ret
      exact ⟨by rw [HF.out]; rfl, rfl⟩
    · have HF : Hid (Tm.has n i = false) := (by simp [Tm.has, h1] : Tm.has n i = false)
      go_enter Tryz.func86, Tryz.ntmps86
      go_wp2
      go_ret
      exact ⟨by rw [HF.out]; rfl, rfl⟩
  · have HF : Hid (Tm.has n i = false) := (by simp [Tm.has, h0] : Tm.has n i = false)
    go_enter Tryz.func86, Tryz.ntmps86
    go_wp2
    go_ret
    exact ⟨by rw [HF.out]; rfl, rfl⟩
theorem tsize_any (b : Nat) (ao : Option Addr) (n cap : Nat) (w : World) (hc : w.cell? ⟨b, 0, none⟩ = some (.slice ao n cap)) :
    Calls Tryz.prog 21 #[.pointer (some ⟨b, 0, none⟩)] w fun r w' => r = .returned (.int .i64 n) ∧ w' = w := by
  go_enter Tryz.func21, Tryz.ntmps21
  go_wp2
  go_ret
  exact ⟨rfl, rfl⟩
theorem lacks_no (b : Nat) (ao : Option Addr) (n cap : Nat) (i : Int) (w : World) (hc : w.cell? ⟨b, 0, none⟩ = some (.slice ao n cap)) (hi : Tm.has n i = true) :
    Calls Tryz.prog 26 #[.pointer (some ⟨b, 0, none⟩), .int .i64 i] w fun r w' => r = .returned .nilIface ∧ w' = w := by
  have hH := thas_any b ao n cap i w hc
  rw [hi] at hH
  go_enter Tryz.func26, Tryz.ntmps26
  go_wp2_with (go_at_call 86; refine hH.mono ?_; rintro r w' ⟨rfl, hw⟩; obtain rfl := hw.symm)
  go_ret
  exact ⟨rfl, rfl⟩
theorem lacks_yes (b : Nat) (ao : Option Addr) (n cap : Nat) (i : Int) (T : TypeId) (u : Value) (w : World) (hc : w.cell? ⟨b, 0, none⟩ = some (.slice ao n cap)) (hi : Tm.has n i = false) (hI : w.cell? ⟨1, 0, none⟩ = some (.iface T u)) :
    Calls Tryz.prog 26 #[.pointer (some ⟨b, 0, none⟩), .int .i64 i] w fun r w' => r = .returned (tFaultV w.heap.size) ∧ TermFault w' w.heap.size (.iface T u) ∧ Below w.heap.size w w' := by
  have hH := thas_any b ao n cap i w hc
  rw [hi] at hH
  go_enter Tryz.func26, Tryz.ntmps26
  go_wp2_with (first | (go_at_call 86; refine hH.mono ?_; rintro r w' ⟨rfl, hw⟩; obtain rfl := hw.symm) | (go_at_call 81; refine (tfault_any _ _ _).mono ?_; rintro r w' ⟨rfl, hF, hb⟩))
  go_ret
  exact ⟨rfl, hF, hb⟩
theorem lacks_nil (i : Int) (T : TypeId) (u : Value) (w : World) (hI : w.cell? ⟨0, 0, none⟩ = some (.iface T u)) :
    Calls Tryz.prog 26 #[.pointer none, .int .i64 i] w fun r w' => r = .returned (tFaultV w.heap.size) ∧ TermFault w' w.heap.size (.iface T u) ∧ Below w.heap.size w w' := by
  go_enter Tryz.func26, Tryz.ntmps26
  go_wp2_with (go_at_call 81; refine (tfault_any _ _ _).mono ?_; rintro r w' ⟨rfl, hF, hb⟩)
  go_ret
  exact ⟨rfl, hF, hb⟩
end Go.Proofs.YthnenpncajpibaaGreatDoor
