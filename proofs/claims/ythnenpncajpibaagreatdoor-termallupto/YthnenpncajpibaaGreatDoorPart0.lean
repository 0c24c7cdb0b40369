/- Texts of this claim, joined: Label, Pairs, RefLab, Ints, TmMem, TmMay, TmKey. -/
import Derived.Test.YthnenpncajpibaaGreatDoorProg
import Derived.WalkKit
import Derived.WalkSpells
import Derived.WalkSmall
import Derived.Deep.LoopGhost
import Derived.Below
import Derived.Deep.QuietTactic
import Derived.BigQuiet
import Derived.Maps.OwnSet
import Derived.Maps.Range
import Derived.Maps.AppendAt
import Derived.OneCell
import Derived.DeepKeys4
import Derived.Deep.AppendLies
import Derived.Laws.IdiomStrings
import Derived.Laws.BytesArg
/- Contracts of package act's Label, NameOf and Co. -/
namespace Go.Proofs.YthnenpncajpibaaGreatDoor
open Go.RowKit
namespace Ac
def isN (c : Int) : Bool := decide (0 ≤ c ∧ c < 100)
def label (n : Int) (co : Bool) : Int := if 0 ≤ n ∧ n < 100 then (if co then 2 * n + 2 else 2 * n + 1) else 0
def named (l : Int) : Bool := decide (0 < l ∧ l < 201)
def nameN (l : Int) : Int := if 0 < l ∧ l < 201 then (l - 1) / 2 else 0
def nameC (l : Int) : Bool := decide (0 < l ∧ l < 201 ∧ l % 2 = 0)
def co (l : Int) : Int := if 0 < l ∧ l < 201 then label (nameN l) (!nameC l) else 0
end Ac
theorem ret_int' {a b : Int} (h : a = b) : Ending.returned (.int .i64 a) = .returned (.int .i64 b) := by rw [h]
theorem actName_any (c : Int) (w : World) : Calls Tryz.prog 128 #[.int .i64 c] w fun e w' => e = .returned (.bool (Ac.isN c)) ∧ w' = w := by
  rcases (show c < 0 ∨ (0 ≤ c ∧ c < 100) ∨ (0 ≤ c ∧ 100 ≤ c) from by omega) with h | ⟨h1, h2⟩ | ⟨h1, h2⟩
  all_goals
    go_enter Tryz.func128, Tryz.ntmps128
    go_wp2
    go_ret
    exact ⟨by simp [Ac.isN]; omega, rfl⟩
end Go.Proofs.YthnenpncajpibaaGreatDoor
/- Contract of act.Pairs: are these a renaming? -/
namespace Go.Proofs.YthnenpncajpibaaGreatDoor
open Go.RowKit
/-- The value is a list of these pairs. -/
def HasP (w : World) (v : Value) (ps : List (Int × Int)) : Prop := ∃ ao cap, v = .slice ao ps.length cap ∧ ∀ (i : Nat) (p : Int × Int), ps[i]? = some p → ∃ a, ao = some a ∧ w.cell? (a.add (i * 2)) = some (.int .i64 p.1) ∧ w.cell? (a.add (i * 2 + 1)) = some (.int .i64 p.2)
theorem HasP.below {w w' : World} {v : Value} {ps : List (Int × Int)} (h : HasP w v ps) (hb : Below w.heap.size w w') : HasP w' v ps := by
  obtain ⟨ao, cap, h1, h2⟩ := h
  refine ⟨ao, cap, h1, fun i p hi => ?_⟩
  obtain ⟨a, ha, c0, c1⟩ := h2 i p hi
  exact ⟨a, ha, (hb.cell (World.block_lt_of_cell? w _ c0)).trans c0, (hb.cell (World.block_lt_of_cell? w _ c1)).trans c1⟩
namespace Ac
/-- Are they pairs, the olds rising behind a number? -/
def pairs : Int → List (Int × Int) → Bool
  | _, [] => true
  | last, p :: r => if p.1 ≤ last ∨ isN p.1 = false ∨ isN p.2 = false then false else pairs p.1 r
end Ac
theorem drop_at {α : Type} {l : List α} {j : Nat} {x : α} (h : l[j]? = some x) : l.drop j = x :: l.drop (j + 1) := by
  obtain ⟨hlt, rfl⟩ := List.getElem?_eq_some_iff.1 h
  rw [List.drop_eq_getElem_cons hlt]
theorem add_two (a : Addr) (x y : Nat) : (a.add x).add y = a.add (x + y) := by
  unfold Addr.add
  split <;> split <;> simp_all <;> omega
set_option maxRecDepth 100000 in
set_option maxHeartbeats 1000000 in
theorem pairs_any (v : Value) (ps : List (Int × Int)) (w : World) (hH : HasP w v ps) (hn : ps.length ≤ maxLen) :
    Calls Tryz.prog 111 #[v] w fun e w' => e = .returned (.bool (Ac.pairs (-1) ps)) ∧ Below w.heap.size w w' := by
  obtain ⟨ao, cap, rfl, hcells⟩ := hH
  obtain ⟨n, hN⟩ : ∃ n, n = ps.length := ⟨_, rfl⟩
  have HH : Hid ((∀ (i : Nat) (p : Int × Int), ps[i]? = some p → ∃ a, ao = some a ∧ w.cell? (a.add (i * 2)) = some (.int .i64 p.1) ∧ w.cell? (a.add (i * 2 + 1)) = some (.int .i64 p.2)) ∧ n = ps.length) := ⟨hcells, hN⟩
  rw [← hN] at hn ⊢
  unfold maxLen at hn
  clear hcells hN
  go_enter Tryz.func111, Tryz.ntmps111
  go_wp2_with fail
  go_loopg [3, 8] n (fun g lv i wr => ∃ (j : Nat) (last : Int), g = n - j ∧ j ≤ n ∧ i = .int .i64 j ∧ lv = .int .i64 last ∧ Ac.pairs last (ps.drop j) = Ac.pairs (-1) ps ∧ Below w.heap.size w wr)
  case atStart => exact ⟨0, -1, rfl, Nat.zero_le _, rfl, rfl, rfl, Below.refl _ _⟩
  case round =>
    obtain ⟨j, last, rfl, hj, rfl, rfl, hR, hb⟩ := hrel
    have HB : Hid (Below w.heap.size w wr ∧ Ac.pairs last (ps.drop j) = Ac.pairs (-1) ps) := ⟨hb, hR⟩
    clear hb hR
    by_cases hlt : j < n
    · obtain ⟨p, hp⟩ : ∃ p, ps[j]? = some p := ⟨ps[j]'(by have := HH.out.2; omega), List.getElem?_eq_getElem _⟩
      obtain ⟨a, rfl, c0, c1⟩ := HH.out.1 j p hp
      have d0 := (HB.out.1.cell (World.block_lt_of_cell? w _ c0)).trans c0
      have d1 := (HB.out.1.cell (World.block_lt_of_cell? w _ c1)).trans c1
      have hdr := drop_at hp
      have q0 : (0 : Int) ≤ (j : Int) := by omega
      have q1 : (j : Int) < (n : Int) := by omega
      obtain ⟨x, y⟩ := p
      clear c0 c1 hp
      have HX : Hid (Ac.pairs last (ps.drop j) = if x ≤ last ∨ Ac.isN x = false ∨ Ac.isN y = false then false else Ac.pairs x (ps.drop (j + 1))) := by
        show Ac.pairs last (ps.drop j) = _
        rw [hdr]; rfl
      clear hdr
      have d2 : wr.cell? ((a.add (j * 2)).add 1) = some (.int .i64 y) := by rw [add_two]; exact d1
      have d3 : wr.cell? ⟨(a.add (j * 2)).block, (a.add (j * 2)).off + 1, none⟩ = some (.int .i64 y) := by rw [← d2]; rfl
      have hal : Below w.heap.size w (wr.alloc (.cells #[.int .i64 x, .int .i64 y] 75)) := HB.out.1.alloc HB.out.1.size _
      have HA : Hid (Below w.heap.size w (wr.alloc (.cells #[.int .i64 x, .int .i64 y] 75))) := hal
      clear hal
      by_cases h1 : x ≤ last
      · have HF : Hid (Ac.pairs (-1) ps = false) := (by rw [← HB.out.2, HX.out, if_pos (.inl h1)] : Ac.pairs (-1) ps = false)
        go_wp2_with fail
        go_ret
        exact ⟨by rw [HF.out]; rfl, HA.out⟩
      · cases hx : Ac.isN x with
        | false =>
          have HF : Hid (Ac.pairs (-1) ps = false) := (by rw [← HB.out.2, HX.out, if_pos (.inr (.inl hx))] : Ac.pairs (-1) ps = false)
          go_wp2_with (go_at_call 128; refine (actName_any _ _).mono ?_; rw [hx]; rintro r w' ⟨rfl, hw⟩; obtain rfl := hw.symm)
          go_ret
          exact ⟨by rw [HF.out]; rfl, HA.out⟩
        | true =>
          cases hy : Ac.isN y with
          | false =>
            have HF : Hid (Ac.pairs (-1) ps = false) := (by rw [← HB.out.2, HX.out, if_pos (.inr (.inr hy))] : Ac.pairs (-1) ps = false)
            go_wp2_with (go_at_call 128; refine (actName_any _ _).mono ?_; (first | rw [hx] | rw [hy]); rintro r w' ⟨rfl, hw⟩; obtain rfl := hw.symm)
            go_ret
            exact ⟨by rw [HF.out]; rfl, HA.out⟩
          | true =>
            have HF : Hid (Ac.pairs x (ps.drop (j + 1)) = Ac.pairs (-1) ps) := (by rw [← HB.out.2, HX.out, if_neg (by simp [h1, hx, hy])] : Ac.pairs x (ps.drop (j + 1)) = Ac.pairs (-1) ps)
            go_wp2_with (go_at_call 128; refine (actName_any _ _).mono ?_; (first | rw [hx] | rw [hy]); rintro r w' ⟨rfl, hw⟩; obtain rfl := hw.symm)
            go_roundg (n - (j + 1))
            case measure => omega
            case rel => exact ⟨j + 1, x, rfl, by omega, by go_num, rfl, HF.out, HA.out⟩
    · have q1 : ¬ (j : Int) < (n : Int) := by omega
      have HF : Hid (Ac.pairs (-1) ps = true) := (by rw [← HB.out.2, List.drop_eq_nil_of_le (by have := HH.out.2; omega)]; rfl : Ac.pairs (-1) ps = true)
      go_wp2_with fail
      go_ret
      exact ⟨by rw [HF.out]; rfl, HB.out.1⟩
end Go.Proofs.YthnenpncajpibaaGreatDoor
/- Contracts of the document's own Label and NameOf. -/
namespace Go.Proofs.YthnenpncajpibaaGreatDoor
open Go.RowKit
end Go.Proofs.YthnenpncajpibaaGreatDoor
/- Lists of numbers; contract of act.Rising. -/
namespace Go.Proofs.YthnenpncajpibaaGreatDoor
open Go.RowKit
/-- The value is a list of these numbers. -/
def HasI (w : World) (v : Value) (zs : List Int) : Prop := ∃ ao cap, v = .slice ao zs.length cap ∧ ∀ (i : Nat) (z : Int), zs[i]? = some z → ∃ a, ao = some a ∧ w.cell? (a.add i) = some (.int .i64 z)
theorem HasI.below {w w' : World} {v : Value} {zs : List Int} (h : HasI w v zs) (hb : Below w.heap.size w w') : HasI w' v zs := by
  obtain ⟨ao, cap, h1, h2⟩ := h
  refine ⟨ao, cap, h1, fun i p hi => ?_⟩
  obtain ⟨a, ha, c0⟩ := h2 i p hi
  exact ⟨a, ha, (hb.cell (World.block_lt_of_cell? w _ c0)).trans c0⟩
namespace Ac
def rising : Int → List Int → Bool
  | _, [] => true
  | last, z :: r => if z ≤ last ∨ isN z = false then false else rising z r
def prev (zs : List Int) : Nat → Int
  | 0 => -1
  | j + 1 => zs.getD j 0
end Ac
set_option maxRecDepth 100000 in
set_option maxHeartbeats 1000000 in
theorem rising_any (v : Value) (zs : List Int) (w : World) (hH : HasI w v zs) (hn : zs.length ≤ maxLen) :
    Calls Tryz.prog 110 #[v] w fun e w' => e = .returned (.bool (Ac.rising (-1) zs)) ∧ w' = w := by
  obtain ⟨ao, cap, rfl, hcells⟩ := hH
  obtain ⟨n, hN⟩ : ∃ n, n = zs.length := ⟨_, rfl⟩
  have HH : Hid ((∀ (i : Nat) (z : Int), zs[i]? = some z → ∃ a, ao = some a ∧ w.cell? (a.add i) = some (.int .i64 z)) ∧ n = zs.length) := ⟨hcells, hN⟩
  rw [← hN] at hn ⊢
  unfold maxLen at hn
  clear hcells hN
  go_enter Tryz.func110, Tryz.ntmps110
  go_wp2_with fail
  go_loopg [3, 8] n (fun g lv i wr => ∃ (j : Nat) (last : Int), g = n - j ∧ j ≤ n ∧ i = .int .i64 j ∧ lv = .int .i64 last ∧ Ac.rising last (zs.drop j) = Ac.rising (-1) zs ∧ w = wr)
  case atStart => exact ⟨0, -1, rfl, Nat.zero_le _, rfl, rfl, rfl, rfl⟩
  case round =>
    obtain ⟨j, last, rfl, hj, rfl, rfl, hR, rfl⟩ := hrel
    have HB : Hid (Ac.rising last (zs.drop j) = Ac.rising (-1) zs) := hR
    clear hR
    by_cases hlt : j < n
    · obtain ⟨z, hz⟩ : ∃ z, zs[j]? = some z := ⟨zs[j]'(by have := HH.out.2; omega), List.getElem?_eq_getElem _⟩
      obtain ⟨a, rfl, c0⟩ := HH.out.1 j z hz
      have HX : Hid (Ac.rising last (zs.drop j) = if z ≤ last ∨ Ac.isN z = false then false else Ac.rising z (zs.drop (j + 1))) := by
        show Ac.rising last (zs.drop j) = _
        rw [drop_at hz]; rfl
      have q0 : (0 : Int) ≤ (j : Int) := by omega
      have q1 : (j : Int) < (n : Int) := by omega
      clear hz
      by_cases h1 : z ≤ last
      · have HF : Hid (Ac.rising (-1) zs = false) := (by rw [← HB.out, HX.out, if_pos (.inl h1)] : Ac.rising (-1) zs = false)
        go_wp2_with fail
        go_ret
        exact ⟨by rw [HF.out]; rfl, rfl⟩
      · cases hx : Ac.isN z with
        | false =>
          have HF : Hid (Ac.rising (-1) zs = false) := (by rw [← HB.out, HX.out, if_pos (.inr hx)] : Ac.rising (-1) zs = false)
          go_wp2_with (go_at_call 128; refine (actName_any _ _).mono ?_; rw [hx]; rintro r w' ⟨rfl, hw⟩; obtain rfl := hw.symm)
          go_ret
          exact ⟨by rw [HF.out]; rfl, rfl⟩
        | true =>
          have HF : Hid (Ac.rising z (zs.drop (j + 1)) = Ac.rising (-1) zs) := (by rw [← HB.out, HX.out, if_neg (by simp [h1, hx])] : Ac.rising z (zs.drop (j + 1)) = Ac.rising (-1) zs)
          go_wp2_with (go_at_call 128; refine (actName_any _ _).mono ?_; rw [hx]; rintro r w' ⟨rfl, hw⟩; obtain rfl := hw.symm)
          go_roundg (n - (j + 1))
          case measure => omega
          case rel => exact ⟨j + 1, z, rfl, by omega, by go_num, rfl, HF.out, rfl⟩
    · have q1 : ¬ (j : Int) < (n : Int) := by omega
      have HF : Hid (Ac.rising (-1) zs = true) := (by rw [← HB.out, List.drop_eq_nil_of_le (by have := HH.out.2; omega)]; rfl : Ac.rising (-1) zs = true)
      go_wp2_with fail
      go_ret
      exact ⟨by rw [HF.out]; rfl, rfl⟩
end Go.Proofs.YthnenpncajpibaaGreatDoor
/- Terms: plain, as values, in memory; contracts of the smallest functions of package term. -/
namespace Go.Proofs.YthnenpncajpibaaGreatDoor
open Go.RowKit Go.Maps
/-- A term, plain. -/
structure Tm where
  kind : Int
  label : Int
  a : Int
  b : Int
  names : List Int
  pairs : List (Int × Int)
namespace Tm
def has (n : Nat) (i : Int) : Bool := decide (0 ≤ i) && decide (i < (n : Int))
/-- Is the kind's own part right? -/
def right (n : Nat) (t : Tm) : Bool :=
  if t.kind = 1 then true
  else if t.kind = 2 then decide (0 ≤ t.label ∧ t.label < 201) && has n t.a
  else if t.kind = 3 ∨ t.kind = 4 then has n t.a && has n t.b
  else if t.kind = 5 then has n t.a && Ac.rising (-1) t.names
  else if t.kind = 6 then has n t.a && Ac.pairs (-1) t.pairs
  else if t.kind = 7 then decide (0 ≤ t.a ∧ t.a < 200)
  else false
/-- Is the rest zero? -/
def rest (t : Tm) : Bool :=
  (t.kind == 2 || t.label == 0) && (t.kind != 1 || t.a == 0) && (t.kind == 3 || t.kind == 4 || t.b == 0) && (t.kind == 5 || t.names.length == 0) && (t.kind == 6 || t.pairs.length == 0)
def may (n : Nat) (t : Tm) : Bool := right n t && rest t
def byteOf (z : Int) : UInt8 := UInt8.ofNat z.toNat
/-- The bytes of the key. -/
def lists (t : Tm) : List UInt8 := t.names.map byteOf ++ (t.pairs.map fun p => [byteOf p.1, byteOf p.2]).flatten
end Tm
/-- A term as a value. -/
def tmV (t : Tm) (vn vp : Value) : Value := .agg #[.int .i64 t.kind, .int .i64 t.label, .int .i64 t.a, .int .i64 t.b, vn, vp]
def tmC (t : Tm) (vn vp : Value) : List Value := [.int .i64 t.kind, .int .i64 t.label, .int .i64 t.a, .int .i64 t.b, vn, vp]
/-- The key of a term as a value. -/
def keyV (t : Tm) : Value := .agg #[.int .i64 t.kind, .int .i64 t.label, .int .i64 t.a, .int .i64 t.b, .string ⟨t.lists.toArray⟩]
theorem t_lt {w : World} {b : Nat} {o : Obj} (h : w.heap[b]? = some o) : b < w.heap.size := (Array.getElem?_eq_some_iff.1 h).1
theorem t_cells {w : World} {b : Nat} {x y : Value} {t : TypeId} (h : w.heap[b]? = some (.cells #[x, y] t (0, 0))) : w.cell? ⟨b, 0, none⟩ = some x ∧ w.cell? ⟨b, 1, none⟩ = some y := by
  constructor <;> simp [World.cell?, h]
/-- A fault of term that wraps this, in memory. -/
def TermFault (w : World) (b : Nat) (e : Value) : Prop := w.heap[b]? = some (.cells #[.string ⟨#[116, 101, 114, 109]⟩, .int .i64 0, .int .i64 0, e] 127 (0, 0))
def tFaultV (b : Nat) : Value := .iface 124 (.pointer (some ⟨b, 0, none⟩))
theorem tfault_any (T : TypeId) (u : Value) (w : World) : Calls Tryz.prog 81 #[.iface T u] w fun r w' => r = .returned (tFaultV w.heap.size) ∧ TermFault w' w.heap.size (.iface T u) ∧ Below w.heap.size w w' := by
  go_enter Tryz.func81, Tryz.ntmps81
  go_wp2
  go_ret
  exact ⟨rfl, (MapKept.heap_alloc w _).1, (Below.refl _ _).alloc (Nat.le_refl _) _⟩
theorem thas_any (b : Nat) (ao : Option Addr) (n cap : Nat) (i : Int) (w : World) (hc : w.cell? ⟨b, 0, none⟩ = some (.slice ao n cap)) :
    Calls Tryz.prog 86 #[.pointer (some ⟨b, 0, none⟩), .int .i64 i] w fun r w' => r = .returned (.bool (Tm.has n i)) ∧ w' = w := by
  by_cases h0 : 0 ≤ i
  · by_cases h1 : i < (n : Int)
    · have HF : Hid (Tm.has n i = true) := (by simp [Tm.has, h0, h1] : Tm.has n i = true)
      go_enter Tryz.func86, Tryz.ntmps86
      go_wp2
      go_ret
      exact ⟨by rw [HF.out]; rfl, rfl⟩
    · have HF : Hid (Tm.has n i = false) := (by simp [Tm.has, h1] : Tm.has n i = false)
      go_enter Tryz.func86, Tryz.ntmps86
      go_wp2
      go_ret
      exact ⟨by rw [HF.out]; rfl, rfl⟩
  · have HF : Hid (Tm.has n i = false) := (by simp [Tm.has, h0] : Tm.has n i = false)
    go_enter Tryz.func86, Tryz.ntmps86
    go_wp2
    go_ret
    exact ⟨by rw [HF.out]; rfl, rfl⟩
theorem tsize_any (b : Nat) (ao : Option Addr) (n cap : Nat) (w : World) (hc : w.cell? ⟨b, 0, none⟩ = some (.slice ao n cap)) :
    Calls Tryz.prog 21 #[.pointer (some ⟨b, 0, none⟩)] w fun r w' => r = .returned (.int .i64 n) ∧ w' = w := by
  go_enter Tryz.func21, Tryz.ntmps21
  go_wp2
  go_ret
  exact ⟨rfl, rfl⟩
theorem lacks_no (b : Nat) (ao : Option Addr) (n cap : Nat) (i : Int) (w : World) (hc : w.cell? ⟨b, 0, none⟩ = some (.slice ao n cap)) (hi : Tm.has n i = true) :
    Calls Tryz.prog 26 #[.pointer (some ⟨b, 0, none⟩), .int .i64 i] w fun r w' => r = .returned .nilIface ∧ w' = w := by
  have hH := thas_any b ao n cap i w hc
  rw [hi] at hH
  go_enter Tryz.func26, Tryz.ntmps26
  go_wp2_with (go_at_call 86; refine hH.mono ?_; rintro r w' ⟨rfl, hw⟩; obtain rfl := hw.symm)
  go_ret
  exact ⟨rfl, rfl⟩
theorem lacks_yes (b : Nat) (ao : Option Addr) (n cap : Nat) (i : Int) (T : TypeId) (u : Value) (w : World) (hc : w.cell? ⟨b, 0, none⟩ = some (.slice ao n cap)) (hi : Tm.has n i = false) (hI : w.cell? ⟨1, 0, none⟩ = some (.iface T u)) :
    Calls Tryz.prog 26 #[.pointer (some ⟨b, 0, none⟩), .int .i64 i] w fun r w' => r = .returned (tFaultV w.heap.size) ∧ TermFault w' w.heap.size (.iface T u) ∧ Below w.heap.size w w' := by
  have hH := thas_any b ao n cap i w hc
  rw [hi] at hH
  go_enter Tryz.func26, Tryz.ntmps26
  go_wp2_with (first | (go_at_call 86; refine hH.mono ?_; rintro r w' ⟨rfl, hw⟩; obtain rfl := hw.symm) | (go_at_call 81; refine (tfault_any _ _ _).mono ?_; rintro r w' ⟨rfl, hF, hb⟩))
  go_ret
  exact ⟨rfl, hF, hb⟩
theorem lacks_nil (i : Int) (T : TypeId) (u : Value) (w : World) (hI : w.cell? ⟨0, 0, none⟩ = some (.iface T u)) :
    Calls Tryz.prog 26 #[.pointer none, .int .i64 i] w fun r w' => r = .returned (tFaultV w.heap.size) ∧ TermFault w' w.heap.size (.iface T u) ∧ Below w.heap.size w w' := by
  go_enter Tryz.func26, Tryz.ntmps26
  go_wp2_with (go_at_call 81; refine (tfault_any _ _ _).mono ?_; rintro r w' ⟨rfl, hF, hb⟩)
  go_ret
  exact ⟨rfl, hF, hb⟩
end Go.Proofs.YthnenpncajpibaaGreatDoor
/- Contract of the store's mayPut. -/
namespace Go.Proofs.YthnenpncajpibaaGreatDoor
open Go.RowKit Go.Maps
theorem nat_beq0 (k : Nat) : ((k : Int) == 0) = (k == 0) := by
  rw [Bool.eq_iff_iff]; simp
theorem bcell {W w1 : World} (hb : Below W.heap.size W w1) : (∀ b o, b < W.heap.size → w1.cell? ⟨b, o, none⟩ = W.cell? ⟨b, o, none⟩) ∧ (∀ b o, b < W.heap.size → w1.frozen? ⟨b, o, none⟩ = W.frozen? ⟨b, o, none⟩) :=
  ⟨fun b o h => hb.cell (p := ⟨b, o, none⟩) h, fun b o h => hb.frozen (p := ⟨b, o, none⟩) h⟩
theorem cell_up {w W : World} {b o : Nat} {v : Value} (hc : w.cell? ⟨b, o, none⟩ = some v) (hb : Below w.heap.size w W) : W.cell? ⟨b, o, none⟩ = some v := (hb.cell (World.block_lt_of_cell? w _ hc)).trans hc
set_option maxRecDepth 100000 in
set_option maxHeartbeats 1000000 in
theorem may1 (b : Nat) (l a b' : Int) (an ap : Option Addr) (nn np cn cp : Nat) (w : World) :
    Calls Tryz.prog 80 #[.pointer (some ⟨b, 0, none⟩), .agg #[.int .i64 1, .int .i64 l, .int .i64 a, .int .i64 b', .slice an nn cn, .slice ap np cp]] w fun r w' => r = .returned (.bool (l == 0 && (a == 0 && (b' == 0 && (nn == 0 && np == 0))))) ∧ Below w.heap.size w w' := by
  go_enter Tryz.func80, Tryz.ntmps80
  go_wp2_with fail
  go_region
  all_goals go_wp2_with (fail)
  all_goals (go_ret; have nb := nat_beq0; refine ⟨?_, (by repeat (first | exact Below.refl _ _ | assumption | refine Below.drew ?_ | refine Below.setCell ?_ (by simp) _ | refine Below.alloc ?_ (by simp) _))⟩; first | (simp [*]; done) | (simp [*]; omega))
set_option maxRecDepth 100000 in
set_option maxHeartbeats 1000000 in
theorem may2 (b : Nat) (ao : Option Addr) (n cap : Nat) (l a b' : Int) (an ap : Option Addr) (nn np cn cp : Nat) (w : World) (hc : w.cell? ⟨b, 0, none⟩ = some (.slice ao n cap)) :
    Calls Tryz.prog 80 #[.pointer (some ⟨b, 0, none⟩), .agg #[.int .i64 2, .int .i64 l, .int .i64 a, .int .i64 b', .slice an nn cn, .slice ap np cp]] w fun r w' => r = .returned (.bool (decide (0 ≤ l) && (decide (l < 201) && (Tm.has n a && (b' == 0 && (nn == 0 && np == 0)))))) ∧ Below w.heap.size w w' := by
  go_enter Tryz.func80, Tryz.ntmps80
  go_wp2_with fail
  go_region
  all_goals go_wp2_with ((go_at_call 86; refine (thas_any b ao n cap _ _ (cell_up hc (by repeat (first | exact Below.refl _ _ | assumption | refine Below.drew ?_ | refine Below.setCell ?_ (by simp) _ | refine Below.alloc ?_ (by simp) _)))).mono ?_; rintro r w' ⟨rfl, hw⟩; obtain rfl := hw.symm))
  all_goals (go_ret; have nb := nat_beq0; refine ⟨?_, (by repeat (first | exact Below.refl _ _ | assumption | refine Below.drew ?_ | refine Below.setCell ?_ (by simp) _ | refine Below.alloc ?_ (by simp) _))⟩; first | (simp [*]; done) | (simp [*]; omega))
set_option maxRecDepth 100000 in
set_option maxHeartbeats 1000000 in
theorem may3 (b : Nat) (ao : Option Addr) (n cap : Nat) (l a b' : Int) (an ap : Option Addr) (nn np cn cp : Nat) (w : World) (hc : w.cell? ⟨b, 0, none⟩ = some (.slice ao n cap)) :
    Calls Tryz.prog 80 #[.pointer (some ⟨b, 0, none⟩), .agg #[.int .i64 3, .int .i64 l, .int .i64 a, .int .i64 b', .slice an nn cn, .slice ap np cp]] w fun r w' => r = .returned (.bool (Tm.has n a && (Tm.has n b' && (l == 0 && (nn == 0 && np == 0))))) ∧ Below w.heap.size w w' := by
  go_enter Tryz.func80, Tryz.ntmps80
  go_wp2_with fail
  go_region
  all_goals go_wp2_with ((go_at_call 86; refine (thas_any b ao n cap _ _ (cell_up hc (by repeat (first | exact Below.refl _ _ | assumption | refine Below.drew ?_ | refine Below.setCell ?_ (by simp) _ | refine Below.alloc ?_ (by simp) _)))).mono ?_; rintro r w' ⟨rfl, hw⟩; obtain rfl := hw.symm))
  all_goals (go_ret; have nb := nat_beq0; refine ⟨?_, (by repeat (first | exact Below.refl _ _ | assumption | refine Below.drew ?_ | refine Below.setCell ?_ (by simp) _ | refine Below.alloc ?_ (by simp) _))⟩; first | (simp [*]; done) | (simp [*]; omega))
set_option maxRecDepth 100000 in
set_option maxHeartbeats 1000000 in
theorem may4 (b : Nat) (ao : Option Addr) (n cap : Nat) (l a b' : Int) (an ap : Option Addr) (nn np cn cp : Nat) (w : World) (hc : w.cell? ⟨b, 0, none⟩ = some (.slice ao n cap)) :
    Calls Tryz.prog 80 #[.pointer (some ⟨b, 0, none⟩), .agg #[.int .i64 4, .int .i64 l, .int .i64 a, .int .i64 b', .slice an nn cn, .slice ap np cp]] w fun r w' => r = .returned (.bool (Tm.has n a && (Tm.has n b' && (l == 0 && (nn == 0 && np == 0))))) ∧ Below w.heap.size w w' := by
  go_enter Tryz.func80, Tryz.ntmps80
  go_wp2_with fail
  go_region
  all_goals go_wp2_with ((go_at_call 86; refine (thas_any b ao n cap _ _ (cell_up hc (by repeat (first | exact Below.refl _ _ | assumption | refine Below.drew ?_ | refine Below.setCell ?_ (by simp) _ | refine Below.alloc ?_ (by simp) _)))).mono ?_; rintro r w' ⟨rfl, hw⟩; obtain rfl := hw.symm))
  all_goals (go_ret; have nb := nat_beq0; refine ⟨?_, (by repeat (first | exact Below.refl _ _ | assumption | refine Below.drew ?_ | refine Below.setCell ?_ (by simp) _ | refine Below.alloc ?_ (by simp) _))⟩; first | (simp [*]; done) | (simp [*]; omega))
set_option maxRecDepth 100000 in
set_option maxHeartbeats 1000000 in
theorem may5 (b : Nat) (ao : Option Addr) (n cap : Nat) (l a b' : Int) (an ap : Option Addr) (nn np cn cp : Nat) (w : World) (hc : w.cell? ⟨b, 0, none⟩ = some (.slice ao n cap)) (c : Bool) (hR : ∀ W, Below w.heap.size w W → Calls Tryz.prog 110 #[.slice an nn cn] W fun e w' => e = .returned (.bool c) ∧ w' = W) :
    Calls Tryz.prog 80 #[.pointer (some ⟨b, 0, none⟩), .agg #[.int .i64 5, .int .i64 l, .int .i64 a, .int .i64 b', .slice an nn cn, .slice ap np cp]] w fun r w' => r = .returned (.bool (Tm.has n a && (c && (l == 0 && (b' == 0 && np == 0))))) ∧ Below w.heap.size w w' := by
  have HR : Hid _ := hR
  clear hR
  go_enter Tryz.func80, Tryz.ntmps80
  go_wp2_with fail
  go_region
  all_goals go_wp2_with (first | (go_at_call 86; refine (thas_any b ao n cap _ _ (cell_up hc (by repeat (first | exact Below.refl _ _ | assumption | refine Below.drew ?_ | refine Below.setCell ?_ (by simp) _ | refine Below.alloc ?_ (by simp) _)))).mono ?_; rintro r w' ⟨rfl, hw⟩; obtain rfl := hw.symm) | (go_at_call 110; refine (HR.out _ (by repeat (first | exact Below.refl _ _ | assumption | refine Below.drew ?_ | refine Below.setCell ?_ (by simp) _ | refine Below.alloc ?_ (by simp) _))).mono ?_; rintro r w' ⟨rfl, hw⟩; obtain rfl := hw.symm))
  all_goals (go_ret; have nb := nat_beq0; refine ⟨?_, (by repeat (first | exact Below.refl _ _ | assumption | refine Below.drew ?_ | refine Below.setCell ?_ (by simp) _ | refine Below.alloc ?_ (by simp) _))⟩; first | (simp [*]; done) | (simp [*]; omega))
set_option maxRecDepth 100000 in
set_option maxHeartbeats 1000000 in
theorem may6 (b : Nat) (ao : Option Addr) (n cap : Nat) (l a b' : Int) (an ap : Option Addr) (nn np cn cp : Nat) (w : World) (hc : w.cell? ⟨b, 0, none⟩ = some (.slice ao n cap)) (c : Bool) (hR : ∀ W, Below w.heap.size w W → Calls Tryz.prog 111 #[.slice ap np cp] W fun e w' => e = .returned (.bool c) ∧ Below W.heap.size W w') :
    Calls Tryz.prog 80 #[.pointer (some ⟨b, 0, none⟩), .agg #[.int .i64 6, .int .i64 l, .int .i64 a, .int .i64 b', .slice an nn cn, .slice ap np cp]] w fun r w' => r = .returned (.bool (Tm.has n a && (c && (l == 0 && (b' == 0 && nn == 0))))) ∧ Below w.heap.size w w' := by
  have HR : Hid _ := hR
  clear hR
  go_enter Tryz.func80, Tryz.ntmps80
  go_wp2_with fail
  go_region
  all_goals go_wp2_with (first | (go_at_call 86; refine (thas_any b ao n cap _ _ (cell_up hc (by repeat (first | exact Below.refl _ _ | assumption | refine Below.drew ?_ | refine Below.setCell ?_ (by simp) _ | refine Below.alloc ?_ (by simp) _)))).mono ?_; rintro r w' ⟨rfl, hw⟩; obtain rfl := hw.symm) | (go_at_call 111; refine (HR.out _ (by repeat (first | exact Below.refl _ _ | assumption | refine Below.drew ?_ | refine Below.setCell ?_ (by simp) _ | refine Below.alloc ?_ (by simp) _))).mono ?_; rintro r w6 ⟨rfl, hb6⟩; obtain ⟨hc6, hf6⟩ := bcell hb6; have hz6 : w.heap.size + 1 < w6.heap.size := (by have := hb6.size; simp at this; omega); have hB6 : Below w.heap.size w w6 := Below.trans (by repeat (first | exact Below.refl _ _ | assumption | refine Below.drew ?_ | refine Below.setCell ?_ (by simp) _ | refine Below.alloc ?_ (by simp) _)) (hb6.mono (by simp; omega))))
  all_goals (go_ret; have nb := nat_beq0; refine ⟨?_, (by repeat (first | exact Below.refl _ _ | assumption | refine Below.drew ?_ | refine Below.setCell ?_ (by simp) _ | refine Below.alloc ?_ (by simp) _))⟩; first | (simp [*]; done) | (simp [*]; omega))
set_option maxRecDepth 100000 in
set_option maxHeartbeats 1000000 in
theorem may7 (b : Nat) (l a b' : Int) (an ap : Option Addr) (nn np cn cp : Nat) (w : World) :
    Calls Tryz.prog 80 #[.pointer (some ⟨b, 0, none⟩), .agg #[.int .i64 7, .int .i64 l, .int .i64 a, .int .i64 b', .slice an nn cn, .slice ap np cp]] w fun r w' => r = .returned (.bool (decide (0 ≤ a) && (decide (a < 200) && (l == 0 && (b' == 0 && (nn == 0 && np == 0)))))) ∧ Below w.heap.size w w' := by
  go_enter Tryz.func80, Tryz.ntmps80
  go_wp2_with fail
  go_region
  all_goals go_wp2_with (fail)
  all_goals (go_ret; have nb := nat_beq0; refine ⟨?_, (by repeat (first | exact Below.refl _ _ | assumption | refine Below.drew ?_ | refine Below.setCell ?_ (by simp) _ | refine Below.alloc ?_ (by simp) _))⟩; first | (simp [*]; done) | (simp [*]; omega))
set_option maxRecDepth 100000 in
set_option maxHeartbeats 1000000 in
theorem may0 (b : Nat) (k : Int) (l a b' : Int) (an ap : Option Addr) (nn np cn cp : Nat) (w : World) (h1 : (k == 1) = false) (h2 : (k == 2) = false) (h3 : (k == 3) = false) (h4 : (k == 4) = false) (h5 : (k == 5) = false) (h6 : (k == 6) = false) (h7 : (k == 7) = false) :
    Calls Tryz.prog 80 #[.pointer (some ⟨b, 0, none⟩), .agg #[.int .i64 k, .int .i64 l, .int .i64 a, .int .i64 b', .slice an nn cn, .slice ap np cp]] w fun r w' => r = .returned (.bool (false)) ∧ Below w.heap.size w w' := by
  go_enter Tryz.func80, Tryz.ntmps80
  go_wp2_with fail
  go_region
  all_goals go_wp2_with (fail)
  all_goals (go_ret; have nb := nat_beq0; refine ⟨?_, (by repeat (first | exact Below.refl _ _ | assumption | refine Below.drew ?_ | refine Below.setCell ?_ (by simp) _ | refine Below.alloc ?_ (by simp) _))⟩; first | (simp [*]; done) | (simp [*]; omega))
theorem mayPut_any (b : Nat) (ao : Option Addr) (n cap : Nat) (t : Tm) (vn vp : Value) (w : World) (hc : w.cell? ⟨b, 0, none⟩ = some (.slice ao n cap)) (hn : HasI w vn t.names) (hp : HasP w vp t.pairs) (ln : t.names.length ≤ maxLen) (lp : t.pairs.length ≤ maxLen) :
    Calls Tryz.prog 80 #[.pointer (some ⟨b, 0, none⟩), tmV t vn vp] w fun r w' => r = .returned (.bool (t.may n)) ∧ Below w.heap.size w w' := by
  have hR : ∀ W, Below w.heap.size w W → Calls Tryz.prog 110 #[vn] W fun e w' => e = .returned (.bool (Ac.rising (-1) t.names)) ∧ w' = W := fun W hW => rising_any vn t.names W (hn.below hW) ln
  have hP : ∀ W, Below w.heap.size w W → Calls Tryz.prog 111 #[vp] W fun e w' => e = .returned (.bool (Ac.pairs (-1) t.pairs)) ∧ Below W.heap.size W w' := fun W hW => pairs_any vp t.pairs W (hp.below hW) lp
  obtain ⟨an, cn, rfl, _⟩ := hn
  obtain ⟨ap, cp, rfl, _⟩ := hp
  obtain ⟨k, l, a, b', names, pairs⟩ := t
  simp only at hR hP ⊢
  unfold tmV
  by_cases h1 : k = 1
  · subst h1
    refine (may1 b l a b' an ap _ _ cn cp w).mono ?_
    rintro r w' ⟨rfl, hb⟩
    exact ⟨by simp [Tm.may, Tm.right, Tm.rest, Bool.and_assoc], hb⟩
  by_cases h2 : k = 2
  · subst h2
    refine (may2 b ao n cap l a b' an ap _ _ cn cp w hc).mono ?_
    rintro r w' ⟨rfl, hb⟩
    exact ⟨by simp [Tm.may, Tm.right, Tm.rest, Bool.and_assoc], hb⟩
  by_cases h3 : k = 3
  · subst h3
    refine (may3 b ao n cap l a b' an ap _ _ cn cp w hc).mono ?_
    rintro r w' ⟨rfl, hb⟩
    exact ⟨by simp [Tm.may, Tm.right, Tm.rest, Bool.and_assoc], hb⟩
  by_cases h4 : k = 4
  · subst h4
    refine (may4 b ao n cap l a b' an ap _ _ cn cp w hc).mono ?_
    rintro r w' ⟨rfl, hb⟩
    exact ⟨by simp [Tm.may, Tm.right, Tm.rest, Bool.and_assoc], hb⟩
  by_cases h5 : k = 5
  · subst h5
    refine (may5 b ao n cap l a b' an ap _ _ cn cp w hc _ hR).mono ?_
    rintro r w' ⟨rfl, hb⟩
    exact ⟨by simp [Tm.may, Tm.right, Tm.rest, Bool.and_assoc], hb⟩
  by_cases h6 : k = 6
  · subst h6
    refine (may6 b ao n cap l a b' an ap _ _ cn cp w hc _ hP).mono ?_
    rintro r w' ⟨rfl, hb⟩
    exact ⟨by simp [Tm.may, Tm.right, Tm.rest, Bool.and_assoc], hb⟩
  by_cases h7 : k = 7
  · subst h7
    refine (may7 b l a b' an ap _ _ cn cp w).mono ?_
    rintro r w' ⟨rfl, hb⟩
    exact ⟨by simp [Tm.may, Tm.right, Tm.rest, Bool.and_assoc], hb⟩
  refine (may0 b k l a b' an ap _ _ cn cp w (by simpa using h1) (by simpa using h2) (by simpa using h3) (by simpa using h4) (by simpa using h5) (by simpa using h6) (by simpa using h7)).mono ?_
  rintro r w' ⟨rfl, hb⟩
  exact ⟨by simp [Tm.may, Tm.right, *], hb⟩
end Go.Proofs.YthnenpncajpibaaGreatDoor
/- Contract of term.keyOf. -/
namespace Go.Proofs.YthnenpncajpibaaGreatDoor
open Go.RowKit Go.Maps
theorem Tryz.infoB : (Tryz.prog.info? 5).map (fun i => (i.zero, i.size, i.bytes)) = some (some (.int .u8 0), 1, 1) := by kernel_rfl
def bC (l : List UInt8) : List Value := l.map fun b => .int .u8 b.toNat
theorem bC_length (l : List UInt8) : (bC l).length = l.length := by simp [bC]
theorem bC_append (l m : List UInt8) : bC (l ++ m) = bC l ++ bC m := by simp [bC]
theorem u8_one (z : Int) : ∀ u ∈ [Value.int .u8 z], u.oneCell' = true := fun u hu => by
  rw [List.mem_singleton.1 hu]; rfl
theorem u8_two (y z : Int) : ∀ u ∈ [Value.int .u8 y, Value.int .u8 z], u.oneCell' = true := fun u hu => by
  rcases List.mem_cons.1 hu with rfl | hu
  · rfl
  · rw [List.mem_singleton.1 hu]; rfl
theorem byteOf_toNat {z : Int} (h0 : 0 ≤ z) (h1 : z ≤ 255) : ((Tm.byteOf z).toNat : Int) = z := by
  unfold Tm.byteOf
  have : (UInt8.ofNat z.toNat).toNat = z.toNat := by
    rw [UInt8.toNat_ofNat']; omega
  omega
theorem bC_byte {z : Int} (h0 : 0 ≤ z) (h1 : z ≤ 255) : bC [Tm.byteOf z] = [.int .u8 z] := by
  simp only [bC, List.map_cons, List.map_nil, byteOf_toNat h0 h1]
theorem bC_bytes {y z : Int} (h0 : 0 ≤ y) (h1 : y ≤ 255) (h2 : 0 ≤ z) (h3 : z ≤ 255) : bC [Tm.byteOf y, Tm.byteOf z] = [.int .u8 y, .int .u8 z] := by
  simp only [bC, List.map_cons, List.map_nil, byteOf_toNat h0 h1, byteOf_toNat h2 h3]
theorem two_new2 (w : World) (o : Obj) (x y : Value) (t : TypeId) : ∀ j u, [x, y][j]? = some u → ((w.alloc o).alloc (.cells #[x, y] t)).cell? ((⟨w.heap.size + 1, 0, none⟩ : Addr).add j) = some u := by
  intro j u h
  have hb := (MapKept.heap_alloc (w.alloc o) (.cells #[x, y] t)).1
  have e : (⟨w.heap.size + 1, 0, none⟩ : Addr).add j = ⟨w.heap.size + 1, j, none⟩ := by unfold Addr.add; split <;> simp_all
  have hs : (w.alloc o).heap.size = w.heap.size + 1 := by simp
  rw [hs] at hb
  rw [e, ← h]
  simp only [World.cell?, hb]
  rcases j with _ | _ | j <;> rfl
theorem conv_row {W : World} {base : Nat} {v : Value} {l : List UInt8} (h : W.ownsRow base 5 1 v l.length (bC l)) : (convert 163 9 v).run Tryz.prog W = .ok (.string ⟨l.toArray⟩) W := by
  rcases h.2 with ⟨rfl, h0⟩ | ⟨g, cap, cur, rfl, _⟩
  · obtain rfl : l = [] := List.eq_nil_of_length_eq_zero h0
    rw [run_convert_bytes_nil W _ _ Tryz.underlying163 Tryz.underlying5 _ _ _ Tryz.underlying9]
    rfl
  · refine run_convert_bytes_back W _ _ _ ⟨g, 0, none⟩ cap l Tryz.underlying163 Tryz.underlying5 Tryz.underlying9 fun j hj => ?_
    have e : (⟨g, 0, none⟩ : Addr).add j = ⟨g, j, none⟩ := by unfold Addr.add; split <;> simp_all
    rw [e, h.cellAt j (by simpa using hj)]
    simp [bC, hj]
theorem take_succ_of {α : Type} {l : List α} {j : Nat} {x : α} (h : l[j]? = some x) : l.take (j + 1) = l.take j ++ [x] := by
  obtain ⟨hlt, rfl⟩ := List.getElem?_eq_some_iff.1 h
  exact List.take_succ_eq_append_getElem hlt
namespace Tm
def nB (ns : List Int) : List UInt8 := ns.map byteOf
def pB (ps : List (Int × Int)) : List UInt8 := (ps.map fun p => [byteOf p.1, byteOf p.2]).flatten
theorem nB_length (ns : List Int) : (nB ns).length = ns.length := by simp [nB]
theorem pB_length (ps : List (Int × Int)) : (pB ps).length = ps.length * 2 := by
  induction ps with
  | nil => rfl
  | cons p r ih =>
    have : pB (p :: r) = [byteOf p.1, byteOf p.2] ++ pB r := by simp [pB]
    rw [this, List.length_append, ih]; simp; omega
theorem nB_snoc (ns : List Int) (z : Int) : nB (ns ++ [z]) = nB ns ++ [byteOf z] := by simp [nB]
theorem pB_snoc (ps : List (Int × Int)) (p : Int × Int) : pB (ps ++ [p]) = pB ps ++ [byteOf p.1, byteOf p.2] := by simp [pB]
theorem lists_eq (t : Tm) : t.lists = nB t.names ++ pB t.pairs := rfl
end Tm
/-- The bytes so far, in a row of their own above what was there. -/
structure KeyIn (W0 wr : World) (v : Value) (l : List UInt8) : Prop where
  row : wr.ownsRow W0.heap.size 5 1 v l.length (bC l)
  bl : Below W0.heap.size W0 wr
theorem KeyIn.next {W0 wr w2 : World} {v v' : Value} {l m : List UInt8} {o : Obj} (h : KeyIn W0 wr v l) (hown : w2.ownsRow W0.heap.size 5 1 v' (l.length + m.length) (bC l ++ bC m)) (hg : (wr.alloc o).grownBy w2 v.ownBlock) : KeyIn W0 w2 v' (l ++ m) :=
  ⟨by rw [List.length_append, bC_append]; exact hown, (h.bl.alloc h.bl.size o).grown hg (by have := h.bl.size; simp; omega) (fun k hk => (h.row.lt k hk).1)⟩
theorem KeyIn.alloc {W0 wr : World} {v : Value} {l : List UInt8} (h : KeyIn W0 wr v l) (o : Obj) : KeyIn W0 (wr.alloc o) v l := ⟨h.row.alloc o, h.bl.alloc h.bl.size o⟩
/-- The two boxes of the call. -/
def keyW (t : Tm) (vn vp : Value) (w : World) : World := (w.alloc (.cells #[.int .i64 t.kind, .int .i64 t.label, .int .i64 t.a, .int .i64 t.b, vn, vp] 35)).alloc (.cells #[.int .i64 0, .int .i64 0, .int .i64 0, .int .i64 0, .string ⟨#[]⟩] 115)
theorem keyW_size (t : Tm) (vn vp : Value) (w : World) : (keyW t vn vp w).heap.size = w.heap.size + 2 := by simp [keyW]
theorem keyW_below (t : Tm) (vn vp : Value) (w : World) : Below w.heap.size w (keyW t vn vp w) := by unfold keyW; exact (by repeat (first | exact Below.refl _ _ | assumption | refine Below.drew ?_ | refine Below.setCell ?_ (by simp) _ | refine Below.alloc ?_ (by simp) _))
theorem keyW_box (t : Tm) (vn vp : Value) (w : World) : (keyW t vn vp w).heap[w.heap.size]? = some (.cells #[.int .i64 t.kind, .int .i64 t.label, .int .i64 t.a, .int .i64 t.b, vn, vp] 35 (0, 0)) := by
  unfold keyW
  rw [Below.heap_alloc _ _ _ (by simp)]
  exact (MapKept.heap_alloc w _).1
theorem keyW_res (t : Tm) (vn vp : Value) (w : World) : (keyW t vn vp w).heap[w.heap.size + 1]? = some (.cells #[.int .i64 0, .int .i64 0, .int .i64 0, .int .i64 0, .string ⟨#[]⟩] 115 (0, 0)) := by
  unfold keyW
  have h := (MapKept.heap_alloc (w.alloc (.cells #[.int .i64 t.kind, .int .i64 t.label, .int .i64 t.a, .int .i64 t.b, vn, vp] 35)) (.cells #[.int .i64 0, .int .i64 0, .int .i64 0, .int .i64 0, .string ⟨#[]⟩] 115)).1
  simpa using h
theorem tb_cell {w : World} {B : Nat} {cs : Array Value} {t : TypeId} {f : Nat × Nat} (h : w.heap[B]? = some (.cells cs t f)) (k : Nat) : w.cell? ⟨B, k, none⟩ = cs[k]? := by
  simp [World.cell?, h]
theorem blk_free {w : World} {b : Nat} {cs : Array Value} {t : TypeId} (h : w.heap[b]? = some (.cells cs t (0, 0))) (k : Nat) : w.frozen? ⟨b, k, none⟩ = false := by simp [World.frozen?, h]
set_option maxRecDepth 100000 in
set_option maxHeartbeats 1000000 in
theorem keyOf_any (t : Tm) (vn vp : Value) (w : World) (hn : HasI w vn t.names) (hp : HasP w vp t.pairs) (ln : t.names.length ≤ 1000) (lp : t.pairs.length ≤ 1000) (hr : ∀ z ∈ t.names, 0 ≤ z ∧ z ≤ 255) (hq : ∀ p ∈ t.pairs, (0 ≤ p.1 ∧ p.1 ≤ 255) ∧ (0 ≤ p.2 ∧ p.2 ≤ 255)) :
    Calls Tryz.prog 82 #[tmV t vn vp] w fun r w' => r = .returned (keyV t) ∧ Below w.heap.size w w' := by
  obtain ⟨an, cn, rfl, hcn⟩ := hn
  obtain ⟨ap, cp, rfl, hcp⟩ := hp
  obtain ⟨i0, hi0, hz0, hz1, hz2⟩ := info_parts Tryz.infoB
  unfold tmV
  obtain ⟨n, hN⟩ : ∃ n, n = t.names.length := ⟨_, rfl⟩
  obtain ⟨m, hM⟩ : ∃ m, m = t.pairs.length := ⟨_, rfl⟩
  rw [← hN, ← hM]
  have HN : Hid _ := And.intro hcn (And.intro hN hr)
  have HP : Hid _ := And.intro hcp (And.intro hM hq)
  rw [← hN] at ln
  rw [← hM] at lp
  clear hcn hcp hN hM hr hq
  obtain ⟨W0, hW0⟩ : ∃ W0, W0 = keyW t (.slice an n cn) (.slice ap m cp) w := ⟨_, rfl⟩
  have HS : Hid (W0.heap.size = w.heap.size + 2) := (by rw [hW0]; exact keyW_size _ _ _ _ : W0.heap.size = w.heap.size + 2)
  have HB0 : Hid (Below w.heap.size w W0) := (by rw [hW0]; exact keyW_below _ _ _ _ : Below w.heap.size w W0)
  have HX : Hid _ := keyW_box t (.slice an n cn) (.slice ap m cp) w
  have HY : Hid _ := keyW_res t (.slice an n cn) (.slice ap m cp) w
  rw [← hW0] at HX HY
  have HW : Hid (W0 = keyW t (.slice an n cn) (.slice ap m cp) w) := hW0
  clear hW0
  go_enter Tryz.func82, Tryz.ntmps82
  go_wp2_with fail
  go_loopg [3, 11] n (fun g v i wr => ∃ j : Nat, g = n - j ∧ j ≤ n ∧ i = .int .i64 j ∧ KeyIn W0 wr v (Tm.nB (t.names.take j)))
  case atStart => exact ⟨0, rfl, Nat.zero_le _, rfl, by rw [HW.out]; exact ⟨World.ownsRow_nil _ _ _ _, Below.refl _ _⟩⟩
  case round =>
    obtain ⟨j, rfl, hj, rfl, hK⟩ := hrel
    have HK : Hid _ := hK
    have hwl := hK.bl.size
    by_cases hlt : j < n
    · obtain ⟨z, hz⟩ : ∃ z, t.names[j]? = some z := ⟨t.names[j]'(by have := HN.out.2.1; omega), List.getElem?_eq_getElem _⟩
      obtain ⟨a, rfl, c0⟩ := HN.out.1 j z hz
      obtain ⟨z0, z1⟩ := HN.out.2.2 z (List.mem_of_getElem? hz)
      have d0 : wr.cell? (a.add j) = some (.int .i64 z) := (hK.bl.cell (by have := World.block_lt_of_cell? w _ c0; have := HS.out; omega)).trans ((HB0.out.cell (World.block_lt_of_cell? w _ c0)).trans c0)
      have HT : Hid (Tm.nB (t.names.take (j + 1)) = Tm.nB (t.names.take j) ++ [Tm.byteOf z]) := (by rw [take_succ_of hz, Tm.nB_snoc] : _ = _)
      have hlen : (Tm.nB (t.names.take j)).length = j := by rw [Tm.nB_length, List.length_take, ← HN.out.2.1]; omega
      have hml : (Tm.nB (t.names.take j)).length + 1 ≤ maxLen := by unfold maxLen; omega
      have hby : ((Tm.nB (t.names.take j)).length + 1) * 1 ≤ 140737488355328 := by omega
      have hbs : W0.heap.size ≤ (wr.alloc (.cells #[.int .u8 z] 5)).heap.size := by simp; omega
      have q0 : (0 : Int) ≤ (j : Int) := by omega
      have q1 : (j : Int) < (n : Int) := by omega
      clear hz c0 hK hlen
      go_wp2_with (at_builtin; refine wpList_append_own_at _ rfl _ _ 163 rfl W0.heap.size 5 i0 (.int .u8 0) 1 1 Tryz.underlying163 hi0 hz0 hz1 hz2 rfl (by decide) _ _ _ rfl (HK.out.row.alloc _) ⟨wr.heap.size, 0, none⟩ 1 1 [.int .u8 z] rfl rfl (cell_one_new _ _ _) (u8_one z) hml hby hbs ?_; intro v' w2 hown' hgrow hnil hat; have H2 : Hid _ := And.intro hown' hgrow; clear hown' hgrow hat hnil)
      go_roundg (n - (j + 1))
      case measure => omega
      case rel => exact ⟨j + 1, rfl, by omega, by go_num, by rw [HT.out]; exact HK.out.next (m := [Tm.byteOf z]) (by rw [bC_byte z0 z1]; exact H2.out.1) H2.out.2⟩
    · obtain rfl : j = n := by omega
      have q1 : ¬ (j : Int) < (j : Int) := by omega
      have X := (hK.bl.block _ (by have := HS.out; omega)).trans HX.out
      have Y := (hK.bl.block _ (by have := HS.out; omega)).trans HY.out
      have x5 : wr.cell? ⟨w.heap.size, 5, none⟩ = some (.slice ap m cp) := tb_cell X 5
      have HK0 : Hid (KeyIn W0 wr u3 (Tm.nB t.names)) := (by rw [show t.names = t.names.take j from (List.take_of_length_le (by rw [← HN.out.2.1]; exact Nat.le_refl _)).symm]; exact hK : KeyIn W0 wr u3 (Tm.nB t.names))
      clear hK HK X Y
      go_wp2_with fail
      clear hwl
      go_loopg [3, 24] m (fun g v i wr => ∃ k : Nat, g = m - k ∧ k ≤ m ∧ i = .int .i64 k ∧ KeyIn W0 wr v (Tm.nB t.names ++ Tm.pB (t.pairs.take k)))
      case atStart => exact ⟨0, rfl, Nat.zero_le _, rfl, by simpa [Tm.pB] using HK0.out⟩
      case round =>
        obtain ⟨k, rfl, hk, rfl, hK⟩ := hrel
        have HK : Hid _ := hK
        have hwl := hK.bl.size
        clear HK0 x5
        by_cases hlt : k < m
        · obtain ⟨p, hp⟩ : ∃ p, t.pairs[k]? = some p := ⟨t.pairs[k]'(by have := HP.out.2.1; omega), List.getElem?_eq_getElem _⟩
          obtain ⟨a, rfl, c0, c1⟩ := HP.out.1 k p hp
          obtain ⟨⟨z0, z1⟩, z2, z3⟩ := HP.out.2.2 p (List.mem_of_getElem? hp)
          have up : ∀ {i : Nat} {v : Value}, w.cell? (a.add i) = some v → wr.cell? (a.add i) = some v := fun h => (hK.bl.cell (by have := World.block_lt_of_cell? w _ h; have := HS.out; omega)).trans ((HB0.out.cell (World.block_lt_of_cell? w _ h)).trans h)
          have d0 := up c0
          have d1 := up c1
          clear up c0 c1
          have HT : Hid (Tm.nB t.names ++ Tm.pB (t.pairs.take (k + 1)) = (Tm.nB t.names ++ Tm.pB (t.pairs.take k)) ++ [Tm.byteOf p.1, Tm.byteOf p.2]) := (by rw [take_succ_of hp, Tm.pB_snoc, List.append_assoc] : _ = _)
          obtain ⟨x, y⟩ := p
          have hlen : (Tm.nB t.names ++ Tm.pB (t.pairs.take k)).length = j + k * 2 := by rw [List.length_append, Tm.nB_length, Tm.pB_length, List.length_take, ← HN.out.2.1, ← HP.out.2.1, Nat.min_eq_left hk]
          have hml : (Tm.nB t.names ++ Tm.pB (t.pairs.take k)).length + 2 ≤ maxLen := by unfold maxLen; omega
          have hby : ((Tm.nB t.names ++ Tm.pB (t.pairs.take k)).length + 2) * 1 ≤ 140737488355328 := by omega
          have hbs : W0.heap.size ≤ ((wr.alloc (.cells #[.int .i64 x, .int .i64 y] 75)).alloc (.cells #[.int .u8 x, .int .u8 y] 5)).heap.size := by simp; omega
          have d2 : wr.cell? ((a.add (k * 2)).add 1) = some (.int .i64 y) := by rw [add_two]; exact d1
          have d3 : wr.cell? ⟨(a.add (k * 2)).block, (a.add (k * 2)).off + 1, none⟩ = some (.int .i64 y) := by rw [← d2]; rfl
          have q0 : (0 : Int) ≤ (k : Int) := by omega
          have q1 : (k : Int) < (m : Int) := by omega
          simp only at z0 z1 z2 z3 d0
          clear hp hK hlen
          go_wp2_with (at_builtin; refine wpList_append_own_at _ rfl _ _ 163 rfl W0.heap.size 5 i0 (.int .u8 0) 1 1 Tryz.underlying163 hi0 hz0 hz1 hz2 rfl (by decide) _ _ _ rfl ((HK.out.row.alloc _).alloc _) ⟨wr.heap.size + 1, 0, none⟩ 2 2 [.int .u8 x, .int .u8 y] rfl rfl (two_new2 _ _ _ _ _) (u8_two x y) hml hby hbs ?_; intro v' w2 hown' hgrow hnil hat; have H2 : Hid _ := And.intro hown' hgrow; clear hown' hgrow hat hnil)
          go_roundg (m - (k + 1))
          case measure => omega
          case rel => exact ⟨k + 1, rfl, by omega, by go_num, by rw [HT.out]; exact (HK.out.alloc _).next (m := [Tm.byteOf x, Tm.byteOf y]) (by rw [bC_bytes z0 z1 z2 z3]; exact H2.out.1) H2.out.2⟩
        · obtain rfl : k = m := by omega
          have q1 : ¬ (k : Int) < (k : Int) := by omega
          have HL : Hid (Tm.nB t.names ++ Tm.pB (t.pairs.take k) = t.lists) := (by rw [List.take_of_length_le (by rw [← HP.out.2.1]; exact Nat.le_refl _)]; rfl : _ = _)
          have X := (hK.bl.block _ (by have := HS.out; omega)).trans HX.out
          have Y := (hK.bl.block _ (by have := HS.out; omega)).trans HY.out
          have x0 : wr.cell? ⟨w.heap.size, 0, none⟩ = some (.int .i64 t.kind) := tb_cell X 0
          have x1 : wr.cell? ⟨w.heap.size, 1, none⟩ = some (.int .i64 t.label) := tb_cell X 1
          have x2 : wr.cell? ⟨w.heap.size, 2, none⟩ = some (.int .i64 t.a) := tb_cell X 2
          have x3 : wr.cell? ⟨w.heap.size, 3, none⟩ = some (.int .i64 t.b) := tb_cell X 3
          have y0 : wr.cell? ⟨w.heap.size + 1, 0, none⟩ = some (.int .i64 0) := tb_cell Y 0
          have y1 : wr.cell? ⟨w.heap.size + 1, 1, none⟩ = some (.int .i64 0) := tb_cell Y 1
          have y2 : wr.cell? ⟨w.heap.size + 1, 2, none⟩ = some (.int .i64 0) := tb_cell Y 2
          have y3 : wr.cell? ⟨w.heap.size + 1, 3, none⟩ = some (.int .i64 0) := tb_cell Y 3
          have y4 : wr.cell? ⟨w.heap.size + 1, 4, none⟩ = some (.string ⟨#[]⟩) := tb_cell Y 4
          have f0 := blk_free Y
          have hcv := conv_row hK.row
          rw [HL.out] at hcv
          have hbw : Below w.heap.size w wr := HB0.out.trans (hK.bl.mono (by have := HS.out; omega))
          have HF : Hid (Below w.heap.size w wr) := hbw
          clear hK HK X Y hbw hwl HL
          go_wp2_with fail
          have hB := HF.out
          exact bodyPost_ret (v := keyV t) (by simp [results, Tryz.results82, go_sem, keyV, *]) rfl ⟨rfl, (by repeat (first | exact Below.refl _ _ | assumption | refine Below.drew ?_ | refine Below.setCell ?_ (by simp) _ | refine Below.alloc ?_ (by simp) _))⟩
end Go.Proofs.YthnenpncajpibaaGreatDoor
