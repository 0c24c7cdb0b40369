/- Texts of this claim, joined: Label, Pairs, RefLab, Ints, TmMem, TmMay. -/
import Derived.Test.YthnenpncajpibaaGreatDoorProg
import Derived.WalkKit
import Derived.WalkSpells
import Derived.WalkSmall
import Derived.Deep.LoopGhost
import Derived.Below
import Derived.Deep.QuietTactic
import Derived.BigQuiet
import Derived.Maps.OwnSet
import Derived.Maps.Range
import Derived.Maps.AppendAt
import Derived.OneCell
import Derived.DeepKeys4
import Derived.Deep.AppendLies
/- Contracts of package act's Label, NameOf and Co. -/
namespace Go.Proofs.YthnenpncajpibaaGreatDoor
open Go.RowKit
namespace Ac
def isN (c : Int) : Bool := decide (0 ≤ c ∧ c < 100)
def label (n : Int) (co : Bool) : Int := if 0 ≤ n ∧ n < 100 then (if co then 2 * n + 2 else 2 * n + 1) else 0
def named (l : Int) : Bool := decide (0 < l ∧ l < 201)
def nameN (l : Int) : Int := if 0 < l ∧ l < 201 then (l - 1) / 2 else 0
def nameC (l : Int) : Bool := decide (0 < l ∧ l < 201 ∧ l % 2 = 0)
def co (l : Int) : Int := if 0 < l ∧ l < 201 then label (nameN l) (!nameC l) else 0
end Ac
theorem ret_int' {a b : Int} (h : a = b) : Ending.returned (.int .i64 a) = .returned (.int .i64 b) := by rw [h]
theorem actName_any (c : Int) (w : World) : Calls Tryz.prog 128 #[.int .i64 c] w fun e w' => e = .returned (.bool (Ac.isN c)) ∧ w' = w := by
  rcases (show c < 0 ∨ (0 ≤ c ∧ c < 100) ∨ (0 ≤ c ∧ 100 ≤ c) from by omega) with h | ⟨h1, h2⟩ | ⟨h1, h2⟩
  all_goals
    go_enter Tryz.func128, Tryz.ntmps128
    go_wp2
    go_ret
    exact ⟨by simp [Ac.isN]; omega, rfl⟩
end Go.Proofs.YthnenpncajpibaaGreatDoor
/- Contract of act.Pairs: are these a renaming? -/
namespace Go.Proofs.YthnenpncajpibaaGreatDoor
open Go.RowKit
/-- The value is a list of these pairs. -/
def HasP (w : World) (v : Value) (ps : List (Int × Int)) : Prop := ∃ ao cap, v = .slice ao ps.length cap ∧ ∀ (i : Nat) (p : Int × Int), ps[i]? = some p → ∃ a, ao = some a ∧ w.cell? (a.add (i * 2)) = some (.int .i64 p.1) ∧ w.cell? (a.add (i * 2 + 1)) = some (.int .i64 p.2)
theorem HasP.below {w w' : World} {v : Value} {ps : List (Int × Int)} (h : HasP w v ps) (hb : Below w.heap.size w w') : HasP w' v ps := by
  obtain ⟨ao, cap, h1, h2⟩ := h
  refine ⟨ao, cap, h1, fun i p hi => ?_⟩
  obtain ⟨a, ha, c0, c1⟩ := h2 i p hi
  exact ⟨a, ha, (hb.cell (World.block_lt_of_cell? w _ c0)).trans c0, (hb.cell (World.block_lt_of_cell? w _ c1)).trans c1⟩
namespace Ac
/-- Are they pairs, the olds rising behind a number? -/
def pairs : Int → List (Int × Int) → Bool
  | _, [] => true
  | last, p :: r => if p.1 ≤ last ∨ isN p.1 = false ∨ isN p.2 = false then false else pairs p.1 r
end Ac
theorem drop_at {α : Type} {l : List α} {j : Nat} {x : α} (h : l[j]? = some x) : l.drop j = x :: l.drop (j + 1) := by
  obtain ⟨hlt, rfl⟩ := List.getElem?_eq_some_iff.1 h
  rw [List.drop_eq_getElem_cons hlt]
theorem add_two (a : Addr) (x y : Nat) : (a.add x).add y = a.add (x + y) := by
  unfold Addr.add
  split <;> split <;> simp_all <;> omega
set_option maxRecDepth 100000 in
set_option maxHeartbeats 1000000 in
theorem pairs_any (v : Value) (ps : List (Int × Int)) (w : World) (hH : HasP w v ps) (hn : ps.length ≤ maxLen) :
    Calls Tryz.prog 111 #[v] w fun e w' => e = .returned (.bool (Ac.pairs (-1) ps)) ∧ Below w.heap.size w w' := by
  obtain ⟨ao, cap, rfl, hcells⟩ := hH
  obtain ⟨n, hN⟩ : ∃ n, n = ps.length := ⟨_, rfl⟩
  have HH : Hid ((∀ (i : Nat) (p : Int × Int), ps[i]? = some p → ∃ a, ao = some a ∧ w.cell? (a.add (i * 2)) = some (.int .i64 p.1) ∧ w.cell? (a.add (i * 2 + 1)) = some (.int .i64 p.2)) ∧ n = ps.length) := ⟨hcells, hN⟩
  rw [← hN] at hn ⊢
  unfold maxLen at hn
  clear hcells hN
  go_enter Tryz.func111, Tryz.ntmps111
  go_wp2_with fail
  go_loopg [3, 8] n (fun g lv i wr => ∃ (j : Nat) (last : Int), g = n - j ∧ j ≤ n ∧ i = .int .i64 j ∧ lv = .int .i64 last ∧ Ac.pairs last (ps.drop j) = Ac.pairs (-1) ps ∧ Below w.heap.size w wr)
  case atStart => exact ⟨0, -1, rfl, Nat.zero_le _, rfl, rfl, rfl, Below.refl _ _⟩
  case round =>
    obtain ⟨j, last, rfl, hj, rfl, rfl, hR, hb⟩ := hrel
    have HB : Hid (Below w.heap.size w wr ∧ Ac.pairs last (ps.drop j) = Ac.pairs (-1) ps) := ⟨hb, hR⟩
    clear hb hR
    by_cases hlt : j < n
    · obtain ⟨p, hp⟩ : ∃ p, ps[j]? = some p := ⟨ps[j]'(by have := HH.out.2; omega), List.getElem?_eq_getElem _⟩
      obtain ⟨a, rfl, c0, c1⟩ := HH.out.1 j p hp
      have d0 := (HB.out.1.cell (World.block_lt_of_cell? w _ c0)).trans c0
      have d1 := (HB.out.1.cell (World.block_lt_of_cell? w _ c1)).trans c1
      have hdr := drop_at hp
      have q0 : (0 : Int) ≤ (j : Int) := by omega
      have q1 : (j : Int) < (n : Int) := by omega
      obtain ⟨x, y⟩ := p
      clear c0 c1 hp
      have HX : Hid (Ac.pairs last (ps.drop j) = if x ≤ last ∨ Ac.isN x = false ∨ Ac.isN y = false then false else Ac.pairs x (ps.drop (j + 1))) := by
        show Ac.pairs last (ps.drop j) = _
        rw [hdr]; rfl
      clear hdr
      have d2 : wr.cell? ((a.add (j * 2)).add 1) = some (.int .i64 y) := by rw [add_two]; exact d1
      have d3 : wr.cell? ⟨(a.add (j * 2)).block, (a.add (j * 2)).off + 1, none⟩ = some (.int .i64 y) := by rw [← d2]; rfl
      have hal : Below w.heap.size w (wr.alloc (.cells #[.int .i64 x, .int .i64 y] 75)) := HB.out.1.alloc HB.out.1.size _
      have HA : Hid (Below w.heap.size w (wr.alloc (.cells #[.int .i64 x, .int .i64 y] 75))) := hal
      clear hal
      by_cases h1 : x ≤ last
      · have HF : Hid (Ac.pairs (-1) ps = false) := (by rw [← HB.out.2, HX.out, if_pos (.inl h1)] : Ac.pairs (-1) ps = false)
        go_wp2_with fail
        go_ret
        exact ⟨by rw [HF.out]; rfl, HA.out⟩
      · cases hx : Ac.isN x with
        | false =>
          have HF : Hid (Ac.pairs (-1) ps = false) := (by rw [← HB.out.2, HX.out, if_pos (.inr (.inl hx))] : Ac.pairs (-1) ps = false)
          go_wp2_with (go_at_call 128; refine (actName_any _ _).mono ?_; rw [hx]; rintro r w' ⟨rfl, hw⟩; obtain rfl := hw.symm)
          go_ret
          exact ⟨by rw [HF.out]; rfl, HA.out⟩
        | true =>
          cases hy : Ac.isN y with
          | false =>
            have HF : Hid (Ac.pairs (-1) ps = false) := (by rw [← HB.out.2, HX.out, if_pos (.inr (.inr hy))] : Ac.pairs (-1) ps = false)
            go_wp2_with (go_at_call 128; refine (actName_any _ _).mono ?_; (first | rw [hx] | rw [hy]); rintro r w' ⟨rfl, hw⟩; obtain rfl := hw.symm)
            go_ret
            exact ⟨by rw [HF.out]; rfl, HA.out⟩
          | true =>
            have HF : Hid (Ac.pairs x (ps.drop (j + 1)) = Ac.pairs (-1) ps) := (by rw [← HB.out.2, HX.out, if_neg (by simp [h1, hx, hy])] : Ac.pairs x (ps.drop (j + 1)) = Ac.pairs (-1) ps)
            go_wp2_with (go_at_call 128; refine (actName_any _ _).mono ?_; (first | rw [hx] | rw [hy]); rintro r w' ⟨rfl, hw⟩; obtain rfl := hw.symm)
            go_roundg (n - (j + 1))
            case measure => omega
            case rel => exact ⟨j + 1, x, rfl, by omega, by go_num, rfl, HF.out, HA.out⟩
    · have q1 : ¬ (j : Int) < (n : Int) := by omega
      have HF : Hid (Ac.pairs (-1) ps = true) := (by rw [← HB.out.2, List.drop_eq_nil_of_le (by have := HH.out.2; omega)]; rfl : Ac.pairs (-1) ps = true)
      go_wp2_with fail
      go_ret
      exact ⟨by rw [HF.out]; rfl, HB.out.1⟩
end Go.Proofs.YthnenpncajpibaaGreatDoor
/- Contracts of the document's own Label and NameOf. -/
namespace Go.Proofs.YthnenpncajpibaaGreatDoor
open Go.RowKit
end Go.Proofs.YthnenpncajpibaaGreatDoor
/- Lists of numbers; contract of act.Rising. -/
namespace Go.Proofs.YthnenpncajpibaaGreatDoor
open Go.RowKit
/-- The value is a list of these numbers. -/
def HasI (w : World) (v : Value) (zs : List Int) : Prop := ∃ ao cap, v = .slice ao zs.length cap ∧ ∀ (i : Nat) (z : Int), zs[i]? = some z → ∃ a, ao = some a ∧ w.cell? (a.add i) = some (.int .i64 z)
theorem HasI.below {w w' : World} {v : Value} {zs : List Int} (h : HasI w v zs) (hb : Below w.heap.size w w') : HasI w' v zs := by
  obtain ⟨ao, cap, h1, h2⟩ := h
  refine ⟨ao, cap, h1, fun i p hi => ?_⟩
  obtain ⟨a, ha, c0⟩ := h2 i p hi
  exact ⟨a, ha, (hb.cell (World.block_lt_of_cell? w _ c0)).trans c0⟩
namespace Ac
def rising : Int → List Int → Bool
  | _, [] => true
  | last, z :: r => if z ≤ last ∨ isN z = false then false else rising z r
def prev (zs : List Int) : Nat → Int
  | 0 => -1
  | j + 1 => zs.getD j 0
end Ac
set_option maxRecDepth 100000 in
set_option maxHeartbeats 1000000 in
theorem rising_any (v : Value) (zs : List Int) (w : World) (hH : HasI w v zs) (hn : zs.length ≤ maxLen) :
    Calls Tryz.prog 110 #[v] w fun e w' => e = .returned (.bool (Ac.rising (-1) zs)) ∧ w' = w := by
  obtain ⟨ao, cap, rfl, hcells⟩ := hH
  obtain ⟨n, hN⟩ : ∃ n, n = zs.length := ⟨_, rfl⟩
  have HH : Hid ((∀ (i : Nat) (z : Int), zs[i]? = some z → ∃ a, ao = some a ∧ w.cell? (a.add i) = some (.int .i64 z)) ∧ n = zs.length) := ⟨hcells, hN⟩
  rw [← hN] at hn ⊢
  unfold maxLen at hn
  clear hcells hN
  go_enter Tryz.func110, Tryz.ntmps110
  go_wp2_with fail
  go_loopg [3, 8] n (fun g lv i wr => ∃ (j : Nat) (last : Int), g = n - j ∧ j ≤ n ∧ i = .int .i64 j ∧ lv = .int .i64 last ∧ Ac.rising last (zs.drop j) = Ac.rising (-1) zs ∧ w = wr)
  case atStart => exact ⟨0, -1, rfl, Nat.zero_le _, rfl, rfl, rfl, rfl⟩
  case round =>
    obtain ⟨j, last, rfl, hj, rfl, rfl, hR, rfl⟩ := hrel
    have HB : Hid (Ac.rising last (zs.drop j) = Ac.rising (-1) zs) := hR
    clear hR
    by_cases hlt : j < n
    · obtain ⟨z, hz⟩ : ∃ z, zs[j]? = some z := ⟨zs[j]'(by have := HH.out.2; omega), List.getElem?_eq_getElem _⟩
      obtain ⟨a, rfl, c0⟩ := HH.out.1 j z hz
      have HX : Hid (Ac.rising last (zs.drop j) = if z ≤ last ∨ Ac.isN z = false then false else Ac.rising z (zs.drop (j + 1))) := by
        show Ac.rising last (zs.drop j) = _
        rw [drop_at hz]; rfl
      have q0 : (0 : Int) ≤ (j : Int) := by omega
      have q1 : (j : Int) < (n : Int) := by omega
      clear hz
      by_cases h1 : z ≤ last
      · have HF : Hid (Ac.rising (-1) zs = false) := (by rw [← HB.out, HX.out, if_pos (.inl h1)] : Ac.rising (-1) zs = false)
        go_wp2_with fail
        go_ret
        exact ⟨by rw [HF.out]; rfl, rfl⟩
      · cases hx : Ac.isN z with
        | false =>
          have HF : Hid (Ac.rising (-1) zs = false) := (by rw [← HB.out, HX.out, if_pos (.inr hx)] : Ac.rising (-1) zs = false)
          go_wp2_with (go_at_call 128; refine (actName_any _ _).mono ?_; rw [hx]; rintro r w' ⟨rfl, hw⟩; obtain rfl := hw.symm)
          go_ret
          exact ⟨by rw [HF.out]; rfl, rfl⟩
        | true =>
          have HF : Hid (Ac.rising z (zs.drop (j + 1)) = Ac.rising (-1) zs) := (by rw [← HB.out, HX.out, if_neg (by simp [h1, hx])] : Ac.rising z (zs.drop (j + 1)) = Ac.rising (-1) zs)
          go_wp2_with (go_at_call 128; refine (actName_any _ _).mono ?_; rw [hx]; rintro r w' ⟨rfl, hw⟩; obtain rfl := hw.symm)
          go_roundg (n - (j + 1))
          case measure => omega
          case rel => exact ⟨j + 1, z, rfl, by omega, by go_num, rfl, HF.out, rfl⟩
    · have q1 : ¬ (j : Int) < (n : Int) := by omega
      have HF : Hid (Ac.rising (-1) zs = true) := (by rw [← HB.out, List.drop_eq_nil_of_le (by have := HH.out.2; omega)]; rfl : Ac.rising (-1) zs = true)
      go_wp2_with fail
      go_ret
      exact ⟨by rw [HF.out]; rfl, rfl⟩
end Go.Proofs.YthnenpncajpibaaGreatDoor
/- Terms: plain, as values, in memory; contracts of the smallest functions of package term. -/
namespace Go.Proofs.YthnenpncajpibaaGreatDoor
open Go.RowKit Go.Maps
/-- A term, plain. -/
structure Tm where
  kind : Int
  label : Int
  a : Int
  b : Int
  names : List Int
  pairs : List (Int × Int)
namespace Tm
def has (n : Nat) (i : Int) : Bool := decide (0 ≤ i) && decide (i < (n : Int))
/-- Is the kind's own part right? -/
def right (n : Nat) (t : Tm) : Bool :=
  if t.kind = 1 then true
  else if t.kind = 2 then decide (0 ≤ t.label ∧ t.label < 201) && has n t.a
  else if t.kind = 3 ∨ t.kind = 4 then has n t.a && has n t.b
  else if t.kind = 5 then has n t.a && Ac.rising (-1) t.names
  else if t.kind = 6 then has n t.a && Ac.pairs (-1) t.pairs
  else if t.kind = 7 then decide (0 ≤ t.a ∧ t.a < 200)
  else false
/-- Is the rest zero? -/
def rest (t : Tm) : Bool :=
  (t.kind == 2 || t.label == 0) && (t.kind != 1 || t.a == 0) && (t.kind == 3 || t.kind == 4 || t.b == 0) && (t.kind == 5 || t.names.length == 0) && (t.kind == 6 || t.pairs.length == 0)
def may (n : Nat) (t : Tm) : Bool := right n t && rest t
def byteOf (z : Int) : UInt8 := UInt8.ofNat z.toNat
/-- The bytes of the key. -/
def lists (t : Tm) : List UInt8 := t.names.map byteOf ++ (t.pairs.map fun p => [byteOf p.1, byteOf p.2]).flatten
end Tm
/-- A term as a value. -/
def tmV (t : Tm) (vn vp : Value) : Value := .agg #[.int .i64 t.kind, .int .i64 t.label, .int .i64 t.a, .int .i64 t.b, vn, vp]
def tmC (t : Tm) (vn vp : Value) : List Value := [.int .i64 t.kind, .int .i64 t.label, .int .i64 t.a, .int .i64 t.b, vn, vp]
/-- The key of a term as a value. -/
def keyV (t : Tm) : Value := .agg #[.int .i64 t.kind, .int .i64 t.label, .int .i64 t.a, .int .i64 t.b, .string ⟨t.lists.toArray⟩]
theorem t_lt {w : World} {b : Nat} {o : Obj} (h : w.heap[b]? = some o) : b < w.heap.size := (Array.getElem?_eq_some_iff.1 h).1
theorem t_cells {w : World} {b : Nat} {x y : Value} {t : TypeId} (h : w.heap[b]? = some (.cells #[x, y] t (0, 0))) : w.cell? ⟨b, 0, none⟩ = some x ∧ w.cell? ⟨b, 1, none⟩ = some y := by
  constructor <;> simp [World.cell?, h]
/-- A fault of term that wraps this, in memory. -/
def TermFault (w : World) (b : Nat) (e : Value) : Prop := w.heap[b]? = some (.cells #[.string ⟨#[116, 101, 114, 109]⟩, .int .i64 0, .int .i64 0, e] 127 (0, 0))
def tFaultV (b : Nat) : Value := .iface 124 (.pointer (some ⟨b, 0, none⟩))
theorem tfault_any (T : TypeId) (u : Value) (w : World) : Calls Tryz.prog 81 #[.iface T u] w fun r w' => r = .returned (tFaultV w.heap.size) ∧ TermFault w' w.heap.size (.iface T u) ∧ Below w.heap.size w w' := by
  go_enter Tryz.func81, Tryz.ntmps81
  go_wp2
  go_ret
  exact ⟨rfl, (MapKept.heap_alloc w _).1, (Below.refl _ _).alloc (Nat.le_refl _) _⟩
theorem thas_any (b : Nat) (ao : Option Addr) (n cap : Nat) (i : Int) (w : World) (hc : w.cell? ⟨b, 0, none⟩ = some (.slice ao n cap)) :
    Calls Tryz.prog 86 #[.pointer (some ⟨b, 0, none⟩), .int .i64 i] w fun r w' => r = .returned (.bool (Tm.has n i)) ∧ w' = w := by
  by_cases h0 : 0 ≤ i
  · by_cases h1 : i < (n : Int)
    · have HF : Hid (Tm.has n i = true) := (by simp [Tm.has, h0, h1] : Tm.has n i = true)
      go_enter Tryz.func86, Tryz.ntmps86
      go_wp2
      go_ret
      exact ⟨by rw [HF.out]; rfl, rfl⟩
    · have HF : Hid (Tm.has n i = false) := (by simp [Tm.has, h1] : Tm.has n i = false)
      go_enter Tryz.func86, Tryz.ntmps86
      go_wp2
      go_ret
      exact ⟨by rw [HF.out]; rfl, rfl⟩
  · have HF : Hid (Tm.has n i = false) := (by simp [Tm.has, h0] : Tm.has n i = false)
    go_enter Tryz.func86, Tryz.ntmps86
    go_wp2
    go_ret
    exact ⟨by rw [HF.out]; rfl, rfl⟩
theorem tsize_any (b : Nat) (ao : Option Addr) (n cap : Nat) (w : World) (hc : w.cell? ⟨b, 0, none⟩ = some (.slice ao n cap)) :
    Calls Tryz.prog 21 #[.pointer (some ⟨b, 0, none⟩)] w fun r w' => r = .returned (.int .i64 n) ∧ w' = w := by
  go_enter Tryz.func21, Tryz.ntmps21
  go_wp2
  go_ret
  exact ⟨rfl, rfl⟩
theorem lacks_no (b : Nat) (ao : Option Addr) (n cap : Nat) (i : Int) (w : World) (hc : w.cell? ⟨b, 0, none⟩ = some (.slice ao n cap)) (hi : Tm.has n i = true) :
    Calls Tryz.prog 26 #[.pointer (some ⟨b, 0, none⟩), .int .i64 i] w fun r w' => r = .returned .nilIface ∧ w' = w := by
  have hH := thas_any b ao n cap i w hc
  rw [hi] at hH
  go_enter Tryz.func26, Tryz.ntmps26
  go_wp2_with (go_at_call 86; refine hH.mono ?_; rintro r w' ⟨rfl, hw⟩; obtain rfl := hw.symm)
  go_ret
  exact ⟨rfl, rfl⟩
theorem lacks_yes (b : Nat) (ao : Option Addr) (n cap : Nat) (i : Int) (T : TypeId) (u : Value) (w : World) (hc : w.cell? ⟨b, 0, none⟩ = some (.slice ao n cap)) (hi : Tm.has n i = false) (hI : w.cell? ⟨1, 0, none⟩ = some (.iface T u)) :
    Calls Tryz.prog 26 #[.pointer (some ⟨b, 0, none⟩), .int .i64 i] w fun r w' => r = .returned (tFaultV w.heap.size) ∧ TermFault w' w.heap.size (.iface T u) ∧ Below w.heap.size w w' := by
  have hH := thas_any b ao n cap i w hc
  rw [hi] at hH
  go_enter Tryz.func26, Tryz.ntmps26
  go_wp2_with (first | (go_at_call 86; refine hH.mono ?_; rintro r w' ⟨rfl, hw⟩; obtain rfl := hw.symm) | (go_at_call 81; refine (tfault_any _ _ _).mono ?_; rintro r w' ⟨rfl, hF, hb⟩))
  go_ret
  exact ⟨rfl, hF, hb⟩
theorem lacks_nil (i : Int) (T : TypeId) (u : Value) (w : World) (hI : w.cell? ⟨0, 0, none⟩ = some (.iface T u)) :
    Calls Tryz.prog 26 #[.pointer none, .int .i64 i] w fun r w' => r = .returned (tFaultV w.heap.size) ∧ TermFault w' w.heap.size (.iface T u) ∧ Below w.heap.size w w' := by
  go_enter Tryz.func26, Tryz.ntmps26
  go_wp2_with (go_at_call 81; refine (tfault_any _ _ _).mono ?_; rintro r w' ⟨rfl, hF, hb⟩)
  go_ret
  exact ⟨rfl, hF, hb⟩
end Go.Proofs.YthnenpncajpibaaGreatDoor
/- Contract of the store's mayPut. -/
namespace Go.Proofs.YthnenpncajpibaaGreatDoor
open Go.RowKit Go.Maps
theorem nat_beq0 (k : Nat) : ((k : Int) == 0) = (k == 0) := by
  rw [Bool.eq_iff_iff]; simp
theorem bcell {W w1 : World} (hb : Below W.heap.size W w1) : (∀ b o, b < W.heap.size → w1.cell? ⟨b, o, none⟩ = W.cell? ⟨b, o, none⟩) ∧ (∀ b o, b < W.heap.size → w1.frozen? ⟨b, o, none⟩ = W.frozen? ⟨b, o, none⟩) :=
  ⟨fun b o h => hb.cell (p := ⟨b, o, none⟩) h, fun b o h => hb.frozen (p := ⟨b, o, none⟩) h⟩
theorem cell_up {w W : World} {b o : Nat} {v : Value} (hc : w.cell? ⟨b, o, none⟩ = some v) (hb : Below w.heap.size w W) : W.cell? ⟨b, o, none⟩ = some v := (hb.cell (World.block_lt_of_cell? w _ hc)).trans hc
set_option maxRecDepth 100000 in
set_option maxHeartbeats 1000000 in
theorem may1 (b : Nat) (l a b' : Int) (an ap : Option Addr) (nn np cn cp : Nat) (w : World) :
    Calls Tryz.prog 80 #[.pointer (some ⟨b, 0, none⟩), .agg #[.int .i64 1, .int .i64 l, .int .i64 a, .int .i64 b', .slice an nn cn, .slice ap np cp]] w fun r w' => r = .returned (.bool (l == 0 && (a == 0 && (b' == 0 && (nn == 0 && np == 0))))) ∧ Below w.heap.size w w' := by
  go_enter Tryz.func80, Tryz.ntmps80
  go_wp2_with fail
  go_region
  all_goals go_wp2_with (fail)
  all_goals (go_ret; have nb := nat_beq0; refine ⟨?_, (by repeat (first | exact Below.refl _ _ | assumption | refine Below.drew ?_ | refine Below.setCell ?_ (by simp) _ | refine Below.alloc ?_ (by simp) _))⟩; first | (simp [*]; done) | (simp [*]; omega))
set_option maxRecDepth 100000 in
set_option maxHeartbeats 1000000 in
theorem may2 (b : Nat) (ao : Option Addr) (n cap : Nat) (l a b' : Int) (an ap : Option Addr) (nn np cn cp : Nat) (w : World) (hc : w.cell? ⟨b, 0, none⟩ = some (.slice ao n cap)) :
    Calls Tryz.prog 80 #[.pointer (some ⟨b, 0, none⟩), .agg #[.int .i64 2, .int .i64 l, .int .i64 a, .int .i64 b', .slice an nn cn, .slice ap np cp]] w fun r w' => r = .returned (.bool (decide (0 ≤ l) && (decide (l < 201) && (Tm.has n a && (b' == 0 && (nn == 0 && np == 0)))))) ∧ Below w.heap.size w w' := by
  go_enter Tryz.func80, Tryz.ntmps80
  go_wp2_with fail
  go_region
  all_goals go_wp2_with ((go_at_call 86; refine (thas_any b ao n cap _ _ (cell_up hc (by repeat (first | exact Below.refl _ _ | assumption | refine Below.drew ?_ | refine Below.setCell ?_ (by simp) _ | refine Below.alloc ?_ (by simp) _)))).mono ?_; rintro r w' ⟨rfl, hw⟩; obtain rfl := hw.symm))
  all_goals (go_ret; have nb := nat_beq0; refine ⟨?_, (by repeat (first | exact Below.refl _ _ | assumption | refine Below.drew ?_ | refine Below.setCell ?_ (by simp) _ | refine Below.alloc ?_ (by simp) _))⟩; first | (simp [*]; done) | (simp [*]; omega))
set_option maxRecDepth 100000 in
set_option maxHeartbeats 1000000 in
theorem may3 (b : Nat) (ao : Option Addr) (n cap : Nat) (l a b' : Int) (an ap : Option Addr) (nn np cn cp : Nat) (w : World) (hc : w.cell? ⟨b, 0, none⟩ = some (.slice ao n cap)) :
    Calls Tryz.prog 80 #[.pointer (some ⟨b, 0, none⟩), .agg #[.int .i64 3, .int .i64 l, .int .i64 a, .int .i64 b', .slice an nn cn, .slice ap np cp]] w fun r w' => r = .returned (.bool (Tm.has n a && (Tm.has n b' && (l == 0 && (nn == 0 && np == 0))))) ∧ Below w.heap.size w w' := by
  go_enter Tryz.func80, Tryz.ntmps80
  go_wp2_with fail
  go_region
  all_goals go_wp2_with ((go_at_call 86; refine (thas_any b ao n cap _ _ (cell_up hc (by repeat (first | exact Below.refl _ _ | assumption | refine Below.drew ?_ | refine Below.setCell ?_ (by simp) _ | refine Below.alloc ?_ (by simp) _)))).mono ?_; rintro r w' ⟨rfl, hw⟩; obtain rfl := hw.symm))
  all_goals (go_ret; have nb := nat_beq0; refine ⟨?_, (by repeat (first | exact Below.refl _ _ | assumption | refine Below.drew ?_ | refine Below.setCell ?_ (by simp) _ | refine Below.alloc ?_ (by simp) _))⟩; first | (simp [*]; done) | (simp [*]; omega))
set_option maxRecDepth 100000 in
set_option maxHeartbeats 1000000 in
theorem may4 (b : Nat) (ao : Option Addr) (n cap : Nat) (l a b' : Int) (an ap : Option Addr) (nn np cn cp : Nat) (w : World) (hc : w.cell? ⟨b, 0, none⟩ = some (.slice ao n cap)) :
    Calls Tryz.prog 80 #[.pointer (some ⟨b, 0, none⟩), .agg #[.int .i64 4, .int .i64 l, .int .i64 a, .int .i64 b', .slice an nn cn, .slice ap np cp]] w fun r w' => r = .returned (.bool (Tm.has n a && (Tm.has n b' && (l == 0 && (nn == 0 && np == 0))))) ∧ Below w.heap.size w w' := by
  go_enter Tryz.func80, Tryz.ntmps80
  go_wp2_with fail
  go_region
  all_goals go_wp2_with ((go_at_call 86; refine (thas_any b ao n cap _ _ (cell_up hc (by repeat (first | exact Below.refl _ _ | assumption | refine Below.drew ?_ | refine Below.setCell ?_ (by simp) _ | refine Below.alloc ?_ (by simp) _)))).mono ?_; rintro r w' ⟨rfl, hw⟩; obtain rfl := hw.symm))
  all_goals (go_ret; have nb := nat_beq0; refine ⟨?_, (by repeat (first | exact Below.refl _ _ | assumption | refine Below.drew ?_ | refine Below.setCell ?_ (by simp) _ | refine Below.alloc ?_ (by simp) _))⟩; first | (simp [*]; done) | (simp [*]; omega))
set_option maxRecDepth 100000 in
set_option maxHeartbeats 1000000 in
theorem may5 (b : Nat) (ao : Option Addr) (n cap : Nat) (l a b' : Int) (an ap : Option Addr) (nn np cn cp : Nat) (w : World) (hc : w.cell? ⟨b, 0, none⟩ = some (.slice ao n cap)) (c : Bool) (hR : ∀ W, Below w.heap.size w W → Calls Tryz.prog 110 #[.slice an nn cn] W fun e w' => e = .returned (.bool c) ∧ w' = W) :
    Calls Tryz.prog 80 #[.pointer (some ⟨b, 0, none⟩), .agg #[.int .i64 5, .int .i64 l, .int .i64 a, .int .i64 b', .slice an nn cn, .slice ap np cp]] w fun r w' => r = .returned (.bool (Tm.has n a && (c && (l == 0 && (b' == 0 && np == 0))))) ∧ Below w.heap.size w w' := by
  have HR : Hid _ := hR
  clear hR
  go_enter Tryz.func80, Tryz.ntmps80
  go_wp2_with fail
  go_region
  all_goals go_wp2_with (first | (go_at_call 86; refine (thas_any b ao n cap _ _ (cell_up hc (by repeat (first | exact Below.refl _ _ | assumption | refine Below.drew ?_ | refine Below.setCell ?_ (by simp) _ | refine Below.alloc ?_ (by simp) _)))).mono ?_; rintro r w' ⟨rfl, hw⟩; obtain rfl := hw.symm) | (go_at_call 110; refine (HR.out _ (by repeat (first | exact Below.refl _ _ | assumption | refine Below.drew ?_ | refine Below.setCell ?_ (by simp) _ | refine Below.alloc ?_ (by simp) _))).mono ?_; rintro r w' ⟨rfl, hw⟩; obtain rfl := hw.symm))
  all_goals (go_ret; have nb := nat_beq0; refine ⟨?_, (by repeat (first | exact Below.refl _ _ | assumption | refine Below.drew ?_ | refine Below.setCell ?_ (by simp) _ | refine Below.alloc ?_ (by simp) _))⟩; first | (simp [*]; done) | (simp [*]; omega))
set_option maxRecDepth 100000 in
set_option maxHeartbeats 1000000 in
theorem may6 (b : Nat) (ao : Option Addr) (n cap : Nat) (l a b' : Int) (an ap : Option Addr) (nn np cn cp : Nat) (w : World) (hc : w.cell? ⟨b, 0, none⟩ = some (.slice ao n cap)) (c : Bool) (hR : ∀ W, Below w.heap.size w W → Calls Tryz.prog 111 #[.slice ap np cp] W fun e w' => e = .returned (.bool c) ∧ Below W.heap.size W w') :
    Calls Tryz.prog 80 #[.pointer (some ⟨b, 0, none⟩), .agg #[.int .i64 6, .int .i64 l, .int .i64 a, .int .i64 b', .slice an nn cn, .slice ap np cp]] w fun r w' => r = .returned (.bool (Tm.has n a && (c && (l == 0 && (b' == 0 && nn == 0))))) ∧ Below w.heap.size w w' := by
  have HR : Hid _ := hR
  clear hR
  go_enter Tryz.func80, Tryz.ntmps80
  go_wp2_with fail
  go_region
  all_goals go_wp2_with (first | (go_at_call 86; refine (thas_any b ao n cap _ _ (cell_up hc (by repeat (first | exact Below.refl _ _ | assumption | refine Below.drew ?_ | refine Below.setCell ?_ (by simp) _ | refine Below.alloc ?_ (by simp) _)))).mono ?_; rintro r w' ⟨rfl, hw⟩; obtain rfl := hw.symm) | (go_at_call 111; refine (HR.out _ (by repeat (first | exact Below.refl _ _ | assumption | refine Below.drew ?_ | refine Below.setCell ?_ (by simp) _ | refine Below.alloc ?_ (by simp) _))).mono ?_; rintro r w6 ⟨rfl, hb6⟩; obtain ⟨hc6, hf6⟩ := bcell hb6; have hz6 : w.heap.size + 1 < w6.heap.size := (by have := hb6.size; simp at this; omega); have hB6 : Below w.heap.size w w6 := Below.trans (by repeat (first | exact Below.refl _ _ | assumption | refine Below.drew ?_ | refine Below.setCell ?_ (by simp) _ | refine Below.alloc ?_ (by simp) _)) (hb6.mono (by simp; omega))))
  all_goals (go_ret; have nb := nat_beq0; refine ⟨?_, (by repeat (first | exact Below.refl _ _ | assumption | refine Below.drew ?_ | refine Below.setCell ?_ (by simp) _ | refine Below.alloc ?_ (by simp) _))⟩; first | (simp [*]; done) | (simp [*]; omega))
set_option maxRecDepth 100000 in
set_option maxHeartbeats 1000000 in
theorem may7 (b : Nat) (l a b' : Int) (an ap : Option Addr) (nn np cn cp : Nat) (w : World) :
    Calls Tryz.prog 80 #[.pointer (some ⟨b, 0, none⟩), .agg #[.int .i64 7, .int .i64 l, .int .i64 a, .int .i64 b', .slice an nn cn, .slice ap np cp]] w fun r w' => r = .returned (.bool (decide (0 ≤ a) && (decide (a < 200) && (l == 0 && (b' == 0 && (nn == 0 && np == 0)))))) ∧ Below w.heap.size w w' := by
  go_enter Tryz.func80, Tryz.ntmps80
  go_wp2_with fail
  go_region
  all_goals go_wp2_with (fail)
  all_goals (go_ret; have nb := nat_beq0; refine ⟨?_, (by repeat (first | exact Below.refl _ _ | assumption | refine Below.drew ?_ | refine Below.setCell ?_ (by simp) _ | refine Below.alloc ?_ (by simp) _))⟩; first | (simp [*]; done) | (simp [*]; omega))
set_option maxRecDepth 100000 in
set_option maxHeartbeats 1000000 in
theorem may0 (b : Nat) (k : Int) (l a b' : Int) (an ap : Option Addr) (nn np cn cp : Nat) (w : World) (h1 : (k == 1) = false) (h2 : (k == 2) = false) (h3 : (k == 3) = false) (h4 : (k == 4) = false) (h5 : (k == 5) = false) (h6 : (k == 6) = false) (h7 : (k == 7) = false) :
    Calls Tryz.prog 80 #[.pointer (some ⟨b, 0, none⟩), .agg #[.int .i64 k, .int .i64 l, .int .i64 a, .int .i64 b', .slice an nn cn, .slice ap np cp]] w fun r w' => r = .returned (.bool (false)) ∧ Below w.heap.size w w' := by
  go_enter Tryz.func80, Tryz.ntmps80
  go_wp2_with fail
  go_region
  all_goals go_wp2_with (fail)
  all_goals (go_ret; have nb := nat_beq0; refine ⟨?_, (by repeat (first | exact Below.refl _ _ | assumption | refine Below.drew ?_ | refine Below.setCell ?_ (by simp) _ | refine Below.alloc ?_ (by simp) _))⟩; first | (simp [*]; done) | (simp [*]; omega))
theorem mayPut_any (b : Nat) (ao : Option Addr) (n cap : Nat) (t : Tm) (vn vp : Value) (w : World) (hc : w.cell? ⟨b, 0, none⟩ = some (.slice ao n cap)) (hn : HasI w vn t.names) (hp : HasP w vp t.pairs) (ln : t.names.length ≤ maxLen) (lp : t.pairs.length ≤ maxLen) :
    Calls Tryz.prog 80 #[.pointer (some ⟨b, 0, none⟩), tmV t vn vp] w fun r w' => r = .returned (.bool (t.may n)) ∧ Below w.heap.size w w' := by
  have hR : ∀ W, Below w.heap.size w W → Calls Tryz.prog 110 #[vn] W fun e w' => e = .returned (.bool (Ac.rising (-1) t.names)) ∧ w' = W := fun W hW => rising_any vn t.names W (hn.below hW) ln
  have hP : ∀ W, Below w.heap.size w W → Calls Tryz.prog 111 #[vp] W fun e w' => e = .returned (.bool (Ac.pairs (-1) t.pairs)) ∧ Below W.heap.size W w' := fun W hW => pairs_any vp t.pairs W (hp.below hW) lp
  obtain ⟨an, cn, rfl, _⟩ := hn
  obtain ⟨ap, cp, rfl, _⟩ := hp
  obtain ⟨k, l, a, b', names, pairs⟩ := t
  simp only at hR hP ⊢
  unfold tmV
  by_cases h1 : k = 1
  · subst h1
    refine (may1 b l a b' an ap _ _ cn cp w).mono ?_
    rintro r w' ⟨rfl, hb⟩
    exact ⟨by simp [Tm.may, Tm.right, Tm.rest, Bool.and_assoc], hb⟩
  by_cases h2 : k = 2
  · subst h2
    refine (may2 b ao n cap l a b' an ap _ _ cn cp w hc).mono ?_
    rintro r w' ⟨rfl, hb⟩
    exact ⟨by simp [Tm.may, Tm.right, Tm.rest, Bool.and_assoc], hb⟩
  by_cases h3 : k = 3
  · subst h3
    refine (may3 b ao n cap l a b' an ap _ _ cn cp w hc).mono ?_
    rintro r w' ⟨rfl, hb⟩
    exact ⟨by simp [Tm.may, Tm.right, Tm.rest, Bool.and_assoc], hb⟩
  by_cases h4 : k = 4
  · subst h4
    refine (may4 b ao n cap l a b' an ap _ _ cn cp w hc).mono ?_
    rintro r w' ⟨rfl, hb⟩
    exact ⟨by simp [Tm.may, Tm.right, Tm.rest, Bool.and_assoc], hb⟩
  by_cases h5 : k = 5
  · subst h5
    refine (may5 b ao n cap l a b' an ap _ _ cn cp w hc _ hR).mono ?_
    rintro r w' ⟨rfl, hb⟩
    exact ⟨by simp [Tm.may, Tm.right, Tm.rest, Bool.and_assoc], hb⟩
  by_cases h6 : k = 6
  · subst h6
    refine (may6 b ao n cap l a b' an ap _ _ cn cp w hc _ hP).mono ?_
    rintro r w' ⟨rfl, hb⟩
    exact ⟨by simp [Tm.may, Tm.right, Tm.rest, Bool.and_assoc], hb⟩
  by_cases h7 : k = 7
  · subst h7
    refine (may7 b l a b' an ap _ _ cn cp w).mono ?_
    rintro r w' ⟨rfl, hb⟩
    exact ⟨by simp [Tm.may, Tm.right, Tm.rest, Bool.and_assoc], hb⟩
  refine (may0 b k l a b' an ap _ _ cn cp w (by simpa using h1) (by simpa using h2) (by simpa using h3) (by simpa using h4) (by simpa using h5) (by simpa using h6) (by simpa using h7)).mono ?_
  rintro r w' ⟨rfl, hb⟩
  exact ⟨by simp [Tm.may, Tm.right, *], hb⟩
end Go.Proofs.YthnenpncajpibaaGreatDoor
