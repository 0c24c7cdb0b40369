/- Texts of this claim, joined: Shelf, Table, Tab. -/
import Derived.Shelf.Small.Strs
import Derived.Shelf.LaysM
import Derived.Shelf.Strconv.Clone
import Derived.Shelf.Strings.Search1
import Derived.Test.YthcboklkejlifaaGreatDoorProg
import Derived.WalkKit
import Derived.WalkSpells
import Derived.Below
import Derived.Maps.OwnSet
import Derived.Maps.Range
import Derived.Maps.AppendAt
import Derived.OneCell
/- Contracts of three functions of Go's library at this program, laid by the shelf's own tools in plain words. -/
namespace Go.Proofs
open Go.Shelf
def Tryz.lays137_ren : Go.Shelf.Ren := ⟨fun | 137 => 126 | 217 => 141 | 266 => 145 | n => n, fun | 9 => 9 | 5 => 5 | 3 => 3 | n => n, fun | n => n⟩
theorem Tryz.lays137 : Go.Proofs.Lays.n137 Tryz.prog Tryz.lays137_ren := {
  mixed := by kernel_rfl
  f137 := Tryz.func126.trans (congrArg some (by kernel_rfl))
  f217 := Tryz.func141.trans (congrArg some (by kernel_rfl))
  f266 := Tryz.func145.trans (congrArg some (by kernel_rfl))
  t3 := Tryz.underlying3
  a3 := Tryz.isAgg3
  z3 := Tryz.sizeOf3
  v3 := Tryz.zeroValue3
  t5 := Tryz.underlying5
  a5 := Tryz.isAgg5
  z5 := Tryz.sizeOf5
  v5 := Tryz.zeroValue5
  t9 := Tryz.underlying9
  a9 := Tryz.isAgg9
  z9 := Tryz.sizeOf9
  v9 := Tryz.zeroValue9 }
open Go.RowKit in
theorem Tryz.strings_IndexByte (s : ByteArray) (c : Int) (w : World) :
    Calls Tryz.prog 126 #[.string s, .int .u8 c] w fun e w' => e = .returned (.int .i64 (Lib.indexByte s.data.toList c.toNat.toUInt8)) ∧ w' = w := Any.strings_IndexByte Tryz.lays137 s c w
def Tryz.laysM316_ren : Go.Shelf.Ren := ⟨fun | 316 => 127 | n => n, fun | 9 => 9 | 3 => 3 | 4 => 4 | 37 => 171 | 0 => 0 | 127 => 181 | 5 => 5 | n => n, fun | n => n⟩
theorem Tryz.laysM316 : Go.Proofs.LaysM.n316 Tryz.prog Tryz.laysM316_ren := {
  mixed := by kernel_rfl
  f316 := Tryz.func127.trans (congrArg some (by kernel_rfl))
  t0 := Tryz.underlying0
  a0 := Tryz.isAgg0
  z0 := Tryz.sizeOf0
  v0 := Tryz.zeroValue0
  t3 := Tryz.underlying3
  a3 := Tryz.isAgg3
  z3 := Tryz.sizeOf3
  v3 := Tryz.zeroValue3
  t4 := Tryz.underlying4
  a4 := Tryz.isAgg4
  z4 := Tryz.sizeOf4
  v4 := Tryz.zeroValue4
  t9 := Tryz.underlying9
  a9 := Tryz.isAgg9
  z9 := Tryz.sizeOf9
  v9 := Tryz.zeroValue9
  t37 := Tryz.underlying171
  a37 := Tryz.isAgg171
  z37 := Tryz.sizeOf171
  v37 := Tryz.zeroValue171
  t127 := Tryz.underlying181
  a127 := Tryz.isAgg181
  z127 := Tryz.sizeOf181
  v127 := Tryz.zeroValue181
  t5 := Tryz.underlying5
  a5 := Tryz.isAgg5
  z5 := Tryz.sizeOf5
  v5 := Tryz.zeroValue5
  i0 := by kernel_rfl
  i3 := by kernel_rfl
  i4 := by kernel_rfl
  i5 := by kernel_rfl
  i9 := by kernel_rfl
  i37 := by kernel_rfl
  i127 := by kernel_rfl }
open Go.RowKit in
theorem Tryz.stringslite_Clone (s : ByteArray) (w : World) (hlim : s.size ≤ 281474976710656) :
    Calls Tryz.prog 127 #[.string s] w fun e w' => e = .returned (.string s) ∧ Below w.heap.size w w' := Any.stringslite_Clone Tryz.laysM316 s w hlim
def Tryz.lays217_ren : Go.Shelf.Ren := ⟨fun | 217 => 141 | 266 => 145 | n => n, fun | 9 => 9 | 5 => 5 | 3 => 3 | n => n, fun | n => n⟩
theorem Tryz.lays217 : Go.Proofs.Lays.n217 Tryz.prog Tryz.lays217_ren := {
  mixed := by kernel_rfl
  f217 := Tryz.func141.trans (congrArg some (by kernel_rfl))
  f266 := Tryz.func145.trans (congrArg some (by kernel_rfl))
  t3 := Tryz.underlying3
  a3 := Tryz.isAgg3
  z3 := Tryz.sizeOf3
  v3 := Tryz.zeroValue3
  t5 := Tryz.underlying5
  a5 := Tryz.isAgg5
  z5 := Tryz.sizeOf5
  v5 := Tryz.zeroValue5
  t9 := Tryz.underlying9
  a9 := Tryz.isAgg9
  z9 := Tryz.sizeOf9
  v9 := Tryz.zeroValue9 }
open Go.RowKit Go.Lib in
theorem Tryz.stringslite_IndexByte (s : ByteArray) (c : Int) (w : World) :
    Calls Tryz.prog 141 #[.string s, .int .u8 c] w fun e w' => e = .returned (.int .i64 (Lib.indexByte s.data.toList c.toNat.toUInt8)) ∧ w' = w := Any.stringslite_IndexByte Tryz.lays217 s c w
end Go.Proofs
/- What a table of names is in memory; plain facts on it; contracts of act.fault and strings.Clone. -/
namespace Go.Proofs.YthcboklkejlifaaGreatDoor
open Go.RowKit Go.Maps
theorem tab_lt {w : World} {b : Nat} {o : Obj} (h : w.heap[b]? = some o) : b < w.heap.size := (Array.getElem?_eq_some_iff.1 h).1
theorem tab_cells {w : World} {b : Nat} {x y : Value} {t : TypeId} (h : w.heap[b]? = some (.cells #[x, y] t (0, 0))) : w.cell? ⟨b, 0, none⟩ = some x ∧ w.cell? ⟨b, 1, none⟩ = some y := by
  constructor <;> simp [World.cell?, h]
theorem sclone_any (s : ByteArray) (w : World) (hlim : s.size ≤ 281474976710656) :
    Calls Tryz.prog 84 #[.string s] w fun e w' => e = .returned (.string s) ∧ Below w.heap.size w w' := by
  go_enter Tryz.func84, Tryz.ntmps84
  go_wp2_with (go_at_call 127; refine (Tryz.stringslite_Clone _ _ hlim).mono ?_; rintro e w' ⟨rfl, hb⟩)
  go_ret
  exact ⟨rfl, hb⟩
/-- A fault of act that wraps this, in memory. -/
def ActFault (w : World) (b : Nat) (e : Value) : Prop := w.heap[b]? = some (.cells #[.string ⟨#[97, 99, 116]⟩, .int .i64 0, .int .i64 0, e] 60 (0, 0))
def faultV (b : Nat) : Value := .iface 58 (.pointer (some ⟨b, 0, none⟩))
theorem fault_any (T : TypeId) (u : Value) (w : World) : Calls Tryz.prog 130 #[.iface T u] w fun r w' => r = .returned (faultV w.heap.size) ∧ ActFault w' w.heap.size (.iface T u) ∧ Below w.heap.size w w' := by
  go_enter Tryz.func130, Tryz.ntmps130
  go_wp2
  go_ret
  exact ⟨rfl, (MapKept.heap_alloc w _).1, (Below.refl _ _).alloc (Nat.le_refl _) _⟩
/-- All blocks but those of F stand. -/
structure Keeps (F : Nat → Prop) (w w' : World) : Prop where
  os : w'.os = w.os
  tape : w'.tape = w.tape
  output : w'.output = w.output
  size : w.heap.size ≤ w'.heap.size
  block : ∀ k, k < w.heap.size → ¬ F k → w'.heap[k]? = w.heap[k]?
theorem Keeps.refl (F : Nat → Prop) (w : World) : Keeps F w w := ⟨rfl, rfl, rfl, Nat.le_refl _, fun _ _ _ => rfl⟩
theorem Keeps.trans {F : Nat → Prop} {a b c : World} (h : Keeps F a b) (k : Keeps F b c) : Keeps F a c :=
  ⟨k.os.trans h.os, k.tape.trans h.tape, k.output.trans h.output, Nat.le_trans h.size k.size, fun i hi hf => (k.block i (Nat.lt_of_lt_of_le hi h.size) hf).trans (h.block i hi hf)⟩
theorem Keeps.mono {F G : Nat → Prop} {a b : World} (h : Keeps F a b) (hs : ∀ k, k < a.heap.size → F k → G k) : Keeps G a b := ⟨h.os, h.tape, h.output, h.size, fun i hi hg => h.block i hi fun hf => hg (hs i hi hf)⟩
theorem Keeps.of_below {F : Nat → Prop} {a b : World} (h : Below a.heap.size a b) : Keeps F a b := ⟨h.os, h.tape, h.output, h.size, fun i hi _ => h.block i hi⟩
theorem Keeps.of_grown {a b : World} {row : Option Nat} (h : a.grownBy b row) : Keeps (fun i => row = some i) a b := ⟨h.os, h.tape, h.output, h.size, fun i hi hn => h.block i hi fun e => hn e.symm⟩
theorem Keeps.below {F : Nat → Prop} {a b : World} (h : Keeps F a b) {B : Nat} (hB : B ≤ a.heap.size) (hF : ∀ k, F k → B ≤ k) : Below B a b := ⟨h.os, h.tape, h.output, h.size, fun i hi => h.block i (by omega) fun hf => by have := hF i hf; omega⟩
theorem Keeps.setCell (a : World) (b o : Nat) (u : Value) : Keeps (fun i => i = b) a (a.setCell ⟨b, o, none⟩ u) := by
  have h : Below b a (a.setCell ⟨b, o, none⟩ u) := Below.setCell (Below.refl b a) (Nat.le_refl _) u
  refine ⟨h.os, h.tape, h.output, h.size, fun i _ hn => ?_⟩
  simp only [World.setCell]
  rw [Array.getElem?_modify, if_neg (fun e => hn e.symm)]
end Go.Proofs.YthcboklkejlifaaGreatDoor
/- Tables of names in memory: what they hold, what of them stays, and contracts of New, Find and put. -/
namespace Go.Proofs.YthcboklkejlifaaGreatDoor
open Go.RowKit Go.Maps
def skey (s : ByteArray) : Lit := .string s.data.toList
theorem skey_inj {s t : ByteArray} (h : skey s = skey t) : s = t := by
  unfold skey at h
  injection h with h
  cases s; cases t
  simp at h; simp [h]
theorem skey_key (s : ByteArray) : WideAt.IsKeyLit (skey s) := by unfold skey; exact trivial
/-- The map tells each name's place. -/
structure MapOf (D : DataW Unit) (ns : List ByteArray) : Prop where
  yes : ∀ (i : Nat) (s : ByteArray), ns[i]? = some s → Maps.has D (skey s) = true ∧ D.atKey (skey s) (.lit (.int .i64 0)) = .lit (.int .i64 i)
  no : ∀ s : ByteArray, s ∉ ns → Maps.has D (skey s) = false
theorem MapOf.nil : MapOf (.map []) [] := ⟨fun i s h => by simp at h, fun s _ => rfl⟩
theorem MapOf.snoc {D : DataW Unit} {ns : List ByteArray} (h : MapOf D ns) (hD : IsMap D) (s : ByteArray) (hs : s ∉ ns) : MapOf (D.put (skey s) (.lit (.int .i64 ns.length))) (ns ++ [s]) := by
  refine ⟨fun i t ht => ?_, fun t ht => ?_⟩
  · rcases Nat.lt_or_ge i ns.length with hi | hi
    · rw [List.getElem?_append_left hi] at ht
      have hne : skey t ≠ skey s := fun e => hs (skey_inj e ▸ List.mem_of_getElem? ht)
      rw [has_put_other hne, atKey_put_other hne]
      exact h.yes i t ht
    · rw [List.getElem?_append_right hi] at ht
      have hi0 : i - ns.length = 0 := by
        have := (List.getElem?_eq_some_iff.1 ht).1
        simp at this; omega
      rw [hi0] at ht
      simp at ht
      subst ht
      have : i = ns.length := by omega
      subst this
      exact ⟨has_put_same hD (skey_key _) _, atKey_put_same hD (skey_key _) _ _⟩
  · have hne : skey t ≠ skey s := fun e => ht (by rw [skey_inj e]; simp)
    rw [has_put_other hne]
    exact h.no t fun hm => ht (by simp [hm])
theorem MapOf.nodup {D : DataW Unit} {ns : List ByteArray} (h : MapOf D ns) {i j : Nat} {s : ByteArray} (hi : ns[i]? = some s) (hj : ns[j]? = some s) : i = j := by
  have h1 := (h.yes i s hi).2
  rw [(h.yes j s hj).2] at h1
  injection h1 with h1
  injection h1 with _ h1
  omega
/-- The table's map: none yet, or one that tells the names' places. -/
def MapIn (w : World) (vm : Value) (ns : List ByteArray) : Prop := (vm = .map none ∧ ns = []) ∨ ∃ bm D, vm = .map (some bm) ∧ w.ownsMap (H := Unit) Tryz.prog 9 (plainElem Tryz.prog 3) bm ns.length D ∧ MapOf D ns
/-- A table in block b, with its names and its map. -/
structure Tab (w : World) (b : Nat) (vn vm : Value) (ns : List ByteArray) : Prop where
  cell : w.heap[b]? = some (.cells #[vn, vm] 104 (0, 0))
  row : w.ownsRow 0 9 1 vn ns.length (ns.map Value.string)
  map : MapIn w vm ns
  len : ns.length ≤ 100
  strs : ∀ s ∈ ns, s.size ≤ 32
/-- The blocks of a table. -/
def Foot (b : Nat) (vn vm : Value) (i : Nat) : Prop := i = b ∨ vn.ownBlock = some i ∨ vm = .map (some i)
theorem Tab.foot_lt {w : World} {b : Nat} {vn vm : Value} {ns : List ByteArray} (h : Tab w b vn vm ns) {i : Nat} (hi : Foot b vn vm i) : i < w.heap.size := by
  rcases hi with rfl | hi | hi
  · exact tab_lt h.cell
  · exact (h.row.lt i hi).2
  · rcases h.map with ⟨rfl, _⟩ | ⟨bm, D, rfl, ho, _⟩
    · cases hi
    · injection hi with hi
      injection hi with hi
      exact hi ▸ ho.lt
theorem ownsRow_at {w w' : World} {base : Nat} {e : TypeId} {size : Nat} {v : Value} {n : Nat} {xs : List Value} (h : w.ownsRow base e size v n xs) (hb : ∀ i, v.ownBlock = some i → w'.heap[i]? = w.heap[i]?) : w'.ownsRow base e size v n xs := by
  refine ⟨h.1, ?_⟩
  rcases h.2 with h2 | ⟨g, cap, cur, rfl, h3, hg, h4⟩
  · exact .inl h2
  · exact .inr ⟨g, cap, cur, rfl, h3, by rw [hb g rfl]; exact hg, h4⟩
theorem ownsMap_at {w w' : World} {k : TypeId} {R : Value → Option (DataW Unit × List MemPlace)} {b n : Nat} {D : DataW Unit} (h : w.ownsMap Tryz.prog k R b n D) (hb : w'.heap[b]? = w.heap[b]?) : w'.ownsMap Tryz.prog k R b n D := by
  obtain ⟨es, clock, h1, h2⟩ := h
  exact ⟨es, clock, hb.trans h1, h2⟩
theorem MapIn.at {w w' : World} {vm : Value} {ns : List ByteArray} (h : MapIn w vm ns) (hb : ∀ i, vm = .map (some i) → w'.heap[i]? = w.heap[i]?) : MapIn w' vm ns := by
  rcases h with h | ⟨bm, D, rfl, ho, hm⟩
  · exact .inl h
  · exact .inr ⟨bm, D, rfl, ownsMap_at ho (hb bm rfl), hm⟩
/-- A table stays where its blocks do. -/
theorem Tab.at {w w' : World} {b : Nat} {vn vm : Value} {ns : List ByteArray} (h : Tab w b vn vm ns) (hb : ∀ i, Foot b vn vm i → w'.heap[i]? = w.heap[i]?) : Tab w' b vn vm ns :=
  ⟨by rw [hb b (.inl rfl)]; exact h.cell, ownsRow_at h.row fun i hi => hb i (.inr (.inl hi)), h.map.at fun i hi => hb i (.inr (.inr hi)), h.len, h.strs⟩
theorem Tab.below {w w' : World} {b : Nat} {vn vm : Value} {ns : List ByteArray} (h : Tab w b vn vm ns) (hb : Below w.heap.size w w') : Tab w' b vn vm ns := h.at fun i hi => hb.block i (h.foot_lt hi)
theorem Tab.keeps {w w' : World} {b : Nat} {vn vm : Value} {ns : List ByteArray} {F : Nat → Prop} (h : Tab w b vn vm ns) (hk : Keeps F w w') (hF : ∀ i, Foot b vn vm i → ¬ F i) : Tab w' b vn vm ns := h.at fun i hi => hk.block i (h.foot_lt hi) (hF i hi)
theorem new_any (w : World) : Calls Tryz.prog 77 #[] w fun r w' => r = .returned (.pointer (some ⟨w.heap.size, 0, none⟩)) ∧ Tab w' w.heap.size (.slice none 0 0) (.map none) [] ∧ Below w.heap.size w w' := by
  go_enter Tryz.func77, Tryz.ntmps77
  go_wp2
  go_ret
  exact ⟨rfl, ⟨(MapKept.heap_alloc w _).1, World.ownsRow_nil _ _ _ _, .inl ⟨rfl, rfl⟩, by simp, by simp⟩, (Below.refl _ _).alloc (Nat.le_refl _) _⟩
theorem Tryz.lawS : Keyed Tryz.prog 9 := string_keyed Tryz.underlying9
theorem Tryz.zeroI (w : World) : (zeroValue 3).run Tryz.prog w = .ok (.int .i64 0) w := by kernel_rfl
theorem Tryz.infoS : (Tryz.prog.info? 9).map (fun i => (i.zero, i.size, i.bytes)) = some (some (.string ⟨#[]⟩), 1, 16) := by kernel_rfl
set_option maxRecDepth 100000 in
set_option maxHeartbeats 1000000 in
/-- Find of a name that is there. -/
theorem find_yes (b : Nat) (vn vm : Value) (ns : List ByteArray) (s : ByteArray) (i : Nat) (w : World) (hT : Tab w b vn vm ns) (hi : ns[i]? = some s) :
    Calls Tryz.prog 115 #[.pointer (some ⟨b, 0, none⟩), .string s] w fun r w' => r = .returned (.tuple #[.int .i64 i, .nilIface]) ∧ w' = w := by
  obtain ⟨hc0, hc1⟩ := tab_cells hT.cell
  have hs := hT.strs s (List.mem_of_getElem? hi)
  rcases hT.map with ⟨_, rfl⟩ | ⟨bm, D, rfl, ho, hm⟩
  · simp at hi
  obtain ⟨hy1, hy2⟩ := hm.yes i s hi
  have hkey : keyOf Tryz.prog 9 (.string s) = some (skey s) := Go.WideMaps.keyOf_string_mk Tryz.underlying9 (by unfold maxLen; omega)
  have HO : Hid (w.ownsMap (H := Unit) Tryz.prog 9 (plainElem Tryz.prog 3) bm ns.length D) := ho
  have HY : Hid (D.atKey (skey s) (.lit (.int .i64 0)) = .lit (.int .i64 i)) := hy2
  clear hT hm ho hy2 hi
  go_enter Tryz.func115, Tryz.ntmps115
  go_wp2_with (at_lookup; refine wpList_lookup_own_ok_int _ rfl _ _ 102 rfl 9 3 .i64 Tryz.lawS Tryz.underlying102 Tryz.underlying3 (Tryz.zeroI _) bm ns.length D rfl HO.out _ _ rfl hkey ?_; rw [hy1]; intro c hat hwc; obtain rfl : c = (i : Int) := (by rw [HY.out] at hat; injection hat with hat; injection hat with _ hat; exact hat.symm))
  go_ret2
  exact ⟨rfl, rfl⟩
set_option maxRecDepth 100000 in
set_option maxHeartbeats 1000000 in
/-- Find of a name that is not there. -/
theorem find_no (b : Nat) (vn vm : Value) (ns : List ByteArray) (s : ByteArray) (T : TypeId) (u : Value) (w : World) (hT : Tab w b vn vm ns) (hi : s ∉ ns) (hs : s.size ≤ maxLen) (hU : w.cell? ⟨7, 0, none⟩ = some (.iface T u)) :
    Calls Tryz.prog 115 #[.pointer (some ⟨b, 0, none⟩), .string s] w fun r w' => r = .returned (.tuple #[.int .i64 0, faultV w.heap.size]) ∧ ActFault w' w.heap.size (.iface T u) ∧ Below w.heap.size w w' := by
  obtain ⟨hc0, hc1⟩ := tab_cells hT.cell
  have hkey : keyOf Tryz.prog 9 (.string s) = some (skey s) := Go.WideMaps.keyOf_string_mk Tryz.underlying9 hs
  rcases hT.map with ⟨rfl, rfl⟩ | ⟨bm, D, rfl, ho, hm⟩
  · have hl := Maps.look_nil (P := Tryz.prog) (w := w) true Tryz.lawS Tryz.underlying102 (Tryz.zeroI w) hkey
    clear hT hi
    go_enter Tryz.func115, Tryz.ntmps115
    go_wp2_with (go_at_call 130; refine (fault_any _ _ _).mono ?_; rintro r w' ⟨rfl, hF, hb⟩)
    go_ret2
    exact ⟨rfl, hF, hb⟩
  have hy1 := hm.no s hi
  have HO : Hid (w.ownsMap (H := Unit) Tryz.prog 9 (plainElem Tryz.prog 3) bm ns.length D) := ho
  clear hT hm ho hi
  go_enter Tryz.func115, Tryz.ntmps115
  go_wp2_with (first | (at_lookup; refine wpList_lookup_own_ok_int _ rfl _ _ 102 rfl 9 3 .i64 Tryz.lawS Tryz.underlying102 Tryz.underlying3 (Tryz.zeroI _) bm ns.length D rfl HO.out _ _ rfl hkey ?_; rw [hy1]; intro c hat hwc) | (go_at_call 130; refine (fault_any _ _ _).mono ?_; rintro r w' ⟨rfl, hF, hb⟩))
  go_ret2
  exact ⟨rfl, hF, hb⟩
end Go.Proofs.YthcboklkejlifaaGreatDoor
