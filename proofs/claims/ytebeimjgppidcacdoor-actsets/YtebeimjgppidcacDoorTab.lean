/- Tables of names in memory: what they hold, what of them stays, and contracts of New, Find and put. -/
import Derived.Test.YtebeimjgppidcacDoorTable
namespace Go.Proofs.YtebeimjgppidcacDoor
open Go.RowKit Go.Maps
def skey (s : ByteArray) : Lit := .string s.data.toList
theorem skey_inj {s t : ByteArray} (h : skey s = skey t) : s = t := by
  unfold skey at h
  injection h with h
  cases s; cases t
  simp at h; simp [h]
theorem skey_key (s : ByteArray) : WideAt.IsKeyLit (skey s) := by unfold skey; exact trivial
/-- The map tells each name's place. -/
structure MapOf (D : DataW Unit) (ns : List ByteArray) : Prop where
  yes : ∀ (i : Nat) (s : ByteArray), ns[i]? = some s → Maps.has D (skey s) = true ∧ D.atKey (skey s) (.lit (.int .i64 0)) = .lit (.int .i64 i)
  no : ∀ s : ByteArray, s ∉ ns → Maps.has D (skey s) = false
theorem MapOf.nil : MapOf (.map []) [] := ⟨fun i s h => by simp at h, fun s _ => rfl⟩
theorem MapOf.snoc {D : DataW Unit} {ns : List ByteArray} (h : MapOf D ns) (hD : IsMap D) (s : ByteArray) (hs : s ∉ ns) : MapOf (D.put (skey s) (.lit (.int .i64 ns.length))) (ns ++ [s]) := by
  refine ⟨fun i t ht => ?_, fun t ht => ?_⟩
  · rcases Nat.lt_or_ge i ns.length with hi | hi
    · rw [List.getElem?_append_left hi] at ht
      have hne : skey t ≠ skey s := fun e => hs (skey_inj e ▸ List.mem_of_getElem? ht)
      rw [has_put_other hne, atKey_put_other hne]
      exact h.yes i t ht
    · rw [List.getElem?_append_right hi] at ht
      have hi0 : i - ns.length = 0 := by
        have := (List.getElem?_eq_some_iff.1 ht).1
        simp at this; omega
      rw [hi0] at ht
      simp at ht
      subst ht
      have : i = ns.length := by omega
      subst this
      exact ⟨has_put_same hD (skey_key _) _, atKey_put_same hD (skey_key _) _ _⟩
  · have hne : skey t ≠ skey s := fun e => ht (by rw [skey_inj e]; simp)
    rw [has_put_other hne]
    exact h.no t fun hm => ht (by simp [hm])
theorem MapOf.nodup {D : DataW Unit} {ns : List ByteArray} (h : MapOf D ns) {i j : Nat} {s : ByteArray} (hi : ns[i]? = some s) (hj : ns[j]? = some s) : i = j := by
  have h1 := (h.yes i s hi).2
  rw [(h.yes j s hj).2] at h1
  injection h1 with h1
  injection h1 with _ h1
  omega
/-- The table's map: none yet, or one that tells the names' places. -/
def MapIn (w : World) (vm : Value) (ns : List ByteArray) : Prop := (vm = .map none ∧ ns = []) ∨ ∃ bm D, vm = .map (some bm) ∧ w.ownsMap (H := Unit) Tryd.prog 9 (plainElem Tryd.prog 3) bm ns.length D ∧ MapOf D ns
/-- A table in block b, with its names and its map. -/
structure Tab (w : World) (b : Nat) (vn vm : Value) (ns : List ByteArray) : Prop where
  cell : w.heap[b]? = some (.cells #[vn, vm] 68 (0, 0))
  row : w.ownsRow 0 9 1 vn ns.length (ns.map Value.string)
  map : MapIn w vm ns
  len : ns.length ≤ 100
  strs : ∀ s ∈ ns, s.size ≤ 32
/-- The blocks of a table. -/
def Foot (b : Nat) (vn vm : Value) (i : Nat) : Prop := i = b ∨ vn.ownBlock = some i ∨ vm = .map (some i)
theorem Tab.foot_lt {w : World} {b : Nat} {vn vm : Value} {ns : List ByteArray} (h : Tab w b vn vm ns) {i : Nat} (hi : Foot b vn vm i) : i < w.heap.size := by
  rcases hi with rfl | hi | hi
  · exact tab_lt h.cell
  · exact (h.row.lt i hi).2
  · rcases h.map with ⟨rfl, _⟩ | ⟨bm, D, rfl, ho, _⟩
    · cases hi
    · injection hi with hi
      injection hi with hi
      exact hi ▸ ho.lt
theorem ownsRow_at {w w' : World} {base : Nat} {e : TypeId} {size : Nat} {v : Value} {n : Nat} {xs : List Value} (h : w.ownsRow base e size v n xs) (hb : ∀ i, v.ownBlock = some i → w'.heap[i]? = w.heap[i]?) : w'.ownsRow base e size v n xs := by
  refine ⟨h.1, ?_⟩
  rcases h.2 with h2 | ⟨g, cap, cur, rfl, h3, hg, h4⟩
  · exact .inl h2
  · exact .inr ⟨g, cap, cur, rfl, h3, by rw [hb g rfl]; exact hg, h4⟩
theorem ownsMap_at {w w' : World} {k : TypeId} {R : Value → Option (DataW Unit × List MemPlace)} {b n : Nat} {D : DataW Unit} (h : w.ownsMap Tryd.prog k R b n D) (hb : w'.heap[b]? = w.heap[b]?) : w'.ownsMap Tryd.prog k R b n D := by
  obtain ⟨es, clock, h1, h2⟩ := h
  exact ⟨es, clock, hb.trans h1, h2⟩
theorem MapIn.at {w w' : World} {vm : Value} {ns : List ByteArray} (h : MapIn w vm ns) (hb : ∀ i, vm = .map (some i) → w'.heap[i]? = w.heap[i]?) : MapIn w' vm ns := by
  rcases h with h | ⟨bm, D, rfl, ho, hm⟩
  · exact .inl h
  · exact .inr ⟨bm, D, rfl, ownsMap_at ho (hb bm rfl), hm⟩
/-- A table stays where its blocks do. -/
theorem Tab.at {w w' : World} {b : Nat} {vn vm : Value} {ns : List ByteArray} (h : Tab w b vn vm ns) (hb : ∀ i, Foot b vn vm i → w'.heap[i]? = w.heap[i]?) : Tab w' b vn vm ns :=
  ⟨by rw [hb b (.inl rfl)]; exact h.cell, ownsRow_at h.row fun i hi => hb i (.inr (.inl hi)), h.map.at fun i hi => hb i (.inr (.inr hi)), h.len, h.strs⟩
theorem Tab.below {w w' : World} {b : Nat} {vn vm : Value} {ns : List ByteArray} (h : Tab w b vn vm ns) (hb : Below w.heap.size w w') : Tab w' b vn vm ns := h.at fun i hi => hb.block i (h.foot_lt hi)
theorem Tab.keeps {w w' : World} {b : Nat} {vn vm : Value} {ns : List ByteArray} {F : Nat → Prop} (h : Tab w b vn vm ns) (hk : Keeps F w w') (hF : ∀ i, Foot b vn vm i → ¬ F i) : Tab w' b vn vm ns := h.at fun i hi => hk.block i (h.foot_lt hi) (hF i hi)
theorem new_any (w : World) : Calls Tryd.prog 34 #[] w fun r w' => r = .returned (.pointer (some ⟨w.heap.size, 0, none⟩)) ∧ Tab w' w.heap.size (.slice none 0 0) (.map none) [] ∧ Below w.heap.size w w' := by
  go_enter Tryd.func34, Tryd.ntmps34
  go_wp2
  go_ret
  exact ⟨rfl, ⟨(MapKept.heap_alloc w _).1, World.ownsRow_nil _ _ _ _, .inl ⟨rfl, rfl⟩, by simp, by simp⟩, (Below.refl _ _).alloc (Nat.le_refl _) _⟩
theorem Tryd.lawS : Keyed Tryd.prog 9 := string_keyed Tryd.underlying9
theorem Tryd.zeroI (w : World) : (zeroValue 3).run Tryd.prog w = .ok (.int .i64 0) w := by kernel_rfl
theorem Tryd.infoS : (Tryd.prog.info? 9).map (fun i => (i.zero, i.size, i.bytes)) = some (some (.string ⟨#[]⟩), 1, 16) := by kernel_rfl
set_option maxRecDepth 100000 in
set_option maxHeartbeats 1000000 in
/-- Find of a name that is there. -/
theorem find_yes (b : Nat) (vn vm : Value) (ns : List ByteArray) (s : ByteArray) (i : Nat) (w : World) (hT : Tab w b vn vm ns) (hi : ns[i]? = some s) :
    Calls Tryd.prog 22 #[.pointer (some ⟨b, 0, none⟩), .string s] w fun r w' => r = .returned (.tuple #[.int .i64 i, .nilIface]) ∧ w' = w := by
  obtain ⟨hc0, hc1⟩ := tab_cells hT.cell
  have hs := hT.strs s (List.mem_of_getElem? hi)
  rcases hT.map with ⟨_, rfl⟩ | ⟨bm, D, rfl, ho, hm⟩
  · simp at hi
  obtain ⟨hy1, hy2⟩ := hm.yes i s hi
  have hkey : keyOf Tryd.prog 9 (.string s) = some (skey s) := Go.WideMaps.keyOf_string_mk Tryd.underlying9 (by unfold maxLen; omega)
  have HO : Hid (w.ownsMap (H := Unit) Tryd.prog 9 (plainElem Tryd.prog 3) bm ns.length D) := ho
  have HY : Hid (D.atKey (skey s) (.lit (.int .i64 0)) = .lit (.int .i64 i)) := hy2
  clear hT hm ho hy2 hi
  go_enter Tryd.func22, Tryd.ntmps22
  go_wp2_with (at_lookup; refine wpList_lookup_own_ok_int _ rfl _ _ 66 rfl 9 3 .i64 Tryd.lawS Tryd.underlying66 Tryd.underlying3 (Tryd.zeroI _) bm ns.length D rfl HO.out _ _ rfl hkey ?_; rw [hy1]; intro c hat hwc; obtain rfl : c = (i : Int) := (by rw [HY.out] at hat; injection hat with hat; injection hat with _ hat; exact hat.symm))
  go_ret2
  exact ⟨rfl, rfl⟩
set_option maxRecDepth 100000 in
set_option maxHeartbeats 1000000 in
/-- Find of a name that is not there. -/
theorem find_no (b : Nat) (vn vm : Value) (ns : List ByteArray) (s : ByteArray) (T : TypeId) (u : Value) (w : World) (hT : Tab w b vn vm ns) (hi : s ∉ ns) (hs : s.size ≤ maxLen) (hU : w.cell? ⟨3, 0, none⟩ = some (.iface T u)) :
    Calls Tryd.prog 22 #[.pointer (some ⟨b, 0, none⟩), .string s] w fun r w' => r = .returned (.tuple #[.int .i64 0, faultV w.heap.size]) ∧ ActFault w' w.heap.size (.iface T u) ∧ Below w.heap.size w w' := by
  obtain ⟨hc0, hc1⟩ := tab_cells hT.cell
  have hkey : keyOf Tryd.prog 9 (.string s) = some (skey s) := Go.WideMaps.keyOf_string_mk Tryd.underlying9 hs
  rcases hT.map with ⟨rfl, rfl⟩ | ⟨bm, D, rfl, ho, hm⟩
  · have hl := Maps.look_nil (P := Tryd.prog) (w := w) true Tryd.lawS Tryd.underlying66 (Tryd.zeroI w) hkey
    clear hT hi
    go_enter Tryd.func22, Tryd.ntmps22
    go_wp2_with (go_at_call 43; refine (fault_any _ _ _).mono ?_; rintro r w' ⟨rfl, hF, hb⟩)
    go_ret2
    exact ⟨rfl, hF, hb⟩
  have hy1 := hm.no s hi
  have HO : Hid (w.ownsMap (H := Unit) Tryd.prog 9 (plainElem Tryd.prog 3) bm ns.length D) := ho
  clear hT hm ho hi
  go_enter Tryd.func22, Tryd.ntmps22
  go_wp2_with (first | (at_lookup; refine wpList_lookup_own_ok_int _ rfl _ _ 66 rfl 9 3 .i64 Tryd.lawS Tryd.underlying66 Tryd.underlying3 (Tryd.zeroI _) bm ns.length D rfl HO.out _ _ rfl hkey ?_; rw [hy1]; intro c hat hwc) | (go_at_call 43; refine (fault_any _ _ _).mono ?_; rintro r w' ⟨rfl, hF, hb⟩))
  go_ret2
  exact ⟨rfl, hF, hb⟩
end Go.Proofs.YtebeimjgppidcacDoor
