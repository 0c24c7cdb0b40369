/- Texts of this claim, joined: Put, Pure. -/
import Derived.Test.YthcboklkejlifaaGreatDoorPart0
import Derived.Deep.AppendLies
import GoSem.Claim
/- Contract of the table's put: a new name stands behind the others. -/
namespace Go.Proofs.YthcboklkejlifaaGreatDoor
open Go.RowKit Go.Maps
theorem tab_free {w : World} {b : Nat} {cs : Array Value} {t : TypeId} (h : w.heap[b]? = some (.cells cs t (0, 0))) (k : Nat) : w.frozen? ⟨b, k, none⟩ = false := by simp [World.frozen?, h]
theorem row_form {w : World} {base : Nat} {e : TypeId} {size : Nat} {v : Value} {n : Nat} {xs : List Value} (h : w.ownsRow base e size v n xs) : ∃ ao cap, v = .slice ao n cap := by
  rcases h.2 with ⟨rfl, h0⟩ | ⟨g, cap, cur, rfl, _⟩
  · exact ⟨none, 0, by rw [h0]⟩
  · exact ⟨_, _, rfl⟩
theorem Tryz.eqMapSome (bm : Nat) (w : World) : (binOp BinOp.eql 102 (.map (some bm)) (.map none)).run Tryz.prog w = .ok (.bool false) w := by kernel_rfl
theorem Tryz.eqMapNone (w : World) : (binOp BinOp.eql 102 (.map none) (.map none)).run Tryz.prog w = .ok (.bool true) w := by kernel_rfl
theorem Tab.apart {w : World} {b : Nat} {vn vm : Value} {ns : List ByteArray} (h : Tab w b vn vm ns) : vn.ownBlock ≠ some b := by
  intro e
  rcases h.row.2 with ⟨rfl, _⟩ | ⟨g, cap, cur, rfl, _, hg, _⟩
  · cases e
  · simp only [Value.ownBlock, Option.some.injEq] at e
    rw [e, h.cell] at hg
    simp at hg
theorem row_map {w : World} {base : Nat} {e : TypeId} {size : Nat} {v : Value} {n : Nat} {xs : List Value} {k : TypeId} {R : Value → Option (DataW Unit × List MemPlace)} {bm m : Nat} {D : DataW Unit} (h : w.ownsRow base e size v n xs) (ho : w.ownsMap Tryz.prog k R bm m D) : v.ownBlock ≠ some bm := by
  intro e
  obtain ⟨es, clock, hb, _⟩ := ho
  rcases h.2 with ⟨rfl, _⟩ | ⟨g, cap, cur, rfl, _, hg, _⟩
  · cases e
  · simp only [Value.ownBlock, Option.some.injEq] at e
    rw [e, hb] at hg
    cases hg
theorem cells_map {w : World} {b bm : Nat} {cs : Array Value} {t : TypeId} {f : Nat × Nat} {k : TypeId} {R : Value → Option (DataW Unit × List MemPlace)} {m : Nat} {D : DataW Unit} (h : w.heap[b]? = some (.cells cs t f)) (ho : w.ownsMap Tryz.prog k R bm m D) : bm ≠ b := by
  intro e
  obtain ⟨es, clock, hb, _⟩ := ho
  rw [e, h] at hb
  cases hb
theorem heap_setCell_other (w : World) (b o i : Nat) (u : Value) (h : i ≠ b) : (w.setCell ⟨b, o, none⟩ u).heap[i]? = w.heap[i]? := by
  simp only [World.setCell]
  rw [Array.getElem?_modify, if_neg (fun e => h e.symm)]
/-- The world behind the append. -/
theorem put_w2 {w1 w2 : World} {b : Nat} {vn vm : Value} {ns : List ByteArray} {x : Obj} (hT : Tab w1 b vn vm ns) (hg : (w1.alloc x).grownBy w2 vn.ownBlock) : w2.heap[b]? = some (.cells #[vn, vm] 104 (0, 0)) := by
  have hlt := tab_lt hT.cell
  rw [hg.block b (by simp; omega) (fun e => hT.apart e.symm), Below.heap_alloc w1 x b hlt]
  exact hT.cell
theorem put_m2 {w1 w2 : World} {b bm m : Nat} {vn vm : Value} {ns : List ByteArray} {x : Obj} {k : TypeId} {R : Value → Option (DataW Unit × List MemPlace)} {D : DataW Unit} (hT : Tab w1 b vn vm ns) (ho : w1.ownsMap Tryz.prog k R bm m D) (hg : (w1.alloc x).grownBy w2 vn.ownBlock) : w2.ownsMap Tryz.prog k R bm m D :=
  (ho.alloc x).kept hg (fun e => row_map hT.row ho e.symm)
theorem put_fin {w w1 w2 w3 : World} {b bm : Nat} {vn v' : Value} {ns : List ByteArray} {s : ByteArray} {x : Obj} {D : DataW Unit} (hT : Tab w b vn (.map (some bm)) ns) (ho : w.ownsMap (H := Unit) Tryz.prog 9 (plainElem Tryz.prog 3) bm ns.length D) (hm : MapOf D ns) (hi : s ∉ ns) (hs : s.size ≤ 32) (hn : ns.length < 100)
    (hb1 : Below w.heap.size w w1) (hown' : w2.ownsRow 0 9 1 v' (ns.length + 1) (ns.map Value.string ++ [.string s])) (hgrow : (w1.alloc x).grownBy w2 vn.ownBlock) (hat : v'.ownBlock = vn.ownBlock ∨ v'.ownBlock = some (w1.alloc x).heap.size)
    (hown3 : w3.ownsMap (H := Unit) Tryz.prog 9 (plainElem Tryz.prog 3) bm (ns.length + 1) (D.put (skey s) (.lit (.int .i64 ns.length)))) (hgrow3 : (w2.setCell ⟨b, 0, none⟩ v').grownBy w3 (some bm)) :
    Tab w3 b v' (.map (some bm)) (ns ++ [s]) ∧ Keeps (Foot b vn (.map (some bm))) w w3 ∧ (v'.ownBlock = vn.ownBlock ∨ ∃ g, v'.ownBlock = some g ∧ w.heap.size ≤ g) := by
  have hT1 := hT.below hb1
  have ho1 := ownsMap_at ho (hb1.block _ ho.lt)
  have hB2 := put_w2 hT1 hgrow
  have hm2 := put_m2 hT1 ho1 hgrow
  have hne : bm ≠ b := cells_map hT.cell ho
  have hsz : (w2.setCell ⟨b, 0, none⟩ v').heap.size = w2.heap.size := by simp [World.setCell]
  have hb2 := tab_lt hB2
  refine ⟨⟨?_, ?_, .inr ⟨bm, _, rfl, ?_, hm.snoc ho.isMap s hi⟩, ?_, ?_⟩, ?_, ?_⟩
  · rw [hgrow3.block b (by omega) (fun e => hne (Option.some.inj e).symm), heap_setCell_same _ b 0 _ _ _ hB2]
    rfl
  · have h1 : w3.ownsRow 0 9 1 v' (ns.length + 1) (ns.map Value.string ++ [.string s]) := ownsRow_at hown' fun i hv => by
      have hlt := (hown'.lt i hv).2
      have hib : i ≠ b := by
        rintro rfl
        rcases hown'.2 with ⟨rfl, _⟩ | ⟨g, cap, cur, rfl, _, hg, _⟩
        · cases hv
        · simp only [Value.ownBlock, Option.some.injEq] at hv
          rw [hv, hB2] at hg
          simp at hg
      have him : i ≠ bm := fun e => row_map hown' hm2 (e ▸ hv)
      rw [hgrow3.block i (by omega) (fun e => him (Option.some.inj e)), heap_setCell_other _ _ _ _ _ hib]
    simpa using h1
  · simpa using hown3
  · simp; omega
  · intro t ht
    rcases List.mem_append.1 ht with ht | ht
    · exact hT.strs t ht
    · rw [List.mem_singleton.1 ht]; exact hs
  · have k1 : Keeps (Foot b vn (.map (some bm))) w w1 := .of_below hb1
    have k2 : Keeps (Foot b vn (.map (some bm))) w1 (w1.alloc x) := .of_below ((Below.refl _ _).alloc (Nat.le_refl _) _)
    have k3 : Keeps (Foot b vn (.map (some bm))) (w1.alloc x) w2 := (Keeps.of_grown hgrow).mono fun k _ h => .inr (.inl h)
    have k4 : Keeps (Foot b vn (.map (some bm))) w2 (w2.setCell ⟨b, 0, none⟩ v') := (Keeps.setCell w2 b 0 v').mono fun k _ h => .inl h
    have k5 : Keeps (Foot b vn (.map (some bm))) (w2.setCell ⟨b, 0, none⟩ v') w3 := (Keeps.of_grown hgrow3).mono fun k _ h => .inr (.inr (by rw [h]))
    exact (((k1.trans k2).trans k3).trans k4).trans k5
  · rcases hat with h | h
    · exact .inl h
    · exact .inr ⟨_, h, by have := hb1.size; simp; omega⟩
theorem str_one (s : ByteArray) : ∀ u ∈ [Value.string s], u.oneCell' = true := by
  intro u hu
  rw [List.mem_singleton.1 hu]; rfl
set_option maxRecDepth 100000 in
set_option maxHeartbeats 1000000 in
theorem put_some (b bm : Nat) (vn : Value) (D : DataW Unit) (ns : List ByteArray) (s : ByteArray) (w : World) (hT : Tab w b vn (.map (some bm)) ns) (ho : w.ownsMap (H := Unit) Tryz.prog 9 (plainElem Tryz.prog 3) bm ns.length D) (hm : MapOf D ns) (hi : s ∉ ns) (hs : s.size ≤ 32) (hn : ns.length < 100) :
    Calls Tryz.prog 132 #[.pointer (some ⟨b, 0, none⟩), .string s] w fun r w' => r = .returned (.int .i64 ns.length) ∧ ∃ vn', Tab w' b vn' (.map (some bm)) (ns ++ [s]) ∧ Keeps (Foot b vn (.map (some bm))) w w' ∧ (vn'.ownBlock = vn.ownBlock ∨ ∃ g, vn'.ownBlock = some g ∧ w.heap.size ≤ g) := by
  obtain ⟨ao, cap, rfl⟩ := row_form hT.row
  obtain ⟨hc0, hc1⟩ := tab_cells hT.cell
  obtain ⟨i0, hi0, hz0, hz1, hz2⟩ := info_parts Tryz.infoS
  have hx : s.size ≤ 281474976710656 := by omega
  have hkey : keyOf Tryz.prog 9 (.string s) = some (skey s) := Go.WideMaps.keyOf_string_mk Tryz.underlying9 (by unfold maxLen; omega)
  have hml : ns.length + 1 ≤ maxLen := by unfold maxLen; omega
  have hml2 : ns.length < maxLen := by unfold maxLen; omega
  have hby : (ns.length + 1) * 16 ≤ 140737488355328 := by omega
  have HT : Hid (Tab w b (.slice ao ns.length cap) (.map (some bm)) ns ∧ w.ownsMap (H := Unit) Tryz.prog 9 (plainElem Tryz.prog 3) bm ns.length D ∧ MapOf D ns ∧ s ∉ ns) := ⟨hT, ho, hm, hi⟩
  clear hT ho hm hi
  have hq := Tryz.eqMapSome bm
  go_enter Tryz.func132, Tryz.ntmps132
  go_wp2_with fail
  refine (sclone_any _ _ hx).mono ?_
  rintro r1 w1 ⟨rfl, hb1⟩
  have HT1 := HT.out.1.below hb1
  have ho1 := ownsMap_at HT.out.2.1 (hb1.block _ HT.out.2.1.lt)
  obtain ⟨d0, d1⟩ := tab_cells HT1.cell
  have HW1 : Hid (Tab w1 b (.slice ao ns.length cap) (.map (some bm)) ns ∧ w1.ownsMap (H := Unit) Tryz.prog 9 (plainElem Tryz.prog 3) bm ns.length D ∧ Below w.heap.size w w1) := ⟨HT1, ho1, hb1⟩
  clear hb1 HT1 ho1 hc0 hc1
  go_wp2_with (first
    | (at_builtin; refine wpList_append_own_at _ rfl _ _ 22 rfl 0 9 i0 (.string ⟨#[]⟩) 1 16 Tryz.underlying22 hi0 hz0 hz1 hz2 rfl (by decide) _ _ _ rfl (HW1.out.1.row.alloc _) ⟨w1.heap.size, 0, none⟩ 1 1 [.string s] rfl rfl (cell_one_new _ _ _) (str_one s) hml hby (Nat.zero_le _) ?_; intro v' w2 hown' hgrow hnil hat; obtain ⟨gg, cap', rfl, _, _⟩ := hown'.form (Nat.succ_pos _); have hB2 := put_w2 HW1.out.1 hgrow; have hM2 := put_m2 HW1.out.1 HW1.out.2.1 hgrow; have hne := cells_map hB2 hM2; obtain ⟨g0, g1⟩ := tab_cells hB2; have hf := tab_free hB2 0; have H2 : Hid _ := And.intro hown' (And.intro hgrow (And.intro hat hM2)); clear hown' hgrow hat hM2 hnil hB2 d0 d1)
    | (at_mapUpdate; refine wpList_mapUpdate_own _ rfl _ _ _ 102 rfl 9 3 Tryz.lawS Tryz.underlying102 _ bm ns.length D rfl (H2.out.2.2.2.setCell hne _) hml2 _ _ _ rfl rfl hkey _ [] (plainElem_int Tryz.underlying3 (WalkArith.wf_i64 (by omega))) ?_; intro w3 hown3 hgrow3))
  go_ret
  exact ⟨rfl, _, put_fin HT.out.1 HT.out.2.1 HT.out.2.2.1 HT.out.2.2.2 hs hn HW1.out.2.2 H2.out.1 H2.out.2.1 H2.out.2.2.1 hown3 hgrow3⟩
/-- The world behind the making of the map. -/
def madeW (w : World) (b : Nat) : World := (w.setCell ⟨b, 1, none⟩ (.map (some w.heap.size))).alloc (.map #[] 0)
theorem made_tab {w : World} {b : Nat} {vn : Value} (hT : Tab w b vn (.map none) []) : Tab (madeW w b) b vn (.map (some w.heap.size)) [] ∧ (madeW w b).ownsMap (H := Unit) Tryz.prog 9 (plainElem Tryz.prog 3) w.heap.size 0 (.map []) ∧ Keeps (Foot b vn (.map none)) w (madeW w b) := by
  have hlt := tab_lt hT.cell
  have hsz : (w.setCell ⟨b, 1, none⟩ (.map (some w.heap.size))).heap.size = w.heap.size := by simp [World.setCell]
  have h1 : (w.setCell ⟨b, 1, none⟩ (.map (some w.heap.size))).heap[b]? = some (.cells #[vn, .map (some w.heap.size)] 104 (0, 0)) := by rw [heap_setCell_same _ b 1 _ _ _ hT.cell]; rfl
  have h2 : (madeW w b).heap[b]? = some (.cells #[vn, .map (some w.heap.size)] 104 (0, 0)) := by
    unfold madeW
    rw [Below.heap_alloc _ _ b (by omega)]; exact h1
  have h3 : (madeW w b).ownsMap (H := Unit) Tryz.prog 9 (plainElem Tryz.prog 3) w.heap.size 0 (.map []) := by
    have := World.ownsMap_made (H := Unit) (w.setCell ⟨b, 1, none⟩ (.map (some w.heap.size))) Tryz.prog 9 (plainElem Tryz.prog 3)
    rw [hsz] at this
    exact this
  refine ⟨⟨h2, ?_, .inr ⟨_, _, rfl, h3, MapOf.nil⟩, hT.len, hT.strs⟩, h3, ?_⟩
  · refine World.ownsRow.alloc (ownsRow_at hT.row fun i hi => ?_) _
    exact heap_setCell_other _ _ _ _ _ fun e => hT.apart (e ▸ hi)
  · exact ((Keeps.setCell w b 1 _).mono fun k _ h => .inl h).trans (Keeps.of_below ((Below.refl _ _).alloc (Nat.le_refl _) _))
theorem Keeps.foot {w w0 w3 : World} {b bm : Nat} {vn : Value} (h0 : Keeps (Foot b vn (.map none)) w w0) (hbm : w.heap.size ≤ bm) (h : Keeps (Foot b vn (.map (some bm))) w0 w3) : Keeps (Foot b vn (.map none)) w w3 :=
  ⟨h.os.trans h0.os, h.tape.trans h0.tape, h.output.trans h0.output, Nat.le_trans h0.size h.size, fun i hi hf => (h.block i (Nat.lt_of_lt_of_le hi h0.size) (fun hg => by
    rcases hg with hg | hg | hg
    · exact hf (.inl hg)
    · exact hf (.inr (.inl hg))
    · injection hg with hg; injection hg with hg; omega)).trans (h0.block i hi hf)⟩
set_option maxRecDepth 100000 in
set_option maxHeartbeats 1000000 in
theorem put_none (b : Nat) (vn : Value) (s : ByteArray) (w : World) (hT : Tab w b vn (.map none) []) (hs : s.size ≤ 32) :
    Calls Tryz.prog 132 #[.pointer (some ⟨b, 0, none⟩), .string s] w fun r w' => r = .returned (.int .i64 0) ∧ ∃ vn', Tab w' b vn' (.map (some w.heap.size)) [s] ∧ Keeps (Foot b vn (.map none)) w w' ∧ (vn'.ownBlock = vn.ownBlock ∨ ∃ g, vn'.ownBlock = some g ∧ w.heap.size ≤ g) := by
  obtain ⟨ao, cap, rfl⟩ := row_form hT.row
  obtain ⟨hc0, hc1⟩ := tab_cells hT.cell
  have hlt := tab_lt hT.cell
  have hf1 : (w.alloc (.map #[] 0)).frozen? ⟨b, 1, none⟩ = false := tab_free (by rw [Below.heap_alloc w _ b hlt]; exact hT.cell) 1
  obtain ⟨i0, hi0, hz0, hz1, hz2⟩ := info_parts Tryz.infoS
  have hx : s.size ≤ 281474976710656 := by omega
  have hkey : keyOf Tryz.prog 9 (.string s) = some (skey s) := Go.WideMaps.keyOf_string_mk Tryz.underlying9 (by unfold maxLen; omega)
  obtain ⟨hT0, ho0, hk0⟩ := made_tab hT
  have HT : Hid (Tab (madeW w b) b (.slice ao 0 cap) (.map (some w.heap.size)) [] ∧ (madeW w b).ownsMap (H := Unit) Tryz.prog 9 (plainElem Tryz.prog 3) w.heap.size 0 (.map []) ∧ Keeps (Foot b (.slice ao 0 cap) (.map none)) w (madeW w b)) := ⟨hT0, ho0, hk0⟩
  clear hT hT0 ho0 hk0
  have hq := Tryz.eqMapNone
  have hmm := @run_makeMap Tryz.prog
  go_enter Tryz.func132, Tryz.ntmps132
  go_wp2_with fail
  obtain ⟨wm, hwm⟩ : ∃ wm, wm = madeW w b := ⟨_, rfl⟩
  rw [← hwm] at HT
  rw [show (w.setCell ⟨b, 1, none⟩ (.map (some w.heap.size))).alloc (.map #[] 0) = wm from hwm.symm]
  clear hwm hc0 hc1 hf1
  refine (sclone_any _ _ hx).mono ?_
  rintro r1 w1 ⟨rfl, hb1⟩
  have HT1 := HT.out.1.below hb1
  have ho1 := ownsMap_at HT.out.2.1 (hb1.block _ HT.out.2.1.lt)
  obtain ⟨d0, d1⟩ := tab_cells HT1.cell
  have HW1 : Hid (Tab w1 b (.slice ao 0 cap) (.map (some w.heap.size)) [] ∧ w1.ownsMap (H := Unit) Tryz.prog 9 (plainElem Tryz.prog 3) w.heap.size 0 (.map []) ∧ Below wm.heap.size wm w1) := ⟨HT1, ho1, hb1⟩
  clear hb1 HT1 ho1
  go_wp2_with (first
    | (at_builtin; refine wpList_append_own_at _ rfl _ _ 22 rfl 0 9 i0 (.string ⟨#[]⟩) 1 16 Tryz.underlying22 hi0 hz0 hz1 hz2 rfl (by decide) _ 0 [] rfl (HW1.out.1.row.alloc _) ⟨w1.heap.size, 0, none⟩ 1 1 [.string s] rfl rfl (cell_one_new _ _ _) (str_one s) (by decide) (by decide) (Nat.zero_le _) ?_; intro v' w2 hown' hgrow hnil hat; obtain ⟨gg, cap', rfl, _, _⟩ := hown'.form (Nat.succ_pos _); have hB2 := put_w2 HW1.out.1 hgrow; have hM2 := put_m2 HW1.out.1 HW1.out.2.1 hgrow; have hne := cells_map hB2 hM2; obtain ⟨g0, g1⟩ := tab_cells hB2; have hf := tab_free hB2 0; have H2 : Hid _ := And.intro hown' (And.intro hgrow (And.intro hat hM2)); clear hown' hgrow hat hM2 hnil hB2 d0 d1)
    | (at_mapUpdate; refine wpList_mapUpdate_own _ rfl _ _ _ 102 rfl 9 3 Tryz.lawS Tryz.underlying102 _ w.heap.size 0 (.map []) rfl (H2.out.2.2.2.setCell hne _) (by decide) _ _ _ rfl rfl hkey _ [] (plainElem_int Tryz.underlying3 (WalkArith.wf_i64 (by omega))) ?_; intro w3 hown3 hgrow3))
  go_ret
  obtain ⟨r1, r2, r3⟩ := put_fin (ns := []) HT.out.1 HT.out.2.1 MapOf.nil (by simp) hs (by decide) HW1.out.2.2 H2.out.1 H2.out.2.1 H2.out.2.2.1 hown3 hgrow3
  exact ⟨rfl, _, r1, HT.out.2.2.foot (Nat.le_refl _) r2, r3.imp id fun ⟨g, h1, h2⟩ => ⟨g, h1, Nat.le_trans HT.out.2.2.size h2⟩⟩
end Go.Proofs.YthcboklkejlifaaGreatDoor
/- The plain functions on bytes and words that the contracts of this seat speak of, with small facts on them; nothing of the program is in it. -/
namespace Go.Proofs.YthcboklkejlifaaGreatDoor
namespace Lx

def smallZ (c : Int) : Bool := decide (97 ≤ c ∧ c ≤ 122)
def greatZ (c : Int) : Bool := decide (65 ≤ c ∧ c ≤ 90)
def digitZ (c : Int) : Bool := decide (48 ≤ c ∧ c ≤ 57)
def markZ (c : Int) : Bool := [61, 43, 124, 46, 92, 123, 125, 91, 93, 40, 41, 44, 47, 39, 60, 62, 126, 38, 45, 58, 59].contains c
/-- What may be done at a byte. -/
def powZ (c : Int) : Int :=
  if smallZ c || greatZ c then 7 else if digitZ c then 3 else if c == 95 then 1
  else if c == 32 || c == 9 || c == 13 then 16 else if c == 35 then 32 else if c == 10 then 64 else if markZ c then 8 else 0
/-- A byte of a run. -/
def goB (c : Int) : Bool := smallZ c || greatZ c || digitZ c || c == 95
/-- How long a run is. -/
def runLen : List UInt8 → Nat
  | [] => 0
  | c :: r => if goB (c.toNat : Int) then runLen r + 1 else 0
def runE (l : List UInt8) (k : Nat) : Nat := k + runLen (l.drop k)

theorem runLen_le (l : List UInt8) : runLen l ≤ l.length := by
  induction l with
  | nil => simp [runLen]
  | cons c r ih => simp only [runLen]; split <;> simp <;> omega
theorem runE_ge (l : List UInt8) (k : Nat) : k ≤ runE l k := by unfold runE; omega
theorem runE_le (l : List UInt8) (k : Nat) (h : k ≤ l.length) : runE l k ≤ l.length := by
  have := runLen_le (l.drop k)
  simp at this
  unfold runE; omega
theorem drop_cons (l : List UInt8) (k : Nat) (h : k < l.length) : l.drop k = l[k] :: l.drop (k + 1) := by
  rw [List.drop_eq_getElem_cons h]
theorem runE_yes (l : List UInt8) (k : Nat) (h : k < l.length) (g : goB (l[k].toNat : Int) = true) : runE l (k + 1) = runE l k := by
  unfold runE
  rw [drop_cons l k h]
  simp only [runLen, g, if_true]; omega
theorem runE_no (l : List UInt8) (k : Nat) (h : k < l.length) (g : goB (l[k].toNat : Int) = false) : runE l k = k := by
  unfold runE
  rw [drop_cons l k h]
  simp [runLen, g]
theorem runE_end (l : List UInt8) : runE l l.length = l.length := by
  unfold runE; simp [runLen]
theorem low_ite (p : Prop) [Decidable p] (a b : Int) (ha : a % 2 = 0) (hb : b % 2 = 0) : (if p then a else b) % 2 = 0 := by split <;> assumption
theorem goB_pow (c : Int) : goB c = (powZ c % 2 == 1) := by
  unfold goB powZ
  cases h1 : (smallZ c || greatZ c) with
  | true => simp
  | false =>
    cases h2 : digitZ c with
    | true => simp
    | false =>
      cases h3 : (c == 95) with
      | true => simp
      | false =>
        have h : (if (c == 32 || c == 9 || c == 13) = true then (16 : Int) else if (c == 35) = true then 32 else if (c == 10) = true then 64 else if markZ c = true then 8 else 0) % 2 = 0 :=
          low_ite _ _ _ (by decide) (low_ite _ _ _ (by decide) (low_ite _ _ _ (by decide) (low_ite _ _ _ (by decide) (by decide))))
        simp only [Bool.or_false, Bool.false_eq_true, if_false]
        rw [h]; rfl
/-- A number's digits, one behind the other; none, if it grows too great. -/
def foldN : Nat → List UInt8 → Option Nat
  | n, [] => some n
  | n, c :: r => if (1073741824 - (c.toNat - 48)) / 10 < n then none else foldN (10 * n + (c.toNat - 48)) r
def allDig (l : List UInt8) : Bool := l.all fun c => digitZ (c.toNat : Int)
def badHead (l : List UInt8) : Bool := l == [] || (l.head? == some 48 && l != [48])
/-- A number's value and the code of what is wrong. -/
def numR (l : List UInt8) : Nat × Nat :=
  if badHead l || !allDig l then (0, 4) else match foldN 0 l with
    | some v => (v, 0)
    | none => (0, 2)
theorem allDig_at (l : List UInt8) (h : allDig l = true) (k : Nat) (hk : k < l.length) : digitZ (l[k].toNat : Int) = true := by
  unfold allDig at h
  exact List.all_eq_true.1 h _ (List.getElem_mem hk)
theorem not_allDig (l : List UInt8) (k : Nat) (hk : k < l.length) (h : digitZ (l[k].toNat : Int) = false) : allDig l = false := by
  cases e : allDig l with
  | false => rfl
  | true => rw [allDig_at l e k hk] at h; cases h
theorem allDig_of (l : List UInt8) (h : ∀ k (hk : k < l.length), digitZ (l[k].toNat : Int) = true) : allDig l = true := by
  unfold allDig
  refine List.all_eq_true.2 fun x hx => ?_
  obtain ⟨k, hk, rfl⟩ := List.getElem_of_mem hx
  exact h k hk
theorem foldN_step (l : List UInt8) (k n : Nat) (hk : k < l.length) (h : ¬ (1073741824 - (l[k].toNat - 48)) / 10 < n) : foldN n (l.drop k) = foldN (10 * n + (l[k].toNat - 48)) (l.drop (k + 1)) := by
  rw [drop_cons l k hk]; simp only [foldN, if_neg h]
theorem foldN_stop (l : List UInt8) (k n : Nat) (hk : k < l.length) (h : (1073741824 - (l[k].toNat - 48)) / 10 < n) : foldN n (l.drop k) = none := by
  rw [drop_cons l k hk]; simp only [foldN, if_pos h]
/-- How long the rest of a line is. -/
def lineLen : List UInt8 → Nat
  | [] => 0
  | c :: r => if c.toNat = 10 then 0 else lineLen r + 1
def lineE (l : List UInt8) (k : Nat) : Nat := k + lineLen (l.drop k)
theorem lineLen_le (l : List UInt8) : lineLen l ≤ l.length := by
  induction l with
  | nil => simp [lineLen]
  | cons c r ih => simp only [lineLen]; split <;> simp <;> omega
theorem lineE_le (l : List UInt8) (k : Nat) (h : k ≤ l.length) : lineE l k ≤ l.length := by
  have := lineLen_le (l.drop k)
  simp at this
  unfold lineE; omega
theorem lineE_yes (l : List UInt8) (k : Nat) (h : k < l.length) (g : l[k].toNat ≠ 10) : lineE l (k + 1) = lineE l k := by
  unfold lineE
  rw [drop_cons l k h]
  simp only [lineLen, g, if_false]; omega
theorem lineE_no (l : List UInt8) (k : Nat) (h : k < l.length) (g : l[k].toNat = 10) : lineE l k = k := by
  unfold lineE
  rw [drop_cons l k h]
  simp [lineLen, g]
theorem lineE_end (l : List UInt8) : lineE l l.length = l.length := by
  unfold lineE; simp [lineLen]
end Lx
end Go.Proofs.YthcboklkejlifaaGreatDoor
