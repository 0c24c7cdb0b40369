/- Texts of this claim, joined: BXEdges, SyRight, SyForms, SyProg, SyOne0, SyNum, BSame, SyEq, SyCls, RfClasses, RfSO, RoPure, SgPure, SgPst, SgRun. -/
import Derived.Test.YtkiapldehlnndaaGreatDoorPart1
import Derived.Deep.QuietTactic
import Derived.BigQuiet
import Derived.Test.YtkiapldehlnndaaGreatDoorPart0
import Derived.Maps.OwnSet
import Derived.WalkSmall
import Derived.Deep.LoopGhost
import GoSem.Claim
/- The book's lists of Edges: what it holds in memory, and contracts of the book's parts over them. (Written by mkbx.py out of BX.tmpl.) -/
namespace Go.Proofs.YtkiapldehlnndaaGreatDoor.BEdges
open Go.RowKit Go.Maps
attribute [local go_sem ↓] Go.wp_at_zero Go.wp_at_succ
abbrev El : Type := Int × Int × Int
def enc (z : El) : List Value := [.int .i64 z.1, .int .i64 z.2.1, .int .i64 z.2.2]
def C (zs : List El) : List Value := zs.flatMap enc
theorem enc_len (z : El) : (enc z).length = 3 := rfl
theorem C_len (zs : List El) : (C zs).length = zs.length * 3 := by
 unfold C
 induction zs with
 | nil => rfl
 | cons z r ih => rw [List.flatMap_cons, List.length_append, ih, enc_len, List.length_cons]; omega
theorem C_app (a b : List El) : C (a ++ b) = C a ++ C b := List.flatMap_append
theorem C_one (zs : List El) : ∀ u ∈ C zs, u.oneCell' = true := fun u hu => by
 obtain ⟨z, _, hz⟩ := List.mem_flatMap.1 hu
 simp only [enc, List.mem_cons, List.not_mem_nil, or_false] at hz
 rcases hz with rfl | rfl | rfl <;> rfl
theorem C_at : ∀ (zs : List El) (k : Nat) (z : El), zs[k]? = some z → ∀ q, q < 3 → (C zs)[k * 3 + q]? = (enc z)[q]?
 | [], _, _, h, _, _ => by simp at h
 | y :: r, 0, z, h, q, hq => by
   simp at h
   subst h
   show (enc y ++ C r)[0 * 3 + q]? = _
   rw [List.getElem?_append_left (by rw [enc_len]; omega)]
   congr 1
   omega
 | y :: r, k + 1, z, h, q, hq => by
   have ih := C_at r k z (by simpa using h) q hq
   show (enc y ++ C r)[(k + 1) * 3 + q]? = _
   rw [List.getElem?_append_right (by rw [enc_len]; omega), enc_len, ← ih]
   congr 1
   omega
theorem C_set (zs : List El) {k : Nat} (hk : k < zs.length) (x : El) : C (zs.set k x) = ((((C zs).set (k * 3) (.int .i64 x.1)).set (k * 3 + 1) (.int .i64 x.2.1)).set (k * 3 + 2) (.int .i64 x.2.2)) := by
 apply List.ext_getElem?
 intro j
 by_cases hj : j / 3 = k
 ·obtain ⟨q, hq, rfl⟩ : ∃ q, q < 3 ∧ j = k * 3 + q := ⟨j % 3, Nat.mod_lt _ (by decide), by omega⟩
  rw [C_at (zs.set k x) k x (List.getElem?_set_self hk) q hq]
  have hl : (C zs).length = zs.length * 3 := C_len zs
  have hq' : q = 0 ∨ q = 1 ∨ q = 2 := by omega
  rcases hq' with rfl | rfl | rfl <;> simp [List.getElem?_set, hl, enc] <;> omega
 ·have e : (C (zs.set k x))[j]? = (C zs)[j]? := by
   rcases Nat.lt_or_ge (j / 3) zs.length with h | h
   ·obtain ⟨z, hz⟩ : ∃ z, zs[j / 3]? = some z := ⟨_, List.getElem?_eq_getElem h⟩
    have hz' : (zs.set k x)[j / 3]? = some z := by rw [List.getElem?_set_ne (fun e => hj e.symm)]; exact hz
    have e0 : j = j / 3 * 3 + j % 3 := by omega
    rw [e0, C_at _ _ z hz' _ (Nat.mod_lt _ (by decide)), C_at _ _ z hz _ (Nat.mod_lt _ (by decide))]
   ·rw [List.getElem?_eq_none (by rw [C_len, List.length_set]; omega), List.getElem?_eq_none (by rw [C_len]; omega)]
  rw [e]
  rw [List.getElem?_set_ne (by omega), List.getElem?_set_ne (by omega), List.getElem?_set_ne (by omega)]
def Own (w : World) (B : Nat) (v : Value) (zs : List El) : Prop := w.ownsRow B 72 3 v zs.length (C zs)
def Has (w : World) (v : Value) (zs : List El) : Prop := ∃ ao cap, v = .slice ao zs.length cap ∧ ∀ (j : Nat) (u : Value), (C zs)[j]? = some u → ∃ a, ao = some a ∧ w.cell? (a.add j) = some u
theorem Has.below {w w' : World} {v : Value} {zs : List El} (h : Has w v zs) (hb : Below w.heap.size w w') : Has w' v zs := by
 obtain ⟨ao, cap, h1, h2⟩ := h
 refine ⟨ao, cap, h1, fun i p hi => ?_⟩
 obtain ⟨a, ha, c0⟩ := h2 i p hi
 exact ⟨a, ha, (hb.cell (World.block_lt_of_cell? w _ c0)).trans c0⟩
theorem C_nil {zs : List El} (h : zs ≠ []) : ∃ u, (C zs)[0]? = some u := by
 cases zs with
 | nil => exact absurd rfl h
 | cons z r =>
   have h1 := C_at (z :: r) 0 z rfl 0 (by decide)
   have h2 : (enc z)[0]? = some ((enc z)[0]'(by rw [enc_len]; decide)) := List.getElem?_eq_getElem _
   exact ⟨_, h1.trans h2⟩
theorem Own.at {w : World} {B g cap n : Nat} {zs : List El} (h : Own w B (.slice (some ⟨g, 0, none⟩) n cap) zs) {j : Nat} {u : Value} (hj : (C zs)[j]? = some u) : w.cell? ⟨g, j, none⟩ = some u := by
 obtain ⟨ao', cap', hv⟩ := row_shape h
 injection hv with _ e _
 subst e
 have h' : w.ownsRow B 72 3 (.slice (some ⟨g, 0, none⟩) zs.length cap) zs.length (C zs) := h
 rw [h'.cellAt j (by rw [← h'.1]; exact (List.getElem?_eq_some_iff.1 hj).1), hj]
theorem Own.has {w : World} {B : Nat} {v : Value} {zs : List El} (h : Own w B v zs) : Has w v zs := by
 obtain ⟨ao, cap, hv⟩ := row_shape h
 refine ⟨ao, cap, hv, fun j u hj => ?_⟩
 have hlt := (List.getElem?_eq_some_iff.1 hj).1
 rw [C_len] at hlt
 obtain ⟨g, c, hf, _, _⟩ := World.ownsRow.form h (by omega)
 rw [hv] at hf
 injection hf with e1 e2 e3
 subst e1; subst e3
 refine ⟨_, rfl, ?_⟩
 rw [addz]
 rw [hv] at h
 exact Own.at h hj
theorem add_q (a : Addr) (m q : Nat) : (a.add m).add q = a.add (m + q) := by
 unfold Addr.add
 by_cases h1 : m = 0 <;> by_cases h2 : q = 0 <;> simp [h1, h2] <;> omega
theorem copy_of {w : World} {ao : Option Addr} {n cap : Nat} {zs : List El} (h : Has w (.slice ao n cap) zs) : (ao = none → n = 0) ∧ ∀ ad, ao = some ad → ∀ j u, (C zs)[j]? = some u → w.cell? (ad.add j) = some u := by
 obtain ⟨ao', cap', hv, h2⟩ := h
 injection hv with e1 e2 e3
 subst e1
 refine ⟨fun e => ?_, fun ad e j u hj => ?_⟩
 ·rw [e2]
  by_cases hz : zs = []
  ·rw [hz]; rfl
  ·obtain ⟨u, hu⟩ := C_nil hz
   obtain ⟨a, ha, _⟩ := h2 0 u hu
   rw [e] at ha; cases ha
 ·obtain ⟨a, ha, hc⟩ := h2 j u hj
  rw [e] at ha
  cases ha
  exact hc
def mk1 (i k : Nat) : El := (-1 - (i : Int), (k : Int), 7)
def marks (i f n : Nat) : List El := (List.range n).map fun k => mk1 i (f + k)
theorem Tryz.infoE : (Tryz.prog.info? 72).map (fun i => (i.zero, i.size, i.bytes)) = some (some (.agg #[.int .i64 0, .int .i64 0, .int .i64 0]), 3, 24) := by kernel_rfl
theorem C_snoc (zs : List El) (z : El) : C (zs ++ [z]) = C zs ++ enc z := by
 rw [C_app]
 show _ ++ (enc z ++ []) = _
 rw [List.append_nil]
end Go.Proofs.YtkiapldehlnndaaGreatDoor.BEdges
/- Contracts of the document's Right and Check of systems. -/
namespace Go.Proofs.YtkiapldehlnndaaGreatDoor
open Go.RowKit Go.Maps
attribute [local go_sem ↓] Go.wp_at_zero Go.wp_at_succ
def sysV (n k s : Int) (v : Value) : Value := .agg #[.int .i64 n, .int .i64 k, .int .i64 s, v]
theorem four_cells {w : World} {b : Nat} {x0 x1 x2 x3 : Value} {t : TypeId} (h : w.heap[b]? = some (.cells #[x0, x1, x2, x3] t (0, 0))) : w.cell? ⟨b, 0, none⟩ = some x0 ∧ w.cell? ⟨b, 1, none⟩ = some x1 ∧ w.cell? ⟨b, 2, none⟩ = some x2 ∧ w.cell? ⟨b, 3, none⟩ = some x3 := by
 simp [World.cell?, h]
set_option maxRecDepth 100000 in
set_option maxHeartbeats 4000000 in
theorem right_a (n k s : Int) (ao : Option Addr) (m cap : Nat) (w : World) (h : ¬ (0 ≤ n ∧ n ≤ 1000 ∧ 1 ≤ k ∧ k ≤ 201 ∧ m ≤ 10000)) :
 Calls Tryz.prog 31 #[sysV n k s (.slice ao m cap)] w fun e w' => e = .returned (.bool false) ∧ Below w.heap.size w w' := by
 unfold sysV
 have hc : n < 0 ∨ ¬ n < 0 ∧ (1000 < n ∨ ¬ 1000 < n ∧ (k < 1 ∨ ¬ k < 1 ∧ (201 < k ∨ ¬ 201 < k ∧ (10000 : Int) < (m : Int)))) := by omega
 rcases hc with h1 | ⟨h1, h2 | ⟨h2, h3 | ⟨h3, h4 | ⟨h4, h5⟩⟩⟩⟩
 all_goals
  clear h
  go_enter Tryz.func31, Tryz.ntmps31
  go_wp2
  go_ret
  exact ⟨rfl, (Below.refl _ _).alloc (Nat.le_refl _) _⟩
set_option maxRecDepth 100000 in
set_option maxHeartbeats 4000000 in
theorem right_b (n k s : Int) (ao : Option Addr) (m cap : Nat) (w : World) (h : 0 ≤ n ∧ n ≤ 1000 ∧ 1 ≤ k ∧ k ≤ 201 ∧ m ≤ 10000) (hs : ¬ ((n = 0 → s = 0) ∧ (0 < n → 0 ≤ s ∧ s < n))) :
 Calls Tryz.prog 31 #[sysV n k s (.slice ao m cap)] w fun e w' => e = .returned (.bool false) ∧ Below w.heap.size w w' := by
 unfold sysV
 obtain ⟨h1, h2, h3, h4, h5⟩ := h
 have g1 : ¬ n < 0 := by omega
 have g2 : ¬ 1000 < n := by omega
 have g3 : ¬ k < 1 := by omega
 have g4 : ¬ 201 < k := by omega
 have g5 : ¬ (10000 : Int) < (m : Int) := by omega
 have hc : (n == 0) = true ∧ (s != 0) = true ∨ (n == 0) = false ∧ 0 < n ∧ (s < 0 ∨ ¬ s < 0 ∧ n ≤ s) := by
  by_cases e : n = 0
  ·left; simp [e]; intro e2; exact hs ⟨fun _ => e2, fun h => by omega⟩
  ·right
   refine ⟨by simpa using e, by omega, ?_⟩
   by_cases e2 : s < 0
   ·exact .inl e2
   ·exact .inr ⟨e2, by
     by_cases e3 : n ≤ s
     ·exact e3
     ·exact absurd ⟨fun h => absurd h e, fun _ => ⟨by omega, by omega⟩⟩ hs⟩
 clear hs h1 h2 h3 h4 h5
 rcases hc with ⟨e1, e2⟩ | ⟨e1, e2, e3 | ⟨e3, e4⟩⟩
 all_goals
  go_enter Tryz.func31, Tryz.ntmps31
  go_wp2
  go_ret
  exact ⟨rfl, (Below.refl _ _).alloc (Nat.le_refl _) _⟩
theorem edge_at {w : World} {ao : Option Addr} {n cap : Nat} {es : List BEdges.El} (h : BEdges.Has w (.slice ao n cap) es) {j : Nat} {z : BEdges.El} (hz : es[j]? = some z) :
 ∃ a, ao = some a ∧ w.cell? (a.add (j * 3)) = some (.int .i64 z.1) ∧ w.cell? ⟨(a.add (j * 3)).block, (a.add (j * 3)).off + 1, none⟩ = some (.int .i64 z.2.1) ∧ w.cell? ⟨(a.add (j * 3)).block, (a.add (j * 3)).off + 2, none⟩ = some (.int .i64 z.2.2) := by
 obtain ⟨ao', cap', hv, hc⟩ := h
 injection hv with e1 e2 e3
 subst e1
 obtain ⟨a, rfl, c0⟩ := hc (j * 3 + 0) _ ((BEdges.C_at es j z hz 0 (by decide)).trans rfl)
 obtain ⟨a1, e1, c1⟩ := hc (j * 3 + 1) _ ((BEdges.C_at es j z hz 1 (by decide)).trans rfl)
 cases e1
 obtain ⟨a2, e2, c2⟩ := hc (j * 3 + 2) _ ((BEdges.C_at es j z hz 2 (by decide)).trans rfl)
 cases e2
 refine ⟨a, rfl, by simpa using c0, ?_, ?_⟩
 ·rw [← BEdges.add_q] at c1; exact c1
 ·rw [← BEdges.add_q] at c2; exact c2
def edgeOk (n k : Int) (e : Sy.Ed) : Bool := decide (0 ≤ e.1 ∧ e.1 < n ∧ 0 ≤ e.2.2 ∧ e.2.2 < n ∧ 0 ≤ e.2.1 ∧ e.2.1 < k)
set_option maxRecDepth 100000 in
set_option maxHeartbeats 8000000 in
theorem right_c (n k s : Int) (v : Value) (es : List Sy.Ed) (w : World) (hv : BEdges.Has w v es) (h : 0 ≤ n ∧ n ≤ 1000 ∧ 1 ≤ k ∧ k ≤ 201 ∧ es.length ≤ 10000) (hs : (n = 0 → s = 0) ∧ (0 < n → 0 ≤ s ∧ s < n)) :
 Calls Tryz.prog 31 #[sysV n k s v] w fun e w' => e = .returned (.bool (es.all (edgeOk n k))) ∧ Below w.heap.size w w' := by
 unfold sysV
 obtain ⟨ao, cap, rfl, _⟩ := _root_.id hv
 obtain ⟨m, hm⟩ : ∃ m, m = es.length := ⟨_, rfl⟩
 have HV : Hid _ := And.intro hv hm
 rw [← hm] at h ⊢
 obtain ⟨h1, h2, h3, h4, h5⟩ := h
 have g1 : ¬ n < 0 := by omega
 have g2 : ¬ 1000 < n := by omega
 have g3 : ¬ k < 1 := by omega
 have g4 : ¬ 201 < k := by omega
 have g5 : ¬ (10000 : Int) < (m : Int) := by omega
 have hc : (n == 0) = true ∧ (s != 0) = false ∧ ¬ 0 < n ∨ (n == 0) = false ∧ 0 < n ∧ ¬ s < 0 ∧ ¬ n ≤ s := by
  by_cases e : n = 0
  ·left; simp [e, hs.1 e]
  ·right; have := hs.2 (by omega); exact ⟨by simpa using e, by omega, by omega, by omega⟩
 clear hv hm hs
 rcases hc with ⟨c1, c2, c3⟩ | ⟨c1, c2, c3, c4⟩
 all_goals
  go_enter Tryz.func31, Tryz.ntmps31
  go_wp2_with fail
  go_loopg [3] m (fun q iv wr => ∃ i : Nat, q = m - i ∧ i ≤ m ∧ iv = .int .i64 i ∧ Below w.heap.size w wr ∧ wr.heap[w.heap.size]? = some (.cells #[.int .i64 n, .int .i64 k, .int .i64 s, .slice ao m cap] 24 (0, 0)) ∧ (es.take i).all (edgeOk n k) = true)
  case atStart => exact ⟨0, rfl, Nat.zero_le _, rfl, (Below.refl _ _).alloc (Nat.le_refl _) _, heap_alloc_new w _, by simp⟩
  case round =>
   obtain ⟨i, rfl, hi, rfl, hb, hB, hall⟩ := hrel
   obtain ⟨b0, b1, b2, b3⟩ := four_cells hB
   have n2 : w.heap.size < wr.heap.size := t_lt hB
   have n1 : ¬ w.heap.size = wr.heap.size := by omega
   have HB : Hid _ := And.intro hb (And.intro hB hall)
   clear hb hB hall
   by_cases hlt : i < m
   ·obtain ⟨z, hz⟩ : ∃ z, es[i]? = some z := ⟨es[i]'(by have := HV.out.2; omega), List.getElem?_eq_getElem _⟩
    obtain ⟨a, rfl, z0, z1, z2⟩ := edge_at (HV.out.1.below HB.out.1) hz
    have q0 : (0 : Int) ≤ (i : Int) := by omega
    have q1 : (i : Int) < (m : Int) := by omega
    have HZ : Hid (es[i]? = some z) := hz
    clear hz
    by_cases hok : edgeOk n k z = true
    ·have hk := of_decide_eq_true hok
     obtain ⟨k1, k2, k3, k4, k5, k6⟩ := hk
     have r1 : ¬ z.1 < 0 := by omega
     have r2 : ¬ n ≤ z.1 := by omega
     have r3 : ¬ z.2.2 < 0 := by omega
     have r4 : ¬ n ≤ z.2.2 := by omega
     have r5 : ¬ z.2.1 < 0 := by omega
     have r6 : ¬ k ≤ z.2.1 := by omega
     have HOK : Hid (edgeOk n k z = true) := hok
     clear hok k1 k2 k3 k4 k5 k6
     first
      | (exfalso; omega)
      | (go_wp2
         go_roundg (m - (i + 1))
         case measure => omega
         case rel => exact ⟨i + 1, rfl, by omega, by go_num, HB.out.1.alloc HB.out.1.size _, by rw [Below.heap_alloc wr _ _ (t_lt HB.out.2.1)]; exact HB.out.2.1, by rw [take_succ_of HZ.out, List.all_append, HB.out.2.2]; simp [HOK.out]⟩)
    ·have hk : z.1 < 0 ∨ ¬ z.1 < 0 ∧ (n ≤ z.1 ∨ ¬ n ≤ z.1 ∧ (z.2.2 < 0 ∨ ¬ z.2.2 < 0 ∧ (n ≤ z.2.2 ∨ ¬ n ≤ z.2.2 ∧ (z.2.1 < 0 ∨ ¬ z.2.1 < 0 ∧ k ≤ z.2.1)))) := by
      have : ¬ (0 ≤ z.1 ∧ z.1 < n ∧ 0 ≤ z.2.2 ∧ z.2.2 < n ∧ 0 ≤ z.2.1 ∧ z.2.1 < k) := fun h => hok (decide_eq_true h)
      omega
     have HF : Hid (es.all (edgeOk n k) = false) := (by
      rw [List.all_eq_false]
      exact ⟨z, List.mem_of_getElem? HZ.out, hok⟩ : es.all (edgeOk n k) = false)
     clear hok
     rcases hk with r1 | ⟨r1, r2 | ⟨r2, r3 | ⟨r3, r4 | ⟨r4, r5 | ⟨r5, r6⟩⟩⟩⟩⟩
     all_goals
      first
       | (exfalso; omega)
       | (go_wp2; go_ret; exact ⟨by rw [HF.out]; rfl, HB.out.1.alloc HB.out.1.size _⟩)
   ·obtain rfl : i = m := by omega
    have q1 : ¬ (i : Int) < (i : Int) := by omega
    go_wp2
    go_ret
    refine ⟨?_, HB.out.1⟩
    have h9 := HB.out.2.2
    rw [List.take_of_length_le (by have := HV.out.2; omega)] at h9
    rw [h9]
    rfl
theorem right_any (n k s : Int) (v : Value) (es : List Sy.Ed) (w : World) (hv : BEdges.Has w v es) :
 Calls Tryz.prog 31 #[sysV n k s v] w fun e w' => e = .returned (.bool (Sy.right n k s es)) ∧ Below w.heap.size w w' := by
 unfold Sy.right
 by_cases h1 : 0 ≤ n ∧ n ≤ 1000 ∧ 1 ≤ k ∧ k ≤ 201 ∧ es.length ≤ 10000
 ·by_cases h2 : (n = 0 → s = 0) ∧ (0 < n → 0 ≤ s ∧ s < n)
  ·rw [decide_eq_true h1, decide_eq_true h2]
   exact right_c n k s v es w hv h1 h2
  ·rw [decide_eq_false h2, Bool.and_false, Bool.false_and]
   obtain ⟨ao, cap, rfl, _⟩ := hv
   exact right_b n k s ao es.length cap w h1 h2
 ·rw [decide_eq_false h1, Bool.false_and, Bool.false_and]
  obtain ⟨ao, cap, rfl, _⟩ := hv
  exact right_a n k s ao es.length cap w h1
end Go.Proofs.YtkiapldehlnndaaGreatDoor
/- Contracts of the document's Together and Classes. -/
namespace Go.Proofs.YtkiapldehlnndaaGreatDoor
open Go.RowKit Go.Maps
attribute [local go_sem ↓] Go.wp_at_zero Go.wp_at_succ
theorem Sy.top_snoc (l : List Nat) (k : Nat) : Sy.top (l ++ [k]) = max (Sy.top l) (k + 1) := by
 induction l with
 | nil => simp [Sy.top]
 | cons a r ih => simp only [List.cons_append, Sy.top, ih]; omega
theorem Sy.canon_lt (zs : List Int) : ∀ k ∈ Sy.canon zs, k < zs.length := fun k hk => by
 have h1 := Sy.canonG_bound zs [] k hk
 have h2 := Sy.seenG_len zs []
 simp at h2; omega
set_option maxRecDepth 100000 in
set_option maxHeartbeats 4000000 in
theorem refTogether_any (v : Value) (zs : List Int) (w : World) (hv : HasI w v zs) (hn : zs.length ≤ 100000) :
 Calls Tryz.prog 47 #[v] w fun e w' => e = .returned (.int .i64 (Sy.together zs : Nat)) ∧ Below w.heap.size w w' := by
 have HC : Hid _ := refCanon_any v zs w hv hn
 obtain ⟨cs, hcs⟩ : ∃ cs, cs = Sy.canon zs := ⟨_, rfl⟩
 have hlen : cs.length = zs.length := by rw [hcs]; exact Sy.canonG_len zs []
 have HL : Hid _ := And.intro hcs (And.intro hlen (Sy.canon_lt zs))
 unfold Sy.together
 rw [← hcs] at HC ⊢
 obtain ⟨n, hN⟩ : ∃ n, n = cs.length := ⟨_, rfl⟩
 have HN : Hid (n = cs.length) := hN
 have hn2 : n ≤ 100000 := by omega
 clear hv hcs hlen hN
 go_enter Tryz.func47, Tryz.ntmps47
 go_wp2_with fail
 refine Calls.mono HC.out ?_
 rintro e w1 ⟨u, rfl, hO, hb1⟩
 have hI := hO.has
 obtain ⟨ao, cap, hu, hcells⟩ := hI
 have hnl : (natI cs).length = n := by unfold natI; rw [List.length_map]; exact HN.out.symm
 rw [hnl] at hu
 subst hu
 have H1 : Hid _ := And.intro hcells hb1
 clear hO hcells hb1 hnl HC
 go_wp2_with fail
 go_loopg [4, 5] n (fun q nv iv wr => ∃ i : Nat, q = n - i ∧ i ≤ n ∧ iv = .int .i64 i ∧ nv = .int .i64 (Sy.top (cs.take i) : Nat) ∧ wr = w1)
 case atStart => exact ⟨0, rfl, Nat.zero_le _, rfl, rfl, rfl⟩
 case round =>
  obtain ⟨i, rfl, hi, rfl, rfl, rfl⟩ := hrel
  by_cases hlt : i < n
  ·obtain ⟨c, hc⟩ : ∃ c, cs[i]? = some c := ⟨cs[i]'(by have := HN.out; omega), List.getElem?_eq_getElem _⟩
   obtain ⟨a, rfl, c0⟩ := H1.out.1 i (c : Int) (by unfold natI; rw [List.getElem?_map, hc]; rfl)
   have hcb := HL.out.2.2 c (by rw [← HL.out.1]; exact List.mem_of_getElem? hc)
   have htop : Sy.top (cs.take (i + 1)) = max (Sy.top (cs.take i)) (c + 1) := by rw [take_succ_of hc, Sy.top_snoc]
   obtain ⟨t, ht⟩ : ∃ t, t = Sy.top (cs.take i) := ⟨_, rfl⟩
   rw [← ht] at htop ⊢
   have q0 : (0 : Int) ≤ (i : Int) := by omega
   have q1 : (i : Int) < (n : Int) := by omega
   have HT : Hid _ := htop
   clear hc htop ht
   by_cases hge : t ≤ c
   ·have g1 : (t : Int) ≤ (c : Int) := by omega
    have g2 : IntKind.i64.wrap ((c : Int) + 1) = (c : Int) + 1 := by rw [IntKind.wrap_i64]; have := HL.out.2.1; omega
    go_wp2_with fail
    go_roundg (n - (i + 1))
    case measure => omega
    case rel => exact ⟨i + 1, rfl, by omega, by go_num, by rw [HT.out, Nat.max_eq_right (by omega)]; first | rfl | go_num, rfl⟩
   ·have g1 : ¬ (t : Int) ≤ (c : Int) := by omega
    go_wp2_with fail
    go_roundg (n - (i + 1))
    case measure => omega
    case rel => exact ⟨i + 1, rfl, by omega, by go_num, by rw [HT.out, Nat.max_eq_left (by omega)], rfl⟩
  ·obtain rfl : i = n := by omega
   have q1 : ¬ (i : Int) < (i : Int) := by omega
   go_wp2_with fail
   go_ret
   exact ⟨by rw [List.take_of_length_le (by have := HN.out; omega)]; rfl, H1.out.2⟩
def Sy.classes (n : Int) (zs : List Int) : Bool := decide ((zs.length : Int) = n) && Sy.formG 0 zs
end Go.Proofs.YtkiapldehlnndaaGreatDoor
/- What the program's functions of chapter 7 answer: the contracts that the laws lean on. -/
namespace Go.Proofs.YtkiapldehlnndaaGreatDoor
open Go.RowKit Go.Maps
def I64s (zs : List Int) : Prop := ∀ z ∈ zs, (Lit.int .i64 z).wf = true
def PCanon : Prop := ∀ (v : Value) (zs : List Int) (W : World), HasI W v zs → zs.length ≤ 100000 → I64s zs → Calls Tryz.prog 104 #[v] W fun r w' => ∃ u, r = .returned u ∧ OwnI w' W.heap.size u (natI (Sy.canon zs)) ∧ Below W.heap.size W w'
def PClasses : Prop := ∀ (n k s : Int) (ve v : Value) (zs : List Int) (W : World), HasI W v zs → zs.length ≤ 100000 → I64s zs → Calls Tryz.prog 29 #[sysV n k s ve, v] W fun r w' => r = .returned (.bool (Sy.classes n zs)) ∧ Below W.heap.size W w'
theorem rg_b {w2 W : World} {P : Prop} (h : P ∧ Hid (Below w2.heap.size w2 W)) : Below w2.heap.size w2 W := h.2.out
theorem rg_up4 {w2 wa wb : World} {a0 a1 a2 a3 : Addr} {x0 x1 x2 x3 : Value} (hb : Below wa.heap.size wa wb) (h : (wa.cell? a0 = some x0 ∧ wa.cell? a1 = some x1 ∧ wa.cell? a2 = some x2 ∧ wa.cell? a3 = some x3) ∧ Hid (Below w2.heap.size w2 wa)) : (wb.cell? a0 = some x0 ∧ wb.cell? a1 = some x1 ∧ wb.cell? a2 = some x2 ∧ wb.cell? a3 = some x3) ∧ Hid (Below w2.heap.size w2 wb) :=
 have up : ∀ {a : Addr} {x : Value}, wa.cell? a = some x → wb.cell? a = some x := fun c => (hb.cell (World.block_lt_of_cell? wa _ c)).trans c
 ⟨⟨up h.1.1, up h.1.2.1, up h.1.2.2.1, up h.1.2.2.2⟩, (h.2.out.trans (hb.mono h.2.out.size) : Below w2.heap.size w2 wb)⟩
end Go.Proofs.YtkiapldehlnndaaGreatDoor
/- The one form of classes: who is together, the form of the form, when two have one. Plain facts. -/
namespace Go.Proofs.YtkiapldehlnndaaGreatDoor.Sy
theorem place_lt {c : Int} {l : List Int} : place c l < l.length ↔ c ∈ l := by
 induction l with
 | nil => simp [place]
 | cons a r ih =>
   unfold place
   by_cases h : a = c
   ·simp [h]
   ·rw [if_neg h, List.length_cons, Nat.add_lt_add_iff_right, ih, List.mem_cons]
    exact ⟨fun h1 => .inr h1, fun h1 => h1.elim (fun e => absurd e.symm h) id⟩
theorem place_not {c : Int} {l : List Int} (h : c ∉ l) : place c l = l.length := by
 have h1 := place_le c l
 have h2 : ¬ place c l < l.length := fun h2 => h (place_lt.1 h2)
 omega
theorem place_at {c : Int} {l : List Int} (h : c ∈ l) : l[place c l]? = some c := by
 induction l with
 | nil => simp at h
 | cons a r ih =>
   unfold place
   by_cases h1 : a = c
   ·simp [h1]
   ·rw [if_neg h1, List.getElem?_cons_succ]
    exact ih ((List.mem_cons.1 h).elim (fun e => absurd e.symm h1) id)
theorem place_left {c : Int} {a : List Int} (b : List Int) (h : c ∈ a) : place c (a ++ b) = place c a := by
 induction a with
 | nil => simp at h
 | cons x r ih =>
   simp only [List.cons_append, place]
   by_cases h1 : x = c
   ·simp [h1]
   ·rw [if_neg h1, if_neg h1, ih ((List.mem_cons.1 h).elim (fun e => absurd e.symm h1) id)]
def more (c : Int) (seen : List Int) : List Int := if place c seen < seen.length then seen else seen ++ [c]
theorem more_mem (c : Int) (seen : List Int) : c ∈ more c seen := by
 unfold more
 split
 ·next h => exact place_lt.1 h
 ·exact List.mem_append_right _ (List.mem_singleton.2 rfl)
theorem more_pre (c : Int) (seen : List Int) : ∃ t, more c seen = seen ++ t := by
 unfold more
 split
 ·exact ⟨[], by simp⟩
 ·exact ⟨[c], rfl⟩
theorem more_place (c : Int) (seen : List Int) : place c (more c seen) = place c seen := by
 unfold more
 split
 ·rfl
 ·next h =>
  have h1 : c ∉ seen := fun h1 => h (place_lt.2 h1)
  rw [place_app c seen [c] (fun x hx e => h1 (by rw [← e]; exact hx)), place_not h1]
  simp [place]
theorem seenG_pre (l : List Int) : ∀ seen, ∃ t, seenG seen l = seen ++ t := by
 induction l with
 | nil => intro seen; exact ⟨[], by simp [seenG]⟩
 | cons c r ih =>
   intro seen
   obtain ⟨t, ht⟩ := ih (more c seen)
   obtain ⟨u, hu⟩ := more_pre c seen
   refine ⟨u ++ t, ?_⟩
   show seenG (more c seen) r = _
   rw [ht, hu, List.append_assoc]
theorem canonG_map (l : List Int) : ∀ seen, canonG seen l = l.map fun z => place z (seenG seen l) := by
 induction l with
 | nil => intro seen; rfl
 | cons c r ih =>
   intro seen
   show place c seen :: canonG (more c seen) r = place c (seenG (more c seen) r) :: r.map fun z => place z (seenG (more c seen) r)
   rw [ih]
   congr 1
   obtain ⟨t, ht⟩ := seenG_pre r (more c seen)
   rw [ht, place_left t (more_mem c seen), more_place]
theorem canon_map (l : List Int) : canon l = l.map fun z => place z (seenG [] l) := canonG_map l []
end Go.Proofs.YtkiapldehlnndaaGreatDoor.Sy
/- Contracts of the program's numbered, Canon, Together and Classes. -/
namespace Go.Proofs.YtkiapldehlnndaaGreatDoor
open Go.RowKit Go.Maps
attribute [local go_sem ↓] Go.wp_at_zero Go.wp_at_succ
structure MapI (D : DataW Unit) (ns : List Int) : Prop where
 yes : ∀ (i : Nat) (z : Int), ns[i]? = some z → Maps.has D (.int .i64 z) = true ∧ D.atKey (.int .i64 z) (.lit (.int .i64 0)) = .lit (.int .i64 i)
 no : ∀ z : Int, z ∉ ns → Maps.has D (.int .i64 z) = false
 size : Maps.size D = ns.length
theorem MapI.nil : MapI (.map []) [] := ⟨fun i s h => by simp at h, fun s _ => rfl, rfl⟩
theorem ikey_inj {a b : Int} (h : Lit.int .i64 a = Lit.int .i64 b) : a = b := by injection h
theorem MapI.snoc {D : DataW Unit} {ns : List Int} (h : MapI D ns) (hD : IsMap D) (hT : Tidy D) (s : Int) (hs : s ∉ ns) : MapI (D.put (.int .i64 s) (.lit (.int .i64 ns.length))) (ns ++ [s]) := by
 refine ⟨fun i t ht => ?_, fun t ht => ?_, ?_⟩
 ·rcases Nat.lt_or_ge i ns.length with hi | hi
  ·rw [List.getElem?_append_left hi] at ht
   have hne : Lit.int .i64 t ≠ Lit.int .i64 s := fun e => hs (ikey_inj e ▸ List.mem_of_getElem? ht)
   rw [has_put_other hne, atKey_put_other hne]
   exact h.yes i t ht
  ·rw [List.getElem?_append_right hi] at ht
   have hi0 : i - ns.length = 0 := by
    have := (List.getElem?_eq_some_iff.1 ht).1
    simp at this; omega
   rw [hi0] at ht
   simp at ht
   subst ht
   have : i = ns.length := by omega
   subst this
   have hk : WideAt.IsKeyLit (.int .i64 s) := trivial
   exact ⟨has_put_same hD hk _, atKey_put_same hD hk _ _⟩
 ·have hne : Lit.int .i64 t ≠ Lit.int .i64 s := fun e => ht (by rw [ikey_inj e]; simp)
  rw [has_put_other hne]
  exact h.no t fun hm => ht (by simp [hm])
 ·rw [size_put hT, h.no s hs]
  simp [h.size]
theorem Sy.place_mem {z : Int} {l : List Int} : Sy.place z l < l.length ↔ z ∈ l := by
 induction l with
 | nil => simp [Sy.place]
 | cons a r ih =>
   unfold Sy.place
   by_cases h : a = z
   ·simp [h]
   ·have h2 : z ≠ a := fun e => h e.symm
    simp [h, h2, ← ih]
theorem Sy.place_no {z : Int} {l : List Int} (h : z ∉ l) : Sy.place z l = l.length := by
 have h1 := Sy.place_le z l
 have h2 : ¬ Sy.place z l < l.length := fun e => h (Sy.place_mem.1 e)
 omega
theorem Tryz.lawI7 : Keyed Tryz.prog 3 := int_keyed Tryz.underlying3
theorem Tryz.zeroI7 (w : World) : (zeroValue 3).run Tryz.prog w = .ok (.int .i64 0) w := by kernel_rfl
structure NumAt (w wr : World) (zs : List Int) (n i : Nat) (D : DataW Unit) (seen : List Int) : Prop where
 arr : Arr 3 w wr (w.heap.size + 1) (natC (Sy.canonG [] (zs.take i)) ++ List.replicate (n - i) (.int .i64 0))
 own : wr.ownsMap (H := Unit) Tryz.prog 3 (plainElem Tryz.prog 3) w.heap.size seen.length D
 map : MapI D seen
theorem Sy.top_canonG (l : List Int) : ∀ seen : List Int, max seen.length (Sy.top (Sy.canonG seen l)) = (Sy.seenG seen l).length := by
 induction l with
 | nil => intro seen; simp [Sy.canonG, Sy.top, Sy.seenG]
 | cons c r ih =>
   intro seen
   simp only [Sy.canonG, Sy.top, Sy.seenG]
   rw [← ih]
   have h1 := Sy.place_le c seen
   split <;> (try simp) <;> omega
theorem Sy.together_eq (zs : List Int) : Sy.together zs = (Sy.seenG [] zs).length := by
 rw [← Sy.top_canonG zs []]
 simp [Sy.together, Sy.canon]
theorem arr_mapTurn {w wr w3 : World} {gi : Nat} {vs : List Value} {bm : Nat} (h : Arr 3 w wr gi vs) (hg : wr.grownBy w3 (some bm)) (hb : w.heap.size ≤ bm) (hne : bm ≠ gi) : Arr 3 w w3 gi vs :=
 h.kept (Kept.of_grown hg) fun b e => by injection e with e; subst e; exact ⟨hb, hne⟩
theorem num_step {w w3 w4 : World} {zs : List Int} {n i k : Nat} {D2 : DataW Unit} {seen s2 : List Int} {z : Int} (hz : zs[i]? = some z) (hi : i < n) (hn : n = zs.length) (hs : seen = Sy.seenG [] (zs.take i)) (hA : Arr 3 w w3 (w.heap.size + 1) (natC (Sy.canonG [] (zs.take i)) ++ List.replicate (n - i) (.int .i64 0)))
 (hk : k = Sy.place z seen) (h4 : w4 = w3.setCell ⟨w.heap.size + 1, i, none⟩ (.int .i64 (k : Int))) (ho : w3.ownsMap (H := Unit) Tryz.prog 3 (plainElem Tryz.prog 3) w.heap.size s2.length D2) (hm : MapI D2 s2) :
 NumAt w w4 zs n (i + 1) D2 s2 := by
 subst h4
 have hC : (Sy.canonG [] (zs.take i)).length = i := by rw [Sy.canonG_len, List.length_take]; omega
 have hAs := hA.set i (.int .i64 (k : Int))
 rw [natC_step _ n i k hC hi] at hAs
 refine ⟨?_, ho.setCell (by simp) _, hm⟩
 rw [Sy.canon_step hz, ← hs, ← hk]
 exact hAs
set_option maxRecDepth 100000 in
set_option maxHeartbeats 8000000 in
theorem numbered_any (v : Value) (zs : List Int) (w : World) (hv : HasI w v zs) (hn : zs.length ≤ 100000) (hw : I64s zs) :
 Calls Tryz.prog 147 #[v] w fun e w' => ∃ u, e = .returned (.tuple #[u, .int .i64 (Sy.together zs : Nat)]) ∧ OwnI w' w.heap.size u (natI (Sy.canon zs)) ∧ Below w.heap.size w w' := by
 obtain ⟨ao, cap, rfl, hcs⟩ := hv
 obtain ⟨n, hN⟩ : ∃ n, n = zs.length := ⟨_, rfl⟩
 have HH : Hid _ := And.intro hcs (And.intro hN hw)
 rw [← hN] at hn ⊢
 clear hcs hN hw
 have hmm := @run_makeMap Tryz.prog
 have hmk := makeI n (by omega) (w.alloc (.map #[] 0))
 go_enter Tryz.func147, Tryz.ntmps147
 go_wp2_with fail
 clear hmk hmm
 go_loopg [16] n (fun q iv wr => ∃ (i : Nat) (D : DataW Unit) (seen : List Int), q = n - i ∧ i ≤ n ∧ iv = .int .i64 i ∧ seen = Sy.seenG [] (zs.take i) ∧ NumAt w wr zs n i D seen)
 case atStart =>
  refine ⟨0, .map [], [], rfl, Nat.zero_le _, rfl, by simp [Sy.seenG], ?_, ?_, MapI.nil⟩
  ·have h1 := arr_new 3 (.int .i64 0) rfl n (w.alloc (.map #[] 0))
   have h2 := h1.back ((Below.refl _ w).alloc (Nat.le_refl _) _)
   simpa [Sy.canonG, natC] using h2
  ·have := World.ownsMap_made (H := Unit) w Tryz.prog 3 (plainElem Tryz.prog 3)
   exact this.alloc _
 case round =>
  obtain ⟨i, D, seen, rfl, hi, rfl, hseen, hM⟩ := hrel
  by_cases hlt : i < n
  ·obtain ⟨z, hz⟩ : ∃ z, zs[i]? = some z := ⟨zs[i]'(by have := HH.out.2.1; omega), List.getElem?_eq_getElem _⟩
   obtain ⟨a, rfl, c0⟩ := HH.out.1 i z hz
   have cz : wr.cell? (a.add i) = some (.int .i64 z) := (hM.arr.bl.cell (World.block_lt_of_cell? w _ c0)).trans c0
   have hzw : (Lit.int .i64 z).wf = true := HH.out.2.2 z (List.mem_of_getElem? hz)
   have hkey : keyOf Tryz.prog 3 (.int .i64 z) = some (.int .i64 z) := keyOf_int_mk Tryz.underlying3 hzw
   have q0 : (0 : Int) ≤ (i : Int) := by omega
   have q1 : (i : Int) < (n : Int) := by omega
   have hsl : seen.length ≤ i := by
    have := Sy.seenG_len (zs.take i) []
    rw [← hseen, List.length_take] at this
    simp at this; omega
   have hix : (natC (Sy.canonG [] (zs.take i)) ++ List.replicate (n - i) (Value.int .i64 0))[i]? = some (.int .i64 0) := by
    rw [List.getElem?_append_right (by rw [natC_len, Sy.canonG_len, List.length_take]; omega), natC_len, Sy.canonG_len, List.length_take, List.getElem?_replicate, if_pos (by have := HH.out.2.1; omega)]
   have hst := Sy.seen_step hz
   rw [← hseen] at hst
   by_cases hin : z ∈ seen
   ·obtain ⟨hy1, hy2⟩ := hM.map.yes _ z (Sy.place_at hin)
    have cx := hM.arr.cell hix
    have cf := hM.arr.free i
    rw [if_pos (Sy.place_mem.2 hin)] at hst
    have HO : Hid (wr.ownsMap (H := Unit) Tryz.prog 3 (plainElem Tryz.prog 3) w.heap.size seen.length D) := hM.own
    have HY : Hid (D.atKey (.int .i64 z) (.lit (.int .i64 0)) = .lit (.int .i64 (Sy.place z seen : Nat))) := hy2
    have HM : Hid _ := And.intro hM (And.intro hseen (And.intro hz hst))
    clear hM hseen hz hst hy2 hix c0 hin hzw
    obtain ⟨k, hk⟩ : ∃ k, k = Sy.place z seen := ⟨_, rfl⟩
    rw [← hk] at HY
    have HK : Hid (k = Sy.place z seen) := hk
    clear hk
    go_wp2_with (at_lookup; refine wpList_lookup_own_ok_int _ rfl _ _ 236 rfl 3 3 .i64 Tryz.lawI7 Tryz.underlying236 Tryz.underlying3 (Tryz.zeroI7 _) w.heap.size seen.length D rfl HO.out _ _ rfl hkey ?_; rw [hy1]; intro c hat hwc; obtain rfl : c = (k : Int) := (by rw [HY.out] at hat; injection hat with hat; injection hat with _ hat; exact hat.symm); clear hat hwc)
    go_roundg (n - (i + 1))
    case measure => omega
    case rel =>
     exact ⟨i + 1, D, seen, rfl, by omega, by go_num, HM.out.2.2.2.symm, num_step HM.out.2.2.1 hlt HH.out.2.1 HM.out.2.1 HM.out.1.arr HK.out rfl HO.out HM.out.1.map⟩
   ·have hy1 := hM.map.no z hin
    rw [if_neg fun e => hin (Sy.place_mem.1 e)] at hst
    have HO : Hid (wr.ownsMap (H := Unit) Tryz.prog 3 (plainElem Tryz.prog 3) w.heap.size seen.length D) := hM.own
    have hml : seen.length < maxLen := by unfold maxLen; omega
    have hsz : Maps.size D = seen.length := hM.map.size
    obtain ⟨m, hm⟩ : ∃ m, m = seen.length := ⟨_, rfl⟩
    have HM : Hid _ := And.intro hM (And.intro hseen (And.intro hz (And.intro hst (And.intro hin (And.intro hix hm)))))
    rw [← hm] at HO hml hsz hsl
    have hwf : (Lit.int .i64 (m : Int)).wf = true := WalkArith.wf_i64 (by omega)
    have HS : Hid _ := hsz
    clear hM hseen hz hst hix c0 hin hzw hm hsz
    go_wp2_with (first
     | (at_lookup; refine wpList_lookup_own_ok_int _ rfl _ _ 236 rfl 3 3 .i64 Tryz.lawI7 Tryz.underlying236 Tryz.underlying3 (Tryz.zeroI7 _) w.heap.size m D rfl HO.out _ _ rfl hkey ?_; rw [hy1]; intro c hat hwc; clear hat hwc)
     | (at_len; refine wpList_len_own _ rfl _ 236 rfl 3 3 Tryz.underlying236 _ w.heap.size m D rfl HO.out ?_; rw [HS.out])
     | (at_mapUpdate; refine wpList_mapUpdate_own _ rfl _ _ _ 236 rfl 3 3 Tryz.lawI7 Tryz.underlying236 _ w.heap.size m D rfl HO.out hml _ _ _ rfl rfl hkey _ [] (plainElem_int Tryz.underlying3 hwf) ?_; intro w3 hown3 hgrow3; have hA3 := arr_mapTurn HM.out.1.arr hgrow3 (Nat.le_refl _) (by omega); have cx := hA3.cell HM.out.2.2.2.2.2.1; have cf := hA3.free i; have H3 : Hid _ := And.intro hA3 hown3; clear hA3 hown3 hgrow3))
    go_roundg (n - (i + 1))
    case measure => omega
    case rel =>
     have hm := HM.out.2.2.2.2.2.2
     have h3 := H3.out.2
     have hmp := HM.out.1.map.snoc HM.out.1.own.isMap (HM.out.1.own.tidy Tryz.lawI7) z HM.out.2.2.2.2.1
     rw [← hm] at hmp
     have el : m + 1 = (seen ++ [z]).length := by simp [hm]
     rw [el] at h3
     exact ⟨i + 1, _, seen ++ [z], rfl, by omega, by go_num, HM.out.2.2.2.1.symm, num_step HM.out.2.2.1 hlt HH.out.2.1 HM.out.2.1 H3.out.1 (by rw [Sy.place_no HM.out.2.2.2.2.1, hm]) rfl h3 hmp⟩
  ·obtain rfl : i = n := by omega
   have hsz : Maps.size D = seen.length := hM.map.size
   have HO : Hid (wr.ownsMap (H := Unit) Tryz.prog 3 (plainElem Tryz.prog 3) w.heap.size seen.length D) := hM.own
   have HM : Hid _ := And.intro hM (And.intro hseen hsz)
   obtain ⟨m, hm⟩ : ∃ m, m = seen.length := ⟨_, rfl⟩
   rw [← hm] at HO
   have HS : Hid (Maps.size D = m) := hsz.trans hm.symm
   have HN : Hid _ := hm
   clear hM hseen hsz hm
   go_wp2_with (at_len; refine wpList_len_own _ rfl _ 236 rfl 3 3 Tryz.underlying236 _ w.heap.size m D rfl HO.out ?_; rw [HS.out])
   go_ret2
   have hA := HM.out.1.arr
   have hl : i = zs.length := HH.out.2.1
   rw [hl, Nat.sub_self, List.replicate_zero, List.append_nil, List.take_length] at hA
   have how := (hA.own (by rw [natC_len, Sy.canonG_len]; unfold maxLen; omega))
   rw [natC_len, Sy.canonG_len] at how
   refine ⟨.slice (some ⟨w.heap.size + 1, 0, none⟩) zs.length zs.length, by rw [HN.out, HM.out.2.1, hl, List.take_length, ← Sy.together_eq]; rfl, ?_, HM.out.1.arr.bl⟩
   unfold OwnI
   rw [iC_nat, show (natI (Sy.canon zs)).length = zs.length by simp [natI, Sy.canon, Sy.canonG_len]]
   exact how
end Go.Proofs.YtkiapldehlnndaaGreatDoor
/- Contract of the book's SameInts. -/
namespace Go.Proofs.YtkiapldehlnndaaGreatDoor
open Go.RowKit Go.Maps
theorem take_both {α : Type} {a b : List α} {j : Nat} {x : α} (ha : a[j]? = some x) (hb : b[j]? = some x) (h : a.take j = b.take j) : a.take (j + 1) = b.take (j + 1) := by
 rw [take_succ_of ha, take_succ_of hb, h]
theorem eq_len {α : Type} {a b : List α} {n : Nat} (ha : a.length = n) (hb : b.length = n) (h : a.take n = b.take n) : a = b := by
 rw [List.take_of_length_le (by omega), List.take_of_length_le (by omega)] at h
 exact h
set_option maxRecDepth 100000 in
set_option maxHeartbeats 1000000 in
theorem sameInts_b (va vb : Value) (za zb : List Int) (w : World) (hn : za.length ≤ 1000000000000000) (hm : zb.length ≤ 1000000000000000) (hA : HasI w va za) (hB : HasI w vb zb) :
 Calls Tryz.prog 16 #[va, vb] w fun e w' => e = .returned (.bool (za == zb)) ∧ Below w.heap.size w w' := by
 obtain ⟨ao, cap, rfl, hcA⟩ := hA
 obtain ⟨ao', cap', rfl, hcB⟩ := hB
 by_cases hlen : za.length = zb.length
 ·obtain ⟨n, hN⟩ : ∃ n, n = za.length := ⟨_, rfl⟩
  have HH : Hid _ := And.intro hcA (And.intro hcB (And.intro hN (hN.trans hlen)))
  rw [← hlen, ← hN]
  rw [← hN] at hn
  clear hcA hcB hN hlen hm
  have q : ((n : Int) != (n : Int)) = false := by simp
  go_enter Tryz.func16, Tryz.ntmps16
  go_wp2
  go_loopg [5] n (fun g i wr => ∃ j m : Nat, g = n - j ∧ j ≤ n ∧ i = .int .i64 j ∧ za.take j = zb.take j ∧ wr = w.drewN m)
  case atStart => exact ⟨0, 0, rfl, Nat.zero_le _, rfl, rfl, rfl⟩
  case round =>
   obtain ⟨j, m, rfl, hj, rfl, heq, rfl⟩ := hrel
   have HQ : Hid _ := heq
   clear heq
   by_cases hlt : j < n
   ·obtain ⟨x, hx⟩ : ∃ z, za[j]? = some z := ⟨za[j]'(by have := HH.out.2.2.1; omega), List.getElem?_eq_getElem _⟩
    obtain ⟨y, hy⟩ : ∃ z, zb[j]? = some z := ⟨zb[j]'(by have := HH.out.2.2.2; omega), List.getElem?_eq_getElem _⟩
    obtain ⟨a, rfl, c0⟩ := HH.out.1 j x hx
    obtain ⟨b, rfl, d0⟩ := HH.out.2.1 j y hy
    have q0 : (0 : Int) ≤ (j : Int) := by omega
    have q1 : (j : Int) < (n : Int) := by omega
    by_cases hxy : x = y
    ·subst hxy
     have HT : Hid _ := take_both hx hy HQ.out
     clear hx hy
     go_wp2_with fail
     go_quiet (fail)
     go_wp2
     go_roundg (n - (j + 1))
     case measure => omega
     case rel => exact ⟨j + 1, _, rfl, by omega, by go_num, HT.out, by first | rfl | exact World.drewN_drewN _ _ _⟩
    ·have e1 : (x == y) = false := by simpa using hxy
     have HF : Hid ((za == zb) = false) := (by
      rw [beq_eq_false_iff_ne]
      rintro rfl
      rw [hx] at hy
      exact hxy (Option.some.inj hy) : (za == zb) = false)
     clear hx hy hxy
     go_wp2_with fail
     go_quiet (fail)
     go_wp2
     go_ret
     exact ⟨by rw [HF.out]; rfl, by first | exact below_drewN (below_drewN (Below.refl _ _) _) _ | exact below_drewN (Below.refl _ _) _⟩
   ·obtain rfl : j = n := by omega
    have q1 : ¬ (j : Int) < (j : Int) := by omega
    have HF : Hid ((za == zb) = true) := (by
     rw [beq_iff_eq]
     exact eq_len HH.out.2.2.1.symm HH.out.2.2.2.symm HQ.out : (za == zb) = true)
    go_wp2
    go_ret
    exact ⟨by rw [HF.out]; rfl, below_drewN (Below.refl _ _) _⟩
 ·have q : ((za.length : Int) != (zb.length : Int)) = true := by rw [bne_iff_ne]; omega
  have HF : Hid ((za == zb) = false) := (by rw [beq_eq_false_iff_ne]; rintro rfl; exact hlen rfl : (za == zb) = false)
  clear hcA hcB hlen
  go_enter Tryz.func16, Tryz.ntmps16
  go_wp2
  go_ret
  exact ⟨by rw [HF.out]; rfl, Below.refl _ _⟩
end Go.Proofs.YtkiapldehlnndaaGreatDoor
/- Contract of slices.Equal of numbers. -/
namespace Go.Proofs.YtkiapldehlnndaaGreatDoor
open Go.RowKit Go.Maps
theorem take_both5 {α : Type} {a b : List α} {j : Nat} {x : α} (ha : a[j]? = some x) (hb : b[j]? = some x) (h : a.take j = b.take j) : a.take (j + 1) = b.take (j + 1) := by
 rw [take_succ_of ha, take_succ_of hb, h]
theorem eq_len5 {α : Type} {a b : List α} {n : Nat} (ha : a.length = n) (hb : b.length = n) (h : a.take n = b.take n) : a = b := by
 rw [List.take_of_length_le (by omega), List.take_of_length_le (by omega)] at h
 exact h
set_option maxRecDepth 100000 in
set_option maxHeartbeats 1000000 in
theorem slEqual_any (va vb : Value) (za zb : List Int) (w : World) (hn : za.length ≤ 1000000000000000) (hm : zb.length ≤ 1000000000000000) (hA : HasI w va za) (hB : HasI w vb zb) :
 Calls Tryz.prog 103 #[va, vb] w fun e w' => e = .returned (.bool (za == zb)) ∧ Below w.heap.size w w' := by
 obtain ⟨ao, cap, rfl, hcA⟩ := hA
 obtain ⟨ao', cap', rfl, hcB⟩ := hB
 by_cases hlen : za.length = zb.length
 ·obtain ⟨n, hN⟩ : ∃ n, n = za.length := ⟨_, rfl⟩
  have HH : Hid _ := And.intro hcA (And.intro hcB (And.intro hN (hN.trans hlen)))
  rw [← hlen, ← hN]
  rw [← hN] at hn
  clear hcA hcB hN hlen hm
  have q : ((n : Int) != (n : Int)) = false := by simp
  go_enter Tryz.func103, Tryz.ntmps103
  go_wp2
  go_loopg [13] n (fun g i wr => ∃ j m : Nat, g = n - j ∧ j ≤ n ∧ i = .int .i64 j ∧ za.take j = zb.take j ∧ wr = w.drewN m)
  case atStart => exact ⟨0, 0, rfl, Nat.zero_le _, rfl, rfl, rfl⟩
  case round =>
   obtain ⟨j, m, rfl, hj, rfl, heq, rfl⟩ := hrel
   have HQ : Hid _ := heq
   clear heq
   by_cases hlt : j < n
   ·obtain ⟨x, hx⟩ : ∃ z, za[j]? = some z := ⟨za[j]'(by have := HH.out.2.2.1; omega), List.getElem?_eq_getElem _⟩
    obtain ⟨y, hy⟩ : ∃ z, zb[j]? = some z := ⟨zb[j]'(by have := HH.out.2.2.2; omega), List.getElem?_eq_getElem _⟩
    obtain ⟨a, rfl, c0⟩ := HH.out.1 j x hx
    obtain ⟨b, rfl, d0⟩ := HH.out.2.1 j y hy
    have q0 : (0 : Int) ≤ (j : Int) := by omega
    have q1 : (j : Int) < (n : Int) := by omega
    by_cases hxy : x = y
    ·subst hxy
     have HT : Hid _ := take_both5 hx hy HQ.out
     clear hx hy
     go_wp2_with fail
     go_quiet (fail)
     go_wp2
     go_roundg (n - (j + 1))
     case measure => omega
     case rel => exact ⟨j + 1, _, rfl, by omega, by go_num, HT.out, by first | rfl | exact World.drewN_drewN _ _ _⟩
    ·have e1 : (x == y) = false := by simpa using hxy
     have HF : Hid ((za == zb) = false) := (by
      rw [beq_eq_false_iff_ne]
      rintro rfl
      rw [hx] at hy
      exact hxy (Option.some.inj hy) : (za == zb) = false)
     clear hx hy hxy
     go_wp2_with fail
     go_quiet (fail)
     go_wp2
     go_ret
     exact ⟨by rw [HF.out]; rfl, by first | exact below_drewN (below_drewN (Below.refl _ _) _) _ | exact below_drewN (Below.refl _ _) _⟩
   ·obtain rfl : j = n := by omega
    have q1 : ¬ (j : Int) < (j : Int) := by omega
    have HF : Hid ((za == zb) = true) := (by
     rw [beq_iff_eq]
     exact eq_len5 HH.out.2.2.1.symm HH.out.2.2.2.symm HQ.out : (za == zb) = true)
    go_wp2
    go_ret
    exact ⟨by rw [HF.out]; rfl, below_drewN (Below.refl _ _) _⟩
 ·have q : ((za.length : Int) != (zb.length : Int)) = true := by rw [bne_iff_ne]; omega
  have HF : Hid ((za == zb) = false) := (by rw [beq_eq_false_iff_ne]; rintro rfl; exact hlen rfl : (za == zb) = false)
  clear hcA hcB hlen
  go_enter Tryz.func103, Tryz.ntmps103
  go_wp2
  go_ret
  exact ⟨by rw [HF.out]; rfl, Below.refl _ _⟩
end Go.Proofs.YtkiapldehlnndaaGreatDoor
/- Contracts of slices.Equal of numbers, and of the program's Canon, Together and Classes. -/
namespace Go.Proofs.YtkiapldehlnndaaGreatDoor
open Go.RowKit Go.Maps
namespace Sy
end Sy
set_option maxRecDepth 100000 in
theorem pCanon : PCanon := fun v zs W hv hn hw => by
 have hC := numbered_any v zs W hv hn hw
 go_enter Tryz.func104, Tryz.ntmps104
 go_wp2_with (go_at_call 147; refine hC.mono ?_; rintro r w1 ⟨u, rfl, hO, hb⟩; have HO : Hid _ := And.intro hO hb; clear hO hb)
 go_ret
 exact ⟨u, rfl, HO.out.1, HO.out.2⟩
end Go.Proofs.YtkiapldehlnndaaGreatDoor
/- refine: Classes. -/
namespace Go.Proofs.YtkiapldehlnndaaGreatDoor
open Go.RowKit Go.Maps
attribute [local go_sem ↓] Go.wp_at_zero Go.wp_at_succ
def Pst.own (s : Pst) : List Int := (List.range s.n).map fun e : Nat => (s.O e : Int)
theorem own_len (s : Pst) : s.own.length = s.n := by simp [Pst.own]
theorem own_has {g : Nat} {c : Nat → Int} {s : Pst} {w0 w : World} (hP : Pt w0 w g c) (hL : Lay c s) (hn : s.n ≤ 1000) (k : Nat) : HasI w (.slice (some ⟨g, 2002, none⟩) s.own.length k) s.own := by
 refine ⟨some ⟨g, 2002, none⟩, k, rfl, fun i z hz => ⟨_, rfl, ?_⟩⟩
 have hi : i < s.n := by rw [← own_len]; exact (List.getElem?_eq_some_iff.1 hz).1
 have h1 : s.own[i]? = some (s.O i : Int) := by simp [Pst.own, hi]
 obtain rfl := Option.some.inj (hz.symm.trans h1)
 have h2 := hP.cell (i := 2002 + i) (by omega)
 rw [hL.o i hi] at h2
 have h4 : (⟨g, 2002, none⟩ : Addr).add i = ⟨g, 2002 + i, none⟩ := by
  unfold Addr.add
  by_cases hj : i = 0
  ·subst hj; rfl
  ·simp [hj]
 rw [h4]
 exact h2
theorem own_i64 {s : Pst} (hO : s.Ok) : I64s s.own := fun z hz => by
 simp only [Pst.own, List.mem_map, List.mem_range] at hz
 obtain ⟨e, he, rfl⟩ := hz
 have h1 := (hO.o e he).1
 have h2 := hO.few
 have h3 := hO.n1
 simp only [Lit.wf, IntKind.min, IntKind.max, IntKind.signed, IntKind.bits]
 simp
 omega
set_option maxRecDepth 100000 in
set_option maxHeartbeats 4000000 in
theorem classes_any (g : Nat) (c : Nat → Int) (s : Pst) (w0 w : World) (hP : Pt w0 w g c) (hL : Lay c s) (hO : s.Ok) (h0 : 0 < s.n) :
 Calls Tryz.prog 43 #[.pointer (some ⟨g, 0, none⟩)] w fun r w' => ∃ u, r = .returned u ∧ OwnI w' w.heap.size u (natI (Sy.canon s.own)) ∧ Below w.heap.size w w' := by
 have hn := hO.n1
 have c0 := hP.cell (i := 0) (by omega)
 rw [hL.n] at c0
 have hCn : ∀ W, Below w.heap.size w W → Calls Tryz.prog 104 #[.slice (some ⟨g, 2002, none⟩) s.n s.n] W fun r w' => ∃ u, r = .returned u ∧ OwnI w' W.heap.size u (natI (Sy.canon s.own)) ∧ Below W.heap.size W w' := fun W hW => by
  have h := pCanon (.slice (some ⟨g, 2002, none⟩) s.own.length s.n) s.own W (own_has (hP.below hW) hL hn s.n) (by rw [own_len]; omega) (own_i64 hO)
  rw [own_len] at h
  exact h
 have H : Hid _ := And.intro hCn trivial
 generalize natI (Sy.canon s.own) = cs at H ⊢
 have p1 : (0 : Int) ≤ (s.n : Int) := by omega
 have p2 : (s.n : Int) ≤ 1000 := by omega
 have p3 : ¬ s.n = 0 := by omega
 generalize s.n = n at *
 clear hCn hP hL hO
 go_enter Tryz.func43, Tryz.ntmps43
 go_upto_region 3 with fail
 go_region_held3 (fun w' => (w'.cell? ⟨g, 0, none⟩ = some (.int .i64 n) ∧ w'.cell? ⟨g, 0, none⟩ = some (.int .i64 n)) ∧ Hid (Below w.heap.size w w')) (first | exact rgu2 hb5 (by assumption) | exact ⟨⟨c0, c0⟩, ((Below.refl _ _).drew : Below w.heap.size w w.drew)⟩ | go_keep)
  ((first
    | (go_at_call 104; refine Calls.mono (H.out.1 _ (rgb3 (by assumption))) ?_; rintro r w5 ⟨u, rfl, hO5, hb5⟩)
    | fail))
 have hbw : Below w.heap.size w w5 := rgb3 (by assumption)
 have HB : Hid (OwnI w5 w.heap.size u cs ∧ Below w.heap.size w w5) := ⟨hO5, hbw⟩
 go_wp2_with fail
 go_ret
 exact ⟨_, rfl, HB.out.1, HB.out.2⟩
end Go.Proofs.YtkiapldehlnndaaGreatDoor
/- What Split makes of the elements' blocks. Plain facts. -/
namespace Go.Proofs.YtkiapldehlnndaaGreatDoor
open Go.RowKit Go.Maps
theorem clear_O (s : Pst) (b : Nat) (h : ¬ s.splits b) : (s.split b).O = s.O := by unfold Pst.split; rw [if_neg h]; rfl
theorem split_O {s : Pst} (hO : s.Ok) {b : Nat} (hb : b < s.nb) {e : Nat} (he : e < s.n) : (s.split b).O e = if s.splits b ∧ s.O e = b ∧ s.isM e = decide (2 * (s.R b - s.B b) ≤ s.D b - s.B b) then s.nb else s.O e := by
 have v := hO.iv b hb
 have o := hO.o e he
 by_cases h : s.splits b
 ·obtain ⟨h1, h2⟩ := _root_.id h
  unfold Pst.split
  rw [if_pos h]
  by_cases h3 : s.D b - s.R b < s.R b - s.B b
  ·rw [if_pos h3, decide_eq_false (show ¬ 2 * (s.R b - s.B b) ≤ s.D b - s.B b by omega)]
   show (if s.R b ≤ s.P e ∧ s.P e < s.R b + (s.D b - s.R b) then s.nb else s.O e) = _
   by_cases h5 : s.R b ≤ s.P e ∧ s.P e < s.R b + (s.D b - s.R b)
   ·have h6 := hO.ow b hb (s.P e) (by omega) (by omega)
    rw [(hO.pe e he).2] at h6
    have h7 : s.isM e = false := decide_eq_false (by rw [h6]; omega)
    rw [if_pos h5, if_pos ⟨h, h6, h7⟩]
   ·rw [if_neg h5, if_neg]
    rintro ⟨_, h6, h7⟩
    have h8 := of_decide_eq_false h7
    rw [h6] at h8 o
    omega
  ·rw [if_neg h3, decide_eq_true (show 2 * (s.R b - s.B b) ≤ s.D b - s.B b by omega)]
   show (if s.B b ≤ s.P e ∧ s.P e < s.B b + (s.R b - s.B b) then s.nb else s.O e) = _
   by_cases h5 : s.B b ≤ s.P e ∧ s.P e < s.B b + (s.R b - s.B b)
   ·have h6 := hO.ow b hb (s.P e) (by omega) (by omega)
    rw [(hO.pe e he).2] at h6
    have h7 : s.isM e = true := decide_eq_true (by rw [h6]; omega)
    rw [if_pos h5, if_pos ⟨h, h6, h7⟩]
   ·rw [if_neg h5, if_neg]
    rintro ⟨_, h6, h7⟩
    have h8 := of_decide_eq_true h7
    rw [h6] at h8 o
    omega
 ·rw [clear_O s b h, if_neg (fun h9 => h h9.1)]
end Go.Proofs.YtkiapldehlnndaaGreatDoor
/- Plain facts on keys that are numbered in the order in which they come, and on rounds. Nothing of the program is in it. -/
namespace Go.Proofs.YtkiapldehlnndaaGreatDoor.Ro
section
variable {K : Type} [DecidableEq K]
def place (c : K) : List K → Nat
 | [] => 0
 | a :: r => if a = c then 0 else place c r + 1
def more (c : K) (l : List K) : List K := if c ∈ l then l else l ++ [c]
def dd (l : List K) : List K := l.foldl (fun s c => more c s) []
def num (l : List K) : List Nat := l.map fun z => place z (dd l)
theorem place_le (c : K) (l : List K) : place c l ≤ l.length := by
 induction l with
 | nil => simp [place]
 | cons a r ih => unfold place; split <;> simp <;> omega
theorem place_lt {c : K} {l : List K} : place c l < l.length ↔ c ∈ l := by
 induction l with
 | nil => simp [place]
 | cons a r ih =>
   unfold place
   by_cases h : a = c
   ·simp [h]
   ·rw [if_neg h, List.length_cons, Nat.add_lt_add_iff_right, ih, List.mem_cons]
    exact ⟨fun h1 => .inr h1, fun h1 => h1.elim (fun e => absurd e.symm h) id⟩
theorem place_no {c : K} {l : List K} (h : c ∉ l) : place c l = l.length := by
 have h1 := place_le c l
 have h2 : ¬ place c l < l.length := fun h2 => h (place_lt.1 h2)
 omega
theorem place_at {c : K} {l : List K} (h : c ∈ l) : l[place c l]? = some c := by
 induction l with
 | nil => simp at h
 | cons a r ih =>
   unfold place
   by_cases h1 : a = c
   ·simp [h1]
   ·rw [if_neg h1, List.getElem?_cons_succ]
    exact ih ((List.mem_cons.1 h).elim (fun e => absurd e.symm h1) id)
theorem place_inj {a b : K} {l : List K} (ha : a ∈ l) (hb : b ∈ l) (h : place a l = place b l) : a = b := by
 have h1 := place_at ha
 rw [h, place_at hb] at h1
 exact (Option.some.inj h1).symm
theorem place_left {c : K} {a : List K} (b : List K) (h : c ∈ a) : place c (a ++ b) = place c a := by
 induction a with
 | nil => simp at h
 | cons x r ih =>
   simp only [List.cons_append, place]
   by_cases h1 : x = c
   ·simp [h1]
   ·rw [if_neg h1, if_neg h1, ih ((List.mem_cons.1 h).elim (fun e => absurd e.symm h1) id)]
theorem place_more (c : K) (l : List K) : place c (more c l) = place c l := by
 unfold more
 split
 ·rfl
 ·rename_i h
  rw [place_no h]
  induction l with
  | nil => simp [place]
  | cons x r ih =>
    have hx : x ≠ c := fun e => h (by rw [e]; exact List.mem_cons_self)
    have hr : c ∉ r := fun e => h (List.mem_cons_of_mem _ e)
    simp only [List.cons_append, place]
    rw [if_neg hx, ih hr]
    simp
theorem dd_snoc (l : List K) (c : K) : dd (l ++ [c]) = more c (dd l) := by simp [dd]
theorem mem_more {c x : K} {l : List K} : x ∈ more c l ↔ x ∈ l ∨ x = c := by
 unfold more
 split
 ·rename_i h
  exact ⟨.inl, fun h1 => h1.elim id fun e => by rw [e]; exact h⟩
 ·simp
theorem snoc_ind {α : Type} {P : List α → Prop} (h0 : P []) (hs : ∀ l x, P l → P (l ++ [x])) (l : List α) : P l := by
 have h : ∀ n (l : List α), l.length = n → P l := fun n => by
  induction n with
  | zero => intro l hl; rw [List.length_eq_zero_iff.1 hl]; exact h0
  | succ n ih =>
    intro l hl
    rcases List.eq_nil_or_concat l with rfl | ⟨m, x, rfl⟩
    ·simp at hl
    ·rw [List.concat_eq_append]
     exact hs m x (ih m (by simp at hl; omega))
 exact h _ l rfl
theorem mem_dd {x : K} (l : List K) : x ∈ dd l ↔ x ∈ l := by
 refine snoc_ind (P := fun l => x ∈ dd l ↔ x ∈ l) (by simp [dd]) (fun l c ih => ?_) l
 rw [dd_snoc, mem_more, ih]
 simp
theorem num_len (l : List K) : (num l).length = l.length := by simp [num]
theorem num_snoc (l : List K) (c : K) : num (l ++ [c]) = num l ++ [place c (dd l)] := by
 unfold num
 rw [List.map_append, dd_snoc]
 congr 1
 ·refine List.map_congr_left fun z hz => ?_
  have h1 : z ∈ dd l := (mem_dd l).2 hz
  unfold more
  split
  ·rfl
  ·exact place_left _ h1
 ·simp [place_more]
theorem num_at {l : List K} {i : Nat} {x : K} (h : l[i]? = some x) : (num l)[i]? = some (place x (dd l)) := by
 unfold num
 rw [List.getElem?_map, h]
 rfl
theorem num_eq {l : List K} {i j : Nat} {x y : K} (hi : l[i]? = some x) (hj : l[j]? = some y) {u v : Nat} (hu : (num l)[i]? = some u) (hv : (num l)[j]? = some v) : u = v ↔ x = y := by
 rw [num_at hi] at hu
 rw [num_at hj] at hv
 simp only [Option.some.injEq] at hu hv
 subst hu; subst hv
 exact ⟨fun e => place_inj ((mem_dd l).2 (List.mem_of_getElem? hi)) ((mem_dd l).2 (List.mem_of_getElem? hj)) e, fun e => by rw [e]⟩
theorem dd_len_snoc (l : List K) (c : K) : (dd (l ++ [c])).length = (dd l).length + if c ∈ l then 0 else 1 := by
 rw [dd_snoc]
 unfold more
 by_cases h : c ∈ l
 ·rw [if_pos ((mem_dd l).2 h), if_pos h]
  rfl
 ·rw [if_neg (fun h1 => h ((mem_dd l).1 h1)), if_neg h]
  simp
theorem dd_le (l : List K) : (dd l).length ≤ l.length := by
 refine snoc_ind (P := fun l => (dd l).length ≤ l.length) (by simp [dd]) (fun l c ih => ?_) l
 rw [dd_len_snoc]
 simp only [List.length_append, List.length_cons, List.length_nil]
 split <;> omega
theorem num_lt {l : List K} {u : Nat} (h : u ∈ num l) : u < (dd l).length := by
 obtain ⟨z, hz, rfl⟩ := List.mem_map.1 h
 exact place_lt.2 ((mem_dd l).2 hz)
end
theorem finer {A B : Type} [DecidableEq A] [DecidableEq B] (l : List (A × B)) (hf : ∀ p ∈ l, ∀ q ∈ l, p.1 = q.1 → p.2 = q.2) :
 (dd (l.map (·.2))).length ≤ (dd (l.map (·.1))).length ∧ ((dd (l.map (·.2))).length = (dd (l.map (·.1))).length → num (l.map (·.1)) = num (l.map (·.2))) := by
 revert hf
 refine snoc_ind (P := fun l : List (A × B) => (∀ p ∈ l, ∀ q ∈ l, p.1 = q.1 → p.2 = q.2) → (dd (l.map (·.2))).length ≤ (dd (l.map (·.1))).length ∧ ((dd (l.map (·.2))).length = (dd (l.map (·.1))).length → num (l.map (·.1)) = num (l.map (·.2)))) (fun _ => ⟨by simp [dd], fun _ => rfl⟩) (fun l x ih hf => ?_) l
 obtain ⟨ih1, ih2⟩ := ih fun p hp q hq => hf p (List.mem_append_left _ hp) q (List.mem_append_left _ hq)
 simp only [List.map_append, List.map_cons, List.map_nil]
 rw [dd_len_snoc, dd_len_snoc, num_snoc, num_snoc]
 by_cases hx : x.1 ∈ l.map (·.1)
 ·obtain ⟨q, hq, hqe⟩ := List.mem_map.1 hx
  have h2 := hf q (List.mem_append_left _ hq) x (List.mem_append_right _ List.mem_cons_self) hqe
  have hy : x.2 ∈ l.map (·.2) := List.mem_map.2 ⟨q, hq, h2⟩
  rw [if_pos hx, if_pos hy]
  refine ⟨by omega, fun e => ?_⟩
  have h3 := ih2 (by omega)
  obtain ⟨i, hi⟩ := List.mem_iff_getElem?.1 hq
  have a1 := num_at (l := l.map (·.1)) (i := i) (x := q.1) (by rw [List.getElem?_map, hi]; rfl)
  have a2 := num_at (l := l.map (·.2)) (i := i) (x := q.2) (by rw [List.getElem?_map, hi]; rfl)
  rw [h3, a2] at a1
  rw [h3, ← hqe, ← h2, Option.some.inj a1]
 ·rw [if_neg hx]
  by_cases hy : x.2 ∈ l.map (·.2)
  ·rw [if_pos hy]
   exact ⟨by omega, fun e => by omega⟩
  ·rw [if_neg hy]
   refine ⟨by omega, fun e => ?_⟩
   have e2 : (dd (l.map (·.2))).length = (dd (l.map (·.1))).length := by omega
   rw [ih2 e2, place_no (fun h => hx ((mem_dd _).1 h)), place_no (fun h => hy ((mem_dd _).1 h)), e2]
theorem num_congr {A B : Type} [DecidableEq A] [DecidableEq B] {a : List A} {b : List B} (hl : a.length = b.length) (h : ∀ (i j : Nat) (x y : A) (u v : B), a[i]? = some x → a[j]? = some y → b[i]? = some u → b[j]? = some v → (x = y ↔ u = v)) : num a = num b := by
 have hz1 : (a.zip b).map (·.1) = a := by rw [List.map_fst_zip (by omega)]
 have hz2 : (a.zip b).map (·.2) = b := by rw [List.map_snd_zip (by omega)]
 have hm : ∀ p ∈ a.zip b, ∃ i : Nat, a[i]? = some p.1 ∧ b[i]? = some p.2 := fun p hp => by
  obtain ⟨i, hi⟩ := List.mem_iff_getElem?.1 hp
  rw [List.getElem?_zip_eq_some] at hi
  exact ⟨i, hi⟩
 have f1 := finer (a.zip b) fun p hp q hq e => by
  obtain ⟨i, hi1, hi2⟩ := hm p hp
  obtain ⟨j, hj1, hj2⟩ := hm q hq
  exact (h i j _ _ _ _ hi1 hj1 hi2 hj2).1 e
 have hb : ∀ (l : List (A × B)), (l.map Prod.swap).map (·.1) = l.map (·.2) ∧ (l.map Prod.swap).map (·.2) = l.map (·.1) := fun l => by simp
 have f2 := finer ((a.zip b).map Prod.swap) fun p hp q hq e => by
  obtain ⟨p', hp', rfl⟩ := List.mem_map.1 hp
  obtain ⟨q', hq', rfl⟩ := List.mem_map.1 hq
  obtain ⟨i, hi1, hi2⟩ := hm p' hp'
  obtain ⟨j, hj1, hj2⟩ := hm q' hq'
  exact (h i j _ _ _ _ hi1 hj1 hi2 hj2).2 e
 rw [(hb _).1, (hb _).2] at f2
 rw [hz1, hz2] at f1 f2
 exact f1.2 (by omega)
theorem num_num {A : Type} [DecidableEq A] (l : List A) : num (num l) = num l := by
 refine num_congr (num_len l) fun i j x y u v hx hy hu hv => ?_
 exact num_eq hu hv hx hy
def Rise (l : List Int) : Prop := l.Pairwise (· < ·)
theorem rise_unique {a b : List Int} (ha : Rise a) (hb : Rise b) (h : ∀ x, x ∈ a ↔ x ∈ b) : a = b := by
 induction a generalizing b with
 | nil =>
   cases b with
   | nil => rfl
   | cons y s => exact absurd ((h y).2 List.mem_cons_self) (by simp)
 | cons x r ih =>
   cases b with
   | nil => exact absurd ((h x).1 List.mem_cons_self) (by simp)
   | cons y s =>
     obtain ⟨hx, hr⟩ := List.pairwise_cons.1 ha
     obtain ⟨hy, hs⟩ := List.pairwise_cons.1 hb
     have e : x = y := by
      rcases List.mem_cons.1 ((h x).1 List.mem_cons_self) with e | h1
      ·exact e
      ·rcases List.mem_cons.1 ((h y).2 List.mem_cons_self) with e | h2
       ·exact e.symm
       ·have := hx y h2; have := hy x h1; omega
     subst e
     congr 1
     refine ih hr hs fun z => ⟨fun hz => ?_, fun hz => ?_⟩
     ·rcases List.mem_cons.1 ((h z).1 (List.mem_cons_of_mem _ hz)) with e | h1
      ·have := hx z hz; omega
      ·exact h1
     ·rcases List.mem_cons.1 ((h z).2 (List.mem_cons_of_mem _ hz)) with e | h1
      ·have := hy z hz; omega
      ·exact h1
def ins (x : Int) : List Int → List Int
 | [] => [x]
 | a :: r => if x < a then x :: a :: r else if a = x then a :: r else a :: ins x r
theorem mem_ins {x y : Int} {l : List Int} : y ∈ ins x l ↔ y = x ∨ y ∈ l := by
 induction l with
 | nil => simp [ins]
 | cons a r ih =>
   unfold ins
   split
   ·simp
   ·split
    ·rename_i h; subst h; simp
    ·simp only [List.mem_cons, ih]
     constructor
     ·rintro (h | h | h) <;> simp [h]
     ·rintro (h | h | h) <;> simp [h]
theorem ins_rise {x : Int} {l : List Int} (h : Rise l) : Rise (ins x l) := by
 induction l with
 | nil => exact List.pairwise_singleton _ _
 | cons a r ih =>
   obtain ⟨ha, hr⟩ := List.pairwise_cons.1 h
   unfold ins
   split
   ·rename_i h1
    exact List.pairwise_cons.2 ⟨fun y hy => by rcases List.mem_cons.1 hy with rfl | hy; exact h1; have := ha y hy; omega, h⟩
   ·split
    ·exact h
    ·rename_i h1 h2
     exact List.pairwise_cons.2 ⟨fun y hy => by rcases mem_ins.1 hy with rfl | hy; omega; exact ha y hy, ih hr⟩
def sd : List Int → List Int
 | [] => []
 | a :: r => ins a (sd r)
theorem mem_sd {x : Int} {l : List Int} : x ∈ sd l ↔ x ∈ l := by
 induction l with
 | nil => simp [sd]
 | cons a r ih => simp [sd, mem_ins, ih]
theorem sd_rise (l : List Int) : Rise (sd l) := by
 induction l with
 | nil => exact List.Pairwise.nil
 | cons a r ih => exact ins_rise ih
theorem sd_of {l m : List Int} (h : Rise m) (hm : ∀ x, x ∈ m ↔ x ∈ l) : m = sd l := rise_unique h (sd_rise l) fun x => (hm x).trans mem_sd.symm
theorem sd_eq {l m : List Int} : sd l = sd m ↔ ∀ x, x ∈ l ↔ x ∈ m := ⟨fun h x => by rw [← mem_sd, h, mem_sd], fun h => sd_of (sd_rise l) fun x => mem_sd.trans (h x)⟩
abbrev St : Type := Int × Int
def cl (c : List Nat) (t : Int) : Nat := (c[t.toNat]?).getD 0
def ends (M : Int) (c : List Nat) (l : List St) : List Int := l.map fun z => z.1 * M + cl c z.2
def leads (c : List Nat) (l : List St) (b : Int) (k : Nat) : Prop := ∃ z ∈ l, z.1 = b ∧ cl c z.2 = k
theorem mul_inj {a b M : Int} {k m : Nat} (hk : (k : Int) < M) (hm : (m : Int) < M) (h : a * M + k = b * M + m) : a = b ∧ k = m := by
 have e : a = b := by
  rcases Int.lt_trichotomy a b with h1 | h1 | h1
  ·have h2 : (a + 1) * M ≤ b * M := Int.mul_le_mul_of_nonneg_right (by omega) (by omega)
   rw [Int.add_mul] at h2; omega
  ·exact h1
  ·have h2 : (b + 1) * M ≤ a * M := Int.mul_le_mul_of_nonneg_right (by omega) (by omega)
   rw [Int.add_mul] at h2; omega
 subst e
 exact ⟨rfl, by omega⟩
theorem ends_eq {M : Int} {c : List Nat} {l m : List St} (h1 : ∀ z ∈ l, (cl c z.2 : Int) < M) (h2 : ∀ z ∈ m, (cl c z.2 : Int) < M) : sd (ends M c l) = sd (ends M c m) ↔ ∀ b k, leads c l b k ↔ leads c m b k := by
 have half : ∀ {l m : List St}, (∀ z ∈ l, (cl c z.2 : Int) < M) → (∀ z ∈ m, (cl c z.2 : Int) < M) → (∀ x, x ∈ ends M c l → x ∈ ends M c m) → ∀ b k, leads c l b k → leads c m b k := fun {l m} h1 h2 h b k hL => by
  obtain ⟨z, hz, rfl, rfl⟩ := hL
  obtain ⟨y, hy, he⟩ := List.mem_map.1 (h _ (List.mem_map.2 ⟨z, hz, rfl⟩))
  obtain ⟨e1, e2⟩ := mul_inj (h2 y hy) (h1 z hz) he
  exact ⟨y, hy, e1, e2⟩
 have back : ∀ {l m : List St}, (∀ b k, leads c l b k → leads c m b k) → ∀ x, x ∈ ends M c l → x ∈ ends M c m := fun {l m} h x hx => by
  obtain ⟨z, hz, rfl⟩ := List.mem_map.1 hx
  obtain ⟨y, hy, e1, e2⟩ := h _ _ ⟨z, hz, rfl, rfl⟩
  exact List.mem_map.2 ⟨y, hy, by rw [e1, e2]⟩
 rw [sd_eq]
 constructor
 ·exact fun h b k => ⟨half h1 h2 (fun x => (h x).1) b k, half h2 h1 (fun x => (h x).2) b k⟩
 ·exact fun h x => ⟨back (fun b k => (h b k).1) x, back (fun b k => (h b k).2) x⟩
def key (out : Nat → List St) (c : List Nat) (i : Nat) : Int × List Int := ((c[i]?).getD 0, sd (ends 1001 c (out i)))
def nx (n : Nat) (out : Nat → List St) (c : List Nat) : List Nat := num ((List.range n).map (key out c))
def rnd (n : Nat) (out : Nat → List St) : Nat → List Nat
 | 0 => List.replicate n 0
 | k + 1 => nx n out (rnd n out k)
theorem nx_len (n : Nat) (out : Nat → List St) (c : List Nat) : (nx n out c).length = n := by simp [nx, num_len]
theorem rnd_len (n : Nat) (out : Nat → List St) (k : Nat) : (rnd n out k).length = n := by
 cases k with
 | zero => simp [rnd]
 | succ k => exact nx_len n out _
theorem nx_lt {n : Nat} {out : Nat → List St} {c : List Nat} {u : Nat} (h : u ∈ nx n out c) : u < n := by
 have h1 := num_lt h
 have h2 := dd_le ((List.range n).map (key out c))
 simp at h2
 omega
theorem rnd_lt {n : Nat} {out : Nat → List St} {k u : Nat} (h : u ∈ rnd n out k) : u < n := by
 cases k with
 | zero => obtain ⟨h1, rfl⟩ := List.mem_replicate.1 h; omega
 | succ k => exact nx_lt h
theorem key_at {n i : Nat} (out : Nat → List St) (c : List Nat) (h : i < n) : ((List.range n).map (key out c))[i]? = some (key out c i) := by
 rw [List.getElem?_map, List.getElem?_range h]; rfl
theorem nx_eq {n : Nat} {out : Nat → List St} {c : List Nat} (hc : c.length = n) (hn : n ≤ 1000) (hlt : ∀ u ∈ c, u < n) {i j u v x y : Nat} (hu : (nx n out c)[i]? = some u) (hv : (nx n out c)[j]? = some v) (hx : c[i]? = some x) (hy : c[j]? = some y) : u = v ↔ x = y ∧ ∀ b k, leads c (out i) b k ↔ leads c (out j) b k := by
 have hi : i < n := by have := (List.getElem?_eq_some_iff.1 hx).1; omega
 have hj : j < n := by have := (List.getElem?_eq_some_iff.1 hy).1; omega
 have hM : ∀ t : Int, (cl c t : Int) < 1001 := fun t => by
  unfold cl
  cases h : c[t.toNat]? with
  | none => simp
  | some w => have := hlt w (List.mem_of_getElem? h); simp; omega
 have h1 := num_eq (key_at out c hi) (key_at out c hj) hu hv
 rw [h1]
 unfold key
 rw [hx, hy, Prod.mk.injEq, ends_eq (fun z _ => hM z.2) (fun z _ => hM z.2)]
 exact and_congr_left fun _ => (by simp only [Option.getD_some]; omega)
theorem rnd_num (n : Nat) (out : Nat → List St) (k : Nat) : num (rnd n out k) = rnd n out k := by
 cases k with
 | zero =>
   show num (List.replicate n 0) = List.replicate n 0
   refine snoc_ind (P := fun l : List Nat => (∀ x ∈ l, x = 0) → num l = l) (fun _ => rfl) (fun l x ih h => ?_) (List.replicate n 0) (fun x hx => (List.mem_replicate.1 hx).2)
   have hx : x = 0 := h x (List.mem_append_right _ List.mem_cons_self)
   subst hx
   have hl : ∀ y ∈ l, y = 0 := fun y hy => h y (List.mem_append_left _ hy)
   rw [num_snoc, ih hl]
   congr 2
   by_cases h0 : (0 : Nat) ∈ dd l
   ·have hlen : (dd l).length ≤ 1 := by
     clear ih h
     refine snoc_ind (P := fun l : List Nat => (∀ x ∈ l, x = 0) → (dd l).length ≤ 1) (fun _ => by simp [dd]) (fun l x ih h => ?_) l hl
     have h1 := ih fun y hy => h y (List.mem_append_left _ hy)
     rw [dd_len_snoc]
     split
     ·omega
     ·rename_i hx
      have : l = [] := by
       cases l with
       | nil => rfl
       | cons y s => exact absurd (by rw [h x (List.mem_append_right _ List.mem_cons_self), ← h y List.mem_cons_self]; exact List.mem_cons_self) hx
      subst this
      simp [dd]
    have := place_lt.2 h0
    omega
   ·rw [place_no h0]
    cases l with
    | nil => simp [dd]
    | cons y s => exact absurd ((mem_dd _).2 (by rw [← hl y List.mem_cons_self]; exact List.mem_cons_self)) h0
 | succ k => exact num_num _
theorem nx_stop {n : Nat} {out : Nat → List St} {c : List Nat} (hc : c.length = n) (hnum : num c = c) : (dd c).length ≤ (dd (nx n out c)).length ∧ ((dd c).length = (dd (nx n out c)).length → nx n out c = c) := by
 have hf := finer ((nx n out c).zip c) fun p hp q hq e => by
  obtain ⟨i, hi⟩ := List.mem_iff_getElem?.1 hp
  obtain ⟨j, hj⟩ := List.mem_iff_getElem?.1 hq
  rw [List.getElem?_zip_eq_some] at hi hj
  have hil : i < n := by have := (List.getElem?_eq_some_iff.1 hi.2).1; omega
  have hjl : j < n := by have := (List.getElem?_eq_some_iff.1 hj.2).1; omega
  have h1 := (num_eq (key_at out c hil) (key_at out c hjl) hi.1 hj.1).1 e
  have h2 := (Prod.mk.injEq .. ▸ h1 : _ ∧ _).1
  rw [hi.2, hj.2] at h2
  simp only [Option.getD_some] at h2
  omega
 rw [List.map_fst_zip (by rw [nx_len, hc]; exact Nat.le_refl _), List.map_snd_zip (by rw [nx_len, hc]; exact Nat.le_refl _)] at hf
 refine ⟨hf.1, fun e => ?_⟩
 have h1 := hf.2 e
 rw [hnum] at h1
 have h2 : num (nx n out c) = nx n out c := num_num _
 rw [← h2, h1]
theorem rnd_stop {n : Nat} {out : Nat → List St} {k : Nat} (h : (dd (rnd n out k)).length = (dd (rnd n out (k + 1))).length) : rnd n out (k + 1) = rnd n out k := (nx_stop (rnd_len n out k) (rnd_num n out k)).2 h
theorem rnd_grow {n : Nat} {out : Nat → List St} {k : Nat} (hn : 0 < n) (h : ∀ j, j < k → rnd n out (j + 1) ≠ rnd n out j) : k + 1 ≤ (dd (rnd n out k)).length := by
 induction k with
 | zero =>
   have : (0 : Nat) ∈ dd (rnd n out 0) := (mem_dd _).2 (List.mem_replicate.2 ⟨by omega, rfl⟩)
   exact List.length_pos_of_mem this
 | succ k ih =>
   have h1 := ih fun j hj => h j (by omega)
   have h2 := (nx_stop (out := out) (rnd_len n out k) (rnd_num n out k)).1
   have h3 : (dd (rnd n out k)).length ≠ (dd (rnd n out (k + 1))).length := fun e => h k (by omega) (rnd_stop e)
   show k + 1 + 1 ≤ (dd (rnd n out (k + 1))).length
   have h4 : (dd (rnd n out k)).length ≤ (dd (rnd n out (k + 1))).length := h2
   omega
def Last (n : Nat) (out : Nat → List St) (R : Nat) : Prop := rnd n out (R + 1) = rnd n out R ∧ ∀ j, j < R → rnd n out (j + 1) ≠ rnd n out j
theorem changes_lt {n : Nat} {out : Nat → List St} {k : Nat} (h : ∀ j, j < k → rnd n out (j + 1) ≠ rnd n out j) : k < max n 1 := by
 by_cases hn : 0 < n
 ·have h1 := rnd_grow hn h
  have h2 := dd_le (rnd n out k)
  rw [rnd_len] at h2
  omega
 ·obtain rfl : n = 0 := by omega
  rcases Nat.eq_zero_or_pos k with rfl | hk
  ·simp
  ·exact absurd (by rw [List.length_eq_zero_iff.1 (rnd_len 0 out (0 + 1)), List.length_eq_zero_iff.1 (rnd_len 0 out 0)]) (h 0 hk)
theorem exists_last (n : Nat) (out : Nat → List St) : ∃ R, Last n out R := by
 have h : ∀ f k, k + f = max n 1 → (∀ j, j < k → rnd n out (j + 1) ≠ rnd n out j) → ∃ R, Last n out R := fun f => by
  induction f with
  | zero => intro k hk hc; have := changes_lt hc; omega
  | succ f ih =>
    intro k hk hc
    by_cases e : rnd n out (k + 1) = rnd n out k
    ·exact ⟨k, e, hc⟩
    ·exact ih (k + 1) (by omega) fun j hj => by
      rcases Nat.lt_or_ge j k with h1 | h1
      ·exact hc j h1
      ·obtain rfl : j = k := by omega
       exact e
 exact h (max n 1) 0 (by omega) fun j hj => by omega
theorem Last.unique {n : Nat} {out : Nat → List St} {R S : Nat} (h : Last n out R) (k : Last n out S) : R = S := by
 rcases Nat.lt_trichotomy R S with h1 | h1 | h1
 ·exact absurd h.1 (k.2 R h1)
 ·exact h1
 ·exact absurd k.1 (h.2 S h1)
def rounds (n : Nat) (out : Nat → List St) (k : Nat) : List (List Nat) := (List.range k).map (rnd n out)
def rankG (n : Nat) (out : Nat → List St) (p q : Nat) (k : Nat) : Nat → Int
 | 0 => -1
 | f + 1 => if (rnd n out k)[p]? = (rnd n out k)[q]? then rankG n out p q (k + 1) f else k
def rank (n : Nat) (out : Nat → List St) (R p q : Nat) : Int := rankG n out p q 0 (R + 1)
end Go.Proofs.YtkiapldehlnndaaGreatDoor.Ro
/- Plain facts on refining: which classes are those of the last round; what a split makes of them. Nothing of the program is in it. -/
namespace Go.Proofs.YtkiapldehlnndaaGreatDoor.Sg
open Ro
def into (out : Nat → List St) (X : Nat → Prop) (b : Int) (p : Nat) : Prop := ∃ z ∈ out p, z.1 = b ∧ X z.2.toNat
def Fits (n : Nat) (out : Nat → List St) : Prop := ∀ p, p < n → ∀ z ∈ out p, 0 ≤ z.2 ∧ z.2 < (n : Int)
theorem into_congr {n : Nat} {out : Nat → List St} (hf : Fits n out) {X Y : Nat → Prop} (h : ∀ t, t < n → (X t ↔ Y t)) {b : Int} {p : Nat} (hp : p < n) : into out X b p ↔ into out Y b p := by
 have hh : ∀ {X Y : Nat → Prop}, (∀ t, t < n → (X t ↔ Y t)) → into out X b p → into out Y b p := fun h ⟨z, hz, e, hx⟩ => ⟨z, hz, e, (h _ (by have := hf p hp z hz; omega)).1 hx⟩
 exact ⟨hh h, hh fun t ht => (h t ht).symm⟩
def Stable (n : Nat) (out : Nat → List St) (O : Nat → Nat) : Prop := ∀ p q, p < n → q < n → O p = O q → ∀ b B, into out (fun t => O t = B) b p → into out (fun t => O t = B) b q
def Coarse (n : Nat) (c : List Nat) (O : Nat → Nat) : Prop := ∀ p q, p < n → q < n → c[p]? = c[q]? → O p = O q
theorem cl_of {c : List Nat} {t : Int} {x : Nat} (h : c[t.toNat]? = some x) : cl c t = x := by unfold cl; rw [h]; rfl
theorem at_lt {n : Nat} {c : List Nat} (hc : c.length = n) {p : Nat} (hp : p < n) : ∃ x, c[p]? = some x := ⟨c[p]'(by omega), List.getElem?_eq_getElem _⟩
theorem stable_rnd {n : Nat} {out : Nat → List St} {O : Nat → Nat} (hn : n ≤ 1000) (hf : Fits n out) (hs : Stable n out O) : ∀ k p q, p < n → q < n → O p = O q → (rnd n out k)[p]? = (rnd n out k)[q]? := by
 intro k
 induction k with
 | zero => intro p q hp hq _; simp [rnd, hp, hq]
 | succ k ih =>
   intro p q hp hq e
   obtain ⟨u, hu⟩ := at_lt (rnd_len n out (k + 1)) hp
   obtain ⟨v, hv⟩ := at_lt (rnd_len n out (k + 1)) hq
   obtain ⟨x, hx⟩ := at_lt (rnd_len n out k) hp
   obtain ⟨y, hy⟩ := at_lt (rnd_len n out k) hq
   have half : ∀ p q, p < n → q < n → O p = O q → ∀ b j, leads (rnd n out k) (out p) b j → leads (rnd n out k) (out q) b j := fun p q hp hq e b j ⟨z, hz, e1, e2⟩ => by
    obtain ⟨z', hz', e3, e4⟩ := hs p q hp hq e b (O z.2.toNat) ⟨z, hz, e1, rfl⟩
    refine ⟨z', hz', e3, ?_⟩
    have h1 := hf p hp z hz
    have h2 := hf q hq z' hz'
    have h3 := ih z'.2.toNat z.2.toNat (by omega) (by omega) e4
    rw [← e2]
    unfold cl
    rw [h3]
   have h1 := nx_eq (out := out) (rnd_len n out k) hn (fun u hu => rnd_lt hu) (i := p) (j := q) hu hv hx hy
   rw [hu, hv, h1.2 ⟨?_, fun b j => ⟨half p q hp hq e b j, half q p hq hp e.symm b j⟩⟩]
   have h2 := ih p q hp hq e
   rw [hx, hy] at h2
   exact Option.some.inj h2
def Sat (n : Nat) (c : List Nat) (X : Nat → Prop) : Prop := ∀ p q, p < n → q < n → c[p]? = c[q]? → X p → X q
theorem last_into {n : Nat} {out : Nat → List St} {R : Nat} (hn : n ≤ 1000) (hf : Fits n out) (hR : Last n out R) {X : Nat → Prop} (hX : Sat n (rnd n out R) X) (b : Int) : Sat n (rnd n out R) (into out X b) := by
 intro p q hp hq e ⟨z, hz, e1, hx⟩
 obtain ⟨x, hcx⟩ := at_lt (rnd_len n out R) hp
 obtain ⟨y, hcy⟩ := at_lt (rnd_len n out R) hq
 have hu : (nx n out (rnd n out R))[p]? = some x := by
  have h1 : nx n out (rnd n out R) = rnd n out R := hR.1
  rw [h1]; exact hcx
 have hv : (nx n out (rnd n out R))[q]? = some y := by
  have h1 : nx n out (rnd n out R) = rnd n out R := hR.1
  rw [h1]; exact hcy
 have hxy : x = y := by rw [hcx, hcy] at e; exact Option.some.inj e
 have h1 := ((nx_eq (out := out) (rnd_len n out R) hn (fun u hu => rnd_lt hu) hu hv hcx hcy).1 hxy).2
 have h2 := hf p hp z hz
 obtain ⟨t, ht⟩ := at_lt (rnd_len n out R) (show z.2.toNat < n by omega)
 obtain ⟨z', hz', e3, e4⟩ := (h1 b t).1 ⟨z, hz, e1, cl_of ht⟩
 have h3 := hf q hq z' hz'
 obtain ⟨t', ht'⟩ := at_lt (rnd_len n out R) (show z'.2.toNat < n by omega)
 rw [cl_of ht'] at e4
 exact ⟨z', hz', e3, hX _ _ (by omega) (by omega) (by rw [ht, ht', e4]) hx⟩
theorem Coarse.sat {n : Nat} {c : List Nat} {O : Nat → Nat} (h : Coarse n c O) (P : Nat → Prop) : Sat n c (fun t => P (O t)) := fun p q hp hq e hx => by
 show P (O q)
 rw [← h p q hp hq e]
 exact hx
theorem Sat.and {n : Nat} {c : List Nat} {X Y : Nat → Prop} (h : Sat n c X) (k : Sat n c Y) : Sat n c (fun t => X t ∧ Y t) := fun p q hp hq e hx => ⟨h p q hp hq e hx.1, k p q hp hq e hx.2⟩
theorem Sat.not {n : Nat} {c : List Nat} {X : Nat → Prop} (h : Sat n c X) : Sat n c (fun t => ¬ X t) := fun p q hp hq e hx hy => hx (h q p hq hp e.symm hy)
theorem blocks_last {n : Nat} {out : Nat → List St} {R : Nat} {O : Nat → Nat} (hn : n ≤ 1000) (hf : Fits n out) (hs : Stable n out O) (hc : Coarse n (rnd n out R) O) : num ((List.range n).map O) = rnd n out R := by
 rw [← rnd_num n out R]
 refine num_congr (by simp [rnd_len]) fun i j x y u v hx hy hu hv => ?_
 have hi : i < n := by have := (List.getElem?_eq_some_iff.1 hu).1; rw [rnd_len] at this; exact this
 have hj : j < n := by have := (List.getElem?_eq_some_iff.1 hv).1; rw [rnd_len] at this; exact this
 rw [List.getElem?_map, List.getElem?_range hi] at hx
 rw [List.getElem?_map, List.getElem?_range hj] at hy
 simp only [Option.map_some, Option.some.injEq] at hx hy
 subst hx; subst hy
 constructor
 ·intro e
  have := stable_rnd hn hf hs R i j hi hj e
  rw [hu, hv] at this
  exact Option.some.inj this
 ·intro e
  exact hc i j hi hj (by rw [hu, hv, e])
def Split (n : Nat) (S : (Nat → Prop) → Prop) (O O' : Nat → Nat) : Prop := ∀ p q, p < n → q < n → (O' p = O' q ↔ O p = O q ∧ ∀ X, S X → (X p ↔ X q))
theorem Split.coarse {n : Nat} {S : (Nat → Prop) → Prop} {O O' : Nat → Nat} {c : List Nat} (h : Split n S O O') (hc : Coarse n c O) (hS : ∀ X, S X → Sat n c X) : Coarse n c O' := fun p q hp hq e => (h p q hp hq).2 ⟨hc p q hp hq e, fun X hX => ⟨hS X hX p q hp hq e, hS X hX q p hq hp e.symm⟩⟩
theorem Split.finer {n : Nat} {S : (Nat → Prop) → Prop} {O O' : Nat → Nat} (h : Split n S O O') {p q : Nat} (hp : p < n) (hq : q < n) (e : O' p = O' q) : O p = O q := ((h p q hp hq).1 e).1
def Even (n : Nat) (out : Nat → List St) (O H : Nat → Nat) : Prop := ∀ p q, p < n → q < n → O p = O q → ∀ b k, into out (fun t => H t = k) b p → into out (fun t => H t = k) b q
def By (out : Nat → List St) (B Y : Nat → Prop) (X : Nat → Prop) : Prop := ∃ b, (X = into out B b) ∨ X = fun p => into out B b p ∧ ¬ into out Y b p
end Go.Proofs.YtkiapldehlnndaaGreatDoor.Sg
/- What marks and splits make of a partition's blocks. Plain facts. -/
namespace Go.Proofs.YtkiapldehlnndaaGreatDoor
theorem split_eq {s : Pst} (hO : s.Ok) {b p q : Nat} (hb : b < s.nb) (hp : p < s.n) (hq : q < s.n) : (s.split b).O p = (s.split b).O q ↔ s.O p = s.O q ∧ (s.O p = b → s.isM p = s.isM q) := by
 rw [split_O hO hb hp, split_O hO hb hq]
 obtain ⟨p1, p2, p3⟩ := hO.o p hp
 obtain ⟨q1, q2, q3⟩ := hO.o q hq
 by_cases hs : s.splits b
 ·generalize decide (2 * (s.R b - s.B b) ≤ s.D b - s.B b) = d
  by_cases hpb : s.O p = b
  ·by_cases hqb : s.O q = b
   ·have e : ∀ y, s.O y = b → (s.splits b ∧ s.O y = b ∧ s.isM y = d ↔ s.isM y = d) := fun y hy => ⟨fun h => h.2.2, fun h => ⟨hs, hy, h⟩⟩
    simp only [e p hpb, e q hqb]
    by_cases h1 : s.isM p = d
    ·rw [if_pos h1]
     by_cases h2 : s.isM q = d
     ·rw [if_pos h2]; exact ⟨fun _ => ⟨by rw [hpb, hqb], fun _ => by rw [h1, h2]⟩, fun _ => rfl⟩
     ·rw [if_neg h2]; exact ⟨fun h => by omega, fun h => absurd ((h.2 hpb).symm.trans h1) h2⟩
    ·rw [if_neg h1]
     by_cases h2 : s.isM q = d
     ·rw [if_pos h2]; exact ⟨fun h => by omega, fun h => absurd ((h.2 hpb).trans h2) h1⟩
     ·rw [if_neg h2]
      refine ⟨fun h => ⟨h, fun _ => ?_⟩, fun h => h.1⟩
      cases hm : s.isM p <;> cases hn : s.isM q <;> cases d <;> simp_all
   ·have eq2 : (if s.splits b ∧ s.O q = b ∧ s.isM q = d then s.nb else s.O q) = s.O q := if_neg (fun h => hqb h.2.1)
    rw [eq2]
    constructor
    ·intro h; split at h <;> omega
    ·intro h; exact absurd (h.1.symm.trans hpb) hqb
  ·have ep2 : (if s.splits b ∧ s.O p = b ∧ s.isM p = d then s.nb else s.O p) = s.O p := if_neg (fun h => hpb h.2.1)
   rw [ep2]
   by_cases hqb : s.O q = b
   ·constructor
    ·intro h; split at h <;> omega
    ·intro h; exact absurd (h.1.trans hqb) hpb
   ·have eq2 : (if s.splits b ∧ s.O q = b ∧ s.isM q = d then s.nb else s.O q) = s.O q := if_neg (fun h => hqb h.2.1)
    rw [eq2]
    exact ⟨fun h => ⟨h, fun h1 => absurd h1 hpb⟩, fun h => h.1⟩
 ·rw [if_neg (fun h => hs h.1), if_neg (fun h => hs h.1)]
  refine ⟨fun h => ⟨h, fun h1 => ?_⟩, fun h => h.1⟩
  have v := hO.iv b hb
  unfold Pst.splits at hs
  have hq1 : s.O q = b := h.symm.trans h1
  rw [h1] at p2 p3
  rw [hq1] at q2 q3
  unfold Pst.isM
  rw [h1, hq1]
  exact decide_eq_decide.2 (by omega)
def Pst.markIf (s : Pst) (e : Nat) : Pst := if s.P e < s.R (s.O e) then s else s.mark e
def Pst.marks (s : Pst) (l : List Nat) : Pst := l.foldl Pst.markIf s
def Pst.splitAll (s : Pst) (l : List Nat) : Pst := l.foldl (fun s e => s.split (s.O e)) s
theorem splitAll_ok {l : List Nat} : ∀ {s : Pst}, s.Ok → (∀ e ∈ l, e < s.n) → (s.splitAll l).Ok ∧ (s.splitAll l).n = s.n ∧ (∀ y, y < s.n → ((s.splitAll l).isM y = true ↔ s.isM y = true ∧ ∀ e ∈ l, s.O e ≠ s.O y)) ∧ ∀ p q, p < s.n → q < s.n → ((s.splitAll l).O p = (s.splitAll l).O q ↔ s.O p = s.O q ∧ ((∃ e ∈ l, s.O e = s.O p) → s.isM p = s.isM q)) := by
 induction l with
 | nil => intro s hO _; exact ⟨hO, rfl, fun y _ => by simp [Pst.splitAll], fun p q _ _ => by simp [Pst.splitAll]⟩
 | cons e r ih =>
   intro s hO hl
   have he := hl e List.mem_cons_self
   have hb := (hO.o e he).1
   obtain ⟨h1, h2, _, _, h3⟩ := split_ok hO hb
   have hE := fun p q hp hq => split_eq (p := p) (q := q) hO hb hp hq
   obtain ⟨k1, k2, k3, k4⟩ := ih h1 (fun f hf => by rw [h2]; exact hl f (List.mem_cons_of_mem _ hf))
   have hr : ∀ f ∈ r, f < s.n := fun f hf => hl f (List.mem_cons_of_mem _ hf)
   refine ⟨k1, k2.trans h2, fun y hy => ?_, fun p q hp hq => ?_⟩
   ·show (Pst.splitAll (s.split (s.O e)) r).isM y = true ↔ _
    rw [k3 y (by rw [h2]; exact hy), h3 y hy]
    simp only [Bool.and_eq_true, decide_eq_true_eq, List.forall_mem_cons]
    constructor
    ·rintro ⟨⟨a1, a2⟩, a3⟩
     refine ⟨a1, fun h => a2 h.symm, fun f hf h => a3 f hf ?_⟩
     exact (hE f y (hr f hf) hy).2 ⟨h, fun h4 => absurd (h.symm.trans h4) a2⟩
    ·rintro ⟨a1, a2, a3⟩
     exact ⟨⟨a1, fun h => a2 h.symm⟩, fun f hf h => a3 f hf ((hE f y (hr f hf) hy).1 h).1⟩
   ·show (Pst.splitAll (s.split (s.O e)) r).O p = (Pst.splitAll (s.split (s.O e)) r).O q ↔ _
    rw [k4 p q (by rw [h2]; exact hp) (by rw [h2]; exact hq), hE p q hp hq, h3 p hp, h3 q hq]
    by_cases h4 : s.O p = s.O e
    ·constructor
     ·rintro ⟨⟨a1, a2⟩, _⟩
      exact ⟨a1, fun _ => a2 h4⟩
     ·rintro ⟨a1, a2⟩
      refine ⟨⟨a1, fun _ => a2 ⟨e, List.mem_cons_self, h4.symm⟩⟩, fun _ => ?_⟩
      have h5 : s.O q = s.O e := a1.symm.trans h4
      simp [h4, h5]
    ·constructor
     ·rintro ⟨⟨a1, a2⟩, a3⟩
      refine ⟨a1, fun ⟨f, hf, h5⟩ => ?_⟩
      have h6 : ¬ s.O q = s.O e := fun h => h4 (a1.trans h)
      rcases List.mem_cons.1 hf with rfl | hf
      ·exact absurd h5.symm h4
      ·have := a3 ⟨f, hf, (hE f p (hr f hf) hp).2 ⟨h5, fun h7 => absurd (h5.symm.trans h7) h4⟩⟩
       simpa [h4, h6] using this
     ·rintro ⟨a1, a2⟩
      refine ⟨⟨a1, fun h => absurd h h4⟩, fun ⟨f, hf, h5⟩ => ?_⟩
      rw [a2 ⟨f, List.mem_cons_of_mem _ hf, ((hE f p (hr f hf) hp).1 h5).1⟩, a1]
def Pst.bare (s : Pst) : Prop := ∀ y, y < s.n → s.isM y = false
end Go.Proofs.YtkiapldehlnndaaGreatDoor
/- A run of package strong in memory; contract of its members. -/
namespace Go.Proofs.YtkiapldehlnndaaGreatDoor
open Go.RowKit Go.Maps
attribute [local go_sem ↓] Go.wp_at_zero Go.wp_at_succ
theorem Que.cell {w : World} {B : Nat} {v : Value} {zs : List Int} (h : Que w B v zs) {i : Nat} {z : Int} (hi : zs[i]? = some z) : ∃ g off cap, v = .slice (some ⟨g, off, none⟩) zs.length cap ∧ zs.length ≤ cap ∧ w.cell? ⟨g, off + i, none⟩ = some (.int .i64 z) ∧ w.frozen? ⟨g, off + i, none⟩ = false := by
 have hl := (List.getElem?_eq_some_iff.1 hi).1
 rcases h with ⟨_, rfl⟩ | ⟨g, off, cap, cur, rfl, hB, hg, hn, hm, hs, ht⟩
 ·simp at hi
 ·refine ⟨g, off, cap, rfl, hn, cell0_of hg ?_, blk_free hg _⟩
  rw [← Array.getElem?_toList]
  have h9 : ((cur.toList.drop off).take zs.length)[i]? = (iC zs)[i]? := by rw [ht]
  rw [List.getElem?_take_of_lt hl, List.getElem?_drop] at h9
  rw [h9]
  simp [iC, hi]
theorem Que.set {w : World} {B g off n cap : Nat} {zs : List Int} (h : Que w B (.slice (some ⟨g, off, none⟩) n cap) zs) {i : Nat} (hi : i < zs.length) (z : Int) : Que (w.setCell ⟨g, off + i, none⟩ (.int .i64 z)) B (.slice (some ⟨g, off, none⟩) n cap) (zs.set i z) := by
 rcases h with ⟨e, _⟩ | ⟨g', off', cap', cur, e, hB, hg, hn, hm, hs, ht⟩
 ·cases e
 ·cases e
  refine .inr ⟨g, off, cap, _, by rw [List.length_set], hB, heap_setCell_same w g _ cur _ _ hg, by rw [List.length_set]; exact hn, hm, by simp; omega, ?_⟩
  rw [Array.toList_setIfInBounds, List.length_set]
  apply List.ext_getElem?
  intro j
  rcases Nat.lt_or_ge j zs.length with hj | hj
  ·have h9 : ((cur.toList.drop off).take zs.length)[j]? = (iC zs)[j]? := by rw [ht]
   rw [List.getElem?_take_of_lt hj, List.getElem?_drop] at h9
   rw [List.getElem?_take_of_lt hj, List.getElem?_drop]
   by_cases e : j = i
   ·subst e
    rw [List.getElem?_set_self (by simp; omega)]
    simp [iC, hi]
   ·rw [List.getElem?_set_ne (by omega), h9]
    simp only [iC, List.getElem?_map]
    rw [List.getElem?_set_ne (fun e2 => e e2.symm)]
  ·rw [List.getElem?_eq_none (by simp; omega), List.getElem?_eq_none (by simp [iC]; omega)]
structure Rv where
 vh : Value
 vo : Value
 vz : Value
 vw : Value
 ow : List Int
 sz : List Int
 wt : List Int
 H : List (Value × List Int)
 ks : List Nat
def Rv.L (x : Rv) : List (Value × List Int) := (x.vo, x.ow) :: (x.vz, x.sz) :: (x.vw, x.wt) :: x.H
def Rv.foot (x : Rv) (b : Nat) : Prop := x.vh.ownBlock = some b ∨ Foot x.L b
structure RnM (w : World) (B r g p mb : Nat) (x : Rv) : Prop where
 box : w.heap[r]? = some (.cells #[.pointer (some ⟨g, 0, none⟩), .pointer (some ⟨p, 0, none⟩), x.vh, x.vo, x.vz, .map (some mb), x.vw] 94 (0, 0))
 hp : w.ownsRow B 149 2 x.vh x.ks.length (hpC x.H x.ks)
 len : x.H.length = x.ks.length
 q : QueAll w B x.L
 up : B ≤ r
 fl : ∀ z ∈ x.H, At0 z.1
theorem RnM.foot_lt {w : World} {B r g p mb : Nat} {x : Rv} (h : RnM w B r g p mb x) {b : Nat} (hb : x.foot b) : B ≤ b ∧ b < w.heap.size := hb.elim (fun e => h.hp.lt b e) fun e => h.q.lt e
theorem RnM.foot_ne {w : World} {B r g p mb : Nat} {x : Rv} (h : RnM w B r g p mb x) {b : Nat} {cs : Array Value} {t : TypeId} (hb : w.heap[b]? = some (.cells cs t (0, 0))) (h1 : 149 ≠ t) (h2 : 3 ≠ t) : ¬ x.foot b := fun hf => by
 rcases hf with hf | hf
 ·exact own_bk h.hp hb h1 hf
 ·obtain ⟨c2, hc⟩ := h.q.typed hf
  rw [hb] at hc
  injection hc with e
  injection e with _ e
  exact h2 e.symm
theorem RnM.r_foot {w : World} {B r g p mb : Nat} {x : Rv} (h : RnM w B r g p mb x) : ¬ x.foot r := h.foot_ne h.box (by decide) (by decide)
theorem RnM.heap_list {w : World} {B r g p mb : Nat} {x : Rv} (h : RnM w B r g p mb x) {b : Nat} (h1 : x.vh.ownBlock = some b) : ¬ Foot x.L b := fun hf => by
 obtain ⟨c2, hc⟩ := h.q.typed hf
 exact own_bk h.hp hc (by decide) h1
theorem RnM.kept {w w' : World} {B r g p mb : Nat} {x : Rv} {F : Nat → Prop} (h : RnM w B r g p mb x) (hk : Kept F w w') (hr : ¬ F r) (hF : ∀ b, x.foot b → ¬ F b) : RnM w' B r g p mb x :=
 ⟨(hk.block r (t_lt h.box) hr).trans h.box, own_up h.hp hk fun b hb => hF b (.inl hb), h.len, h.q.kept hk fun b hb => hF b (.inr hb), h.up, h.fl⟩
theorem RnM.below {w w' : World} {B r g p mb : Nat} {x : Rv} (h : RnM w B r g p mb x) (hb : Below w.heap.size w w') : RnM w' B r g p mb x := h.kept (F := fun _ => False) ⟨hb.os, hb.tape, hb.output, hb.size, fun i hi _ => hb.block i hi⟩ (fun h => h) fun _ _ h => h
theorem seven_cells {w : World} {b : Nat} {a0 a1 a2 a3 a4 a5 a6 : Value} {t : TypeId} (h : w.heap[b]? = some (.cells #[a0, a1, a2, a3, a4, a5, a6] t (0, 0))) : w.cell? ⟨b, 0, none⟩ = some a0 ∧ w.cell? ⟨b, 1, none⟩ = some a1 ∧ w.cell? ⟨b, 2, none⟩ = some a2 ∧ w.cell? ⟨b, 3, none⟩ = some a3 ∧ w.cell? ⟨b, 4, none⟩ = some a4 ∧ w.cell? ⟨b, 5, none⟩ = some a5 ∧ w.cell? ⟨b, 6, none⟩ = some a6 :=
 ⟨cell0_of h rfl, cell0_of h rfl, cell0_of h rfl, cell0_of h rfl, cell0_of h rfl, cell0_of h rfl, cell0_of h rfl⟩
set_option maxHeartbeats 1000000 in
theorem rmembers_any (w0 : World) (B r g p mb : Nat) (x : Rv) (c : Nat → Int) (s : Pst) (b : Nat) (w : World) (hM : RnM w B r g p mb x) (hP : Pt w0 w p c) (hL : Lay c s) (hO : s.Ok) (hb : b < s.nb) :
 Calls Tryz.prog 50 #[.pointer (some ⟨r, 0, none⟩), .int .i64 b] w fun e w' => ∃ u, e = .returned u ∧ OwnI w' w.heap.size u (s.mem b) ∧ Below w.heap.size w w' := by
 obtain ⟨_, c1, _⟩ := seven_cells hM.box
 have hMb := members_ok p c s b w0 w hP hL hO hb
 have H : Hid _ := And.intro hMb trivial
 clear hM hP hL hO hb hMb
 go_enter Tryz.func50, Tryz.ntmps50
 go_wp2_with (go_at_call 121; refine Calls.mono H.out.1 ?_; rintro r1 w1 ⟨u, rfl, hu, hb1⟩; have H1 : Hid _ := And.intro hu hb1; clear hu hb1)
 go_ret
 exact ⟨_, rfl, H1.out.1, H1.out.2⟩
end Go.Proofs.YtkiapldehlnndaaGreatDoor
