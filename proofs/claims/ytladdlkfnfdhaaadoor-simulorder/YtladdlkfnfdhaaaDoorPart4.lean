/- Texts of this claim, joined: SyChk, SyView, SoRow, SoIns, Shelf, SoSmall. -/
import Derived.Test.YtladdlkfnfdhaaaDoorPart3
import Derived.Shelf.Abstract
import Derived.Deep.RegionHeld3
import Derived.Sort.AssemblyPlain
import Derived.Shelf.Small.Bits
import Derived.Shelf.Small.Wraps
import Derived.Shelf.Strconv.Itoa0
import Derived.Ground.Names2Prog
import Derived.Shelf.Slices.SearchI
import Derived.Test.YtladdlkfnfdhaaaDoorProg
/- Contracts of the program's Check and what it calls. -/
namespace Go.Proofs.YtladdlkfnfdhaaaDoor
open Go.RowKit Go.Maps
attribute [local go_sem ↓] Go.wp_at_zero Go.wp_at_succ
theorem sysFault_any (a : Addr) (w : World) : Calls Tryd.prog 29 #[.iface 139 (.pointer (some a))] w fun r w' => ∃ x, r = .returned x ∧ Chain w' 0 0 a [sysB] x ∧ Below w.heap.size w w' := by
  go_enter Tryd.func29, Tryd.ntmps29
  go_wp2
  go_ret
  exact ⟨_, rfl, ⟨_, _, rfl, (MapKept.heap_alloc w _).1, rfl⟩, (Below.refl _ _).alloc (Nat.le_refl _) _⟩
theorem below_any (a b : Int) (w : World) : Calls Tryd.prog 40 #[.int .i64 a, .int .i64 b] w fun r w' => r = .returned (.bool (decide (0 ≤ a ∧ a < b))) ∧ w' = w := by
  by_cases h0 : 0 ≤ a
  · by_cases h1 : a < b
    · go_enter Tryd.func40, Tryd.ntmps40
      go_wp2
      go_ret
      exact ⟨by simp [h0, h1], rfl⟩
    · go_enter Tryd.func40, Tryd.ntmps40
      go_wp2
      go_ret
      exact ⟨by simp [h1], rfl⟩
  · go_enter Tryd.func40, Tryd.ntmps40
    go_wp2
    go_ret
    exact ⟨by simp; omega, rfl⟩
set_option maxRecDepth 100000 in
set_option maxHeartbeats 4000000 in
theorem stranger_any (n k s : Int) (v : Value) (b : Nat) (x : Sy.Ed) (w : World) (hB : w.heap[b]? = some (.cells #[.int .i64 n, .int .i64 k, .int .i64 s, v] 24 (0, 0))) :
    Calls Tryd.prog 45 #[edV x, .pointer (some ⟨b, 0, none⟩)] w fun r w' => r = .returned (.bool (!edgeOk n k x)) ∧ Below w.heap.size w w' := by
  obtain ⟨b0, b1, b2, b3⟩ := four_cells hB
  have hlt := t_lt hB
  have hne : ¬ b = w.heap.size := by omega
  have hA := fun W => below_any x.1 n W
  have hT := fun W => below_any x.2.2 n W
  have hL := fun W => below_any x.2.1 k W
  have hok : edgeOk n k x = (decide (0 ≤ x.1 ∧ x.1 < n) && decide (0 ≤ x.2.2 ∧ x.2.2 < n) && decide (0 ≤ x.2.1 ∧ x.2.1 < k)) := by
    unfold edgeOk
    rw [Bool.eq_iff_iff]
    simp only [Bool.and_eq_true, decide_eq_true_eq]
    omega
  unfold edV
  rw [hok]
  generalize decide (0 ≤ x.1 ∧ x.1 < n) = pa at hA ⊢
  generalize decide (0 ≤ x.2.2 ∧ x.2.2 < n) = pt at hT ⊢
  generalize decide (0 ≤ x.2.1 ∧ x.2.1 < k) = pl at hL ⊢
  clear hok hB b2 b3
  obtain ⟨x0, x1, x2⟩ := x
  cases pa with
  | false =>
    go_enter Tryd.func45, Tryd.ntmps45
    go_wp2_with (go_at_call 40; refine (hA _).mono ?_; rintro r w' ⟨rfl, hw⟩; obtain rfl := hw.symm)
    go_ret
    exact ⟨rfl, (Below.refl _ _).alloc (Nat.le_refl _) _⟩
  | true =>
    cases pt with
    | false =>
      go_enter Tryd.func45, Tryd.ntmps45
      go_wp2_with fail
      refine (hA _).mono ?_
      rintro r w1 ⟨rfl, hw⟩; obtain rfl := hw.symm
      go_wp2_with fail
      refine (hT _).mono ?_
      rintro r w1 ⟨rfl, hw⟩; obtain rfl := hw.symm
      go_wp2
      go_ret
      exact ⟨rfl, (Below.refl _ _).alloc (Nat.le_refl _) _⟩
    | true =>
      go_enter Tryd.func45, Tryd.ntmps45
      go_wp2_with fail
      refine (hA _).mono ?_
      rintro r w1 ⟨rfl, hw⟩; obtain rfl := hw.symm
      go_wp2_with fail
      refine (hT _).mono ?_
      rintro r w1 ⟨rfl, hw⟩; obtain rfl := hw.symm
      go_wp2_with fail
      refine (hL _).mono ?_
      rintro r w1 ⟨rfl, hw⟩; obtain rfl := hw.symm
      go_wp2
      go_ret
      exact ⟨rfl, (Below.refl _ _).alloc (Nat.le_refl _) _⟩
theorem enter_str : ∀ args w, (callFunc 45 args).run Tryd.prog w = .ok (.enter 45 args) w := enters_of Tryd.func45 (by kernel_rfl) rfl
/-- The first edge that is a stranger, or none. -/
def firstBad (n k : Int) (es : List Sy.Ed) : Int := if es.all (edgeOk n k) then -1 else ((es.findIdx fun e => !edgeOk n k e : Nat) : Int)
theorem findIdx_at {es : List Sy.Ed} {p : Sy.Ed → Bool} {i : Nat} {z : Sy.Ed} (hz : es[i]? = some z) (hp : p z = true) (hall : ∀ x ∈ es.take i, p x = false) : es.findIdx p = i := by
  obtain ⟨hl, rfl⟩ := List.getElem?_eq_some_iff.1 hz
  rw [List.findIdx_eq hl]
  refine ⟨hp, fun j hj => hall _ ?_⟩
  exact List.mem_take_iff_getElem.2 ⟨j, by omega, rfl⟩
set_option maxRecDepth 100000 in
set_option maxHeartbeats 4000000 in
theorem idxBad_any (n k s : Int) (ve v : Value) (b : Nat) (es : List Sy.Ed) (w : World) (hn : es.length ≤ 100000) (hv : BEdges.Has w v es) (hB : w.heap[b]? = some (.cells #[.int .i64 n, .int .i64 k, .int .i64 s, ve] 24 (0, 0))) :
    Calls Tryd.prog 44 #[v, .func (.func 45) #[] #[.pointer (some ⟨b, 0, none⟩)]] w fun r w' => r = .returned (.int .i64 (firstBad n k es)) ∧ Below w.heap.size w w' := by
  obtain ⟨ao, cap, rfl, _⟩ := _root_.id hv
  obtain ⟨m, hm⟩ : ∃ m, m = es.length := ⟨_, rfl⟩
  have HV : Hid _ := And.intro hv (And.intro hm hB)
  rw [← hm] at hn ⊢
  clear hv hm hB
  have he := enter_str
  go_enter Tryd.func44, Tryd.ntmps44
  go_wp2_with fail
  go_loopg [8] m (fun q iv wr => ∃ i : Nat, q = m - i ∧ i ≤ m ∧ iv = .int .i64 i ∧ Below w.heap.size w wr ∧ ∀ x ∈ es.take i, (!edgeOk n k x) = false)
  case atStart => exact ⟨0, rfl, Nat.zero_le _, rfl, Below.refl _ _, fun x hx => by simp at hx⟩
  case round =>
    obtain ⟨i, rfl, hi, rfl, hb, hall⟩ := hrel
    by_cases hlt : i < m
    · obtain ⟨z, hz⟩ : ∃ z, es[i]? = some z := ⟨es[i]'(by have := HV.out.2.1; omega), List.getElem?_eq_getElem _⟩
      obtain ⟨a, rfl, z0, z1, z2⟩ := edge_at (HV.out.1.below hb) hz
      have q0 : (0 : Int) ≤ (i : Int) := by omega
      have q1 : (i : Int) < (m : Int) := by omega
      have hC := stranger_any n k s ve b z wr ((hb.block b (t_lt HV.out.2.2)).trans HV.out.2.2)
      unfold edV at hC
      have HB : Hid _ := And.intro hb (And.intro hall hz)
      clear hb hall hz
      cases hq : (!edgeOk n k z) with
      | true =>
        rw [hq] at hC
        have HQ : Hid _ := hq
        clear hq
        go_wp2_with (go_at_fn 45; refine hC.mono ?_; rintro r w1 ⟨rfl, hb1⟩)
        go_ret
        refine ⟨?_, HB.out.1.trans (hb1.mono HB.out.1.size)⟩
        have hf := findIdx_at HB.out.2.2 HQ.out HB.out.2.1
        have hna : es.all (edgeOk n k) = false := by
          rw [List.all_eq_false]
          exact ⟨z, List.mem_of_getElem? HB.out.2.2, by have := HQ.out; simpa using this⟩
        unfold firstBad
        rw [hna, hf]
        rfl
      | false =>
        rw [hq] at hC
        have HQ : Hid _ := hq
        clear hq
        go_wp2_with (go_at_fn 45; refine hC.mono ?_; rintro r w1 ⟨rfl, hb1⟩)
        go_roundg (m - (i + 1))
        case measure => omega
        case rel =>
          refine ⟨i + 1, rfl, by omega, by go_num, HB.out.1.trans (hb1.mono HB.out.1.size), fun x hx => ?_⟩
          rw [take_succ_of HB.out.2.2] at hx
          rcases List.mem_append.1 hx with hx | hx
          · exact HB.out.2.1 x hx
          · rw [List.mem_singleton.1 hx]; exact HQ.out
    · have HB : Hid _ := And.intro hb hall
      clear hb hall
      have q1 : ¬ (i : Int) < (m : Int) := by omega
      go_wp2
      go_ret
      refine ⟨?_, HB.out.1⟩
      have hal : es.all (edgeOk n k) = true := by
        rw [List.all_eq_true]
        intro x hx
        have h1 := HB.out.2 x (by rw [List.take_of_length_le (by have := HV.out.2.1; omega)]; exact hx)
        simpa using h1
      unfold firstBad
      rw [hal]
      rfl
set_option maxRecDepth 100000 in
set_option maxHeartbeats 1000000 in
theorem hasBad_any (n k s : Int) (ve v : Value) (b : Nat) (es : List Sy.Ed) (w : World) (hn : es.length ≤ 100000) (hv : BEdges.Has w v es) (hB : w.heap[b]? = some (.cells #[.int .i64 n, .int .i64 k, .int .i64 s, ve] 24 (0, 0))) :
    Calls Tryd.prog 27 #[v, .func (.func 45) #[] #[.pointer (some ⟨b, 0, none⟩)]] w fun r w' => r = .returned (.bool (!es.all (edgeOk n k))) ∧ Below w.heap.size w w' := by
  have hC := idxBad_any n k s ve v b es w hn hv hB
  have hd : (!es.all (edgeOk n k)) = decide (0 ≤ firstBad n k es) := by
    unfold firstBad
    cases es.all (edgeOk n k) <;> simp
  rw [hd]
  generalize firstBad n k es = c at hC ⊢
  clear hd hB hv
  by_cases h : 0 ≤ c
  all_goals
    go_enter Tryd.func27, Tryd.ntmps27
    go_wp2_with (go_at_call 44; refine hC.mono ?_; rintro r w1 ⟨rfl, hb1⟩)
    go_ret
    exact ⟨by simp [h], hb1⟩
theorem mkStr_any (n k s : Int) (v : Value) (w : World) : Calls Tryd.prog 28 #[sysV n k s v] w fun r w' => r = .returned (.func (.func 45) #[] #[.pointer (some ⟨w.heap.size, 0, none⟩)]) ∧ w' = w.alloc (.cells #[.int .i64 n, .int .i64 k, .int .i64 s, v] 24) := by
  unfold sysV
  go_enter Tryd.func28, Tryd.ntmps28
  go_wp2
  go_ret
  exact ⟨rfl, rfl⟩
/-- The program's error of a system: nil, or a fault of system that wraps ErrSystem. -/
def SErr (a : Addr) (w : World) (ok : Bool) (x : Value) : Prop := if ok = true then x = .nilIface else Chain w 0 0 a [sysB] x
theorem SErr.below {a : Addr} {w w' : World} {ok : Bool} {x : Value} (h : SErr a w ok x) (hb : Below w.heap.size w w') : SErr a w' ok x := by
  unfold SErr at h ⊢
  split
  · next h1 => rw [if_pos h1] at h; exact h
  · next h1 => rw [if_neg h1] at h; exact h.below hb
/-- What Check looks at ahead of the edges. -/
def chkA (n k s : Int) (m : Nat) : Bool := decide (0 ≤ n ∧ n ≤ 1000) && decide (1 ≤ k ∧ k ≤ 201) && decide (0 ≤ s ∧ s < max n 1) && decide (m ≤ 10000)
theorem right_eq (n k s : Int) (es : List Sy.Ed) : Sy.right n k s es = (chkA n k s es.length && es.all (edgeOk n k)) := by
  unfold Sy.right chkA edgeOk
  rw [Bool.eq_iff_iff]
  simp only [Bool.and_eq_true, decide_eq_true_eq]
  constructor
  · rintro ⟨⟨h1, h2⟩, h3⟩
    refine ⟨⟨⟨⟨⟨h1.1, h1.2.1⟩, h1.2.2.1, h1.2.2.2.1⟩, ?_⟩, h1.2.2.2.2⟩, h3⟩
    rcases Int.lt_or_eq_of_le h1.1 with h | h
    · have := h2.2 h; omega
    · have := h2.1 h.symm; omega
  · rintro ⟨⟨⟨⟨h1, h2⟩, h3⟩, h4⟩, h5⟩
    exact ⟨⟨⟨h1.1, h1.2, h2.1, h2.2, h4⟩, ⟨fun e => by omega, fun e => by omega⟩⟩, h5⟩
set_option maxRecDepth 100000 in
set_option maxHeartbeats 4000000 in
theorem check_early (n k s : Int) (ao : Option Addr) (m cap : Nat) (a : Addr) (w : World) (hS : Sent w 0 a) (h : chkA n k s m = false) :
    Calls Tryd.prog 12 #[sysV n k s (.slice ao m cap)] w fun r w' => ∃ x, r = .returned x ∧ Chain w' 0 0 a [sysB] x ∧ Below w.heap.size w w' := by
  unfold sysV
  have hg : (w.alloc (.cells #[.int .i64 n, .int .i64 k, .int .i64 s, .slice ao m cap] 24)).cell? ⟨0, 0, none⟩ = some (.iface 139 (.pointer (some a))) := (((Below.refl _ w).alloc (Nat.le_refl _) _).cell (World.block_lt_of_cell? w _ hS.1)).trans hS.1
  have hF := sysFault_any a (w.alloc (.cells #[.int .i64 n, .int .i64 k, .int .i64 s, .slice ao m cap] 24))
  have hb0 : Hid (Below w.heap.size w (w.alloc (.cells #[.int .i64 n, .int .i64 k, .int .i64 s, .slice ao m cap] 24))) := (Below.refl _ w).alloc (Nat.le_refl _) _
  have hc : ¬ 0 ≤ n ∨ 0 ≤ n ∧ ¬ n ≤ 1000 ∨ (0 ≤ n ∧ n ≤ 1000) ∧ (¬ 1 ≤ k ∨ 1 ≤ k ∧ ¬ k ≤ 201 ∨ (1 ≤ k ∧ k ≤ 201) ∧ (s < 0 ∨ 0 ≤ s ∧ (n < 1 ∧ 1 ≤ s) ∨ 0 ≤ s ∧ (¬ n < 1 ∧ n ≤ s) ∨ 0 ≤ s ∧ (n < 1 ∧ ¬ 1 ≤ s) ∧ (10000 : Int) < (m : Int) ∨ 0 ≤ s ∧ (¬ n < 1 ∧ ¬ n ≤ s) ∧ (10000 : Int) < (m : Int))) := by
    unfold chkA at h
    simp only [Bool.and_eq_false_iff, decide_eq_false_iff_not] at h
    omega
  clear h hS
  rcases hc with h | ⟨h1, h2⟩ | ⟨⟨h1, h2⟩, h | ⟨h3, h4⟩ | ⟨⟨h3, h4⟩, h | ⟨h5, h6, h7⟩ | ⟨h5, h6, h7⟩ | ⟨h5, ⟨h6, h7⟩, h8⟩ | ⟨h5, ⟨h6, h7⟩, h8⟩⟩⟩
  all_goals
    go_enter Tryd.func12, Tryd.ntmps12
    go_wp2_with (go_at_call 29; refine hF.mono ?_; rintro r w1 ⟨x, rfl, hC, hb1⟩; have HC : Hid _ := And.intro hC hb1; clear hC hb1)
    go_ret
    exact ⟨x, rfl, HC.out.1, hb0.out.trans (HC.out.2.mono hb0.out.size)⟩
set_option maxRecDepth 100000 in
set_option maxHeartbeats 4000000 in
theorem check_late (n k s : Int) (v : Value) (es : List Sy.Ed) (a : Addr) (w : World) (hS : Sent w 0 a) (hv : BEdges.Has w v es) (h : chkA n k s es.length = true) :
    Calls Tryd.prog 12 #[sysV n k s v] w fun r w' => ∃ x, r = .returned x ∧ SErr a w' (es.all (edgeOk n k)) x ∧ Below w.heap.size w w' := by
  obtain ⟨w0, hw0⟩ : ∃ w0, w0 = w.alloc (.cells #[.int .i64 n, .int .i64 k, .int .i64 s, v] 24) := ⟨_, rfl⟩
  have hb0 : Below w.heap.size w w0 := by rw [hw0]; exact (Below.refl _ _).alloc (Nat.le_refl _) _
  have hg0 : w0.heap[w.heap.size]? = some (.cells #[.int .i64 n, .int .i64 k, .int .i64 s, v] 24 (0, 0)) := by rw [hw0]; exact heap_alloc_new w _
  obtain ⟨ao, cap, rfl, _⟩ := _root_.id hv
  obtain ⟨m, hm⟩ : ∃ m, m = es.length := ⟨_, rfl⟩
  rw [← hm] at h hg0 hw0 hv ⊢
  have hc : (0 ≤ n ∧ n ≤ 1000) ∧ (1 ≤ k ∧ k ≤ 201) ∧ (0 ≤ s ∧ (n < 1 ∧ ¬ 1 ≤ s ∨ ¬ n < 1 ∧ ¬ n ≤ s)) ∧ m ≤ 10000 := by
    unfold chkA at h
    simp only [Bool.and_eq_true, decide_eq_true_eq] at h
    omega
  obtain ⟨⟨h1, h2⟩, ⟨h3, h4⟩, ⟨h5, h6⟩, h7⟩ := hc
  have h8 : ¬ (10000 : Int) < (m : Int) := by omega
  obtain ⟨x0, x1, x2, x3⟩ := four_cells hg0
  have hM : ∀ W, Below w0.heap.size w0 W → Calls Tryd.prog 28 #[sysV n k s (.slice ao m cap)] W fun r w' => ∃ b, r = .returned (.func (.func 45) #[] #[.pointer (some ⟨b, 0, none⟩)]) ∧ w'.heap[b]? = some (.cells #[.int .i64 n, .int .i64 k, .int .i64 s, .slice ao m cap] 24 (0, 0)) ∧ Below W.heap.size W w' := fun W _ => (mkStr_any n k s _ W).mono fun r w' ⟨hr, hw⟩ => ⟨_, hr, by rw [hw]; exact heap_alloc_new W _, by rw [hw]; exact (Below.refl _ _).alloc (Nat.le_refl _) _⟩
  have hC : ∀ W b, Below w0.heap.size w0 W → W.heap[b]? = some (.cells #[.int .i64 n, .int .i64 k, .int .i64 s, .slice ao m cap] 24 (0, 0)) → Calls Tryd.prog 27 #[.slice ao m cap, .func (.func 45) #[] #[.pointer (some ⟨b, 0, none⟩)]] W fun r w' => r = .returned (.bool (!es.all (edgeOk n k))) ∧ Below W.heap.size W w' := fun W b hb hB => hasBad_any n k s _ _ b es W (by omega) ((hv.below hb0).below hb) hB
  have HC : Hid _ := And.intro hM hC
  have HB : Hid _ := And.intro hb0 hS
  have HW : Hid (w0 = w.alloc (.cells #[.int .i64 n, .int .i64 k, .int .i64 s, .slice ao m cap] 24)) := hw0
  clear hw0
  unfold sysV at HC ⊢
  generalize hq : es.all (edgeOk n k) = q at HC ⊢
  clear hM hC hv hb0 hg0 hm h hS hq
  rcases h6 with ⟨h6, h9⟩ | ⟨h6, h9⟩
  all_goals
    cases q with
    | true =>
      go_enter Tryd.func12, Tryd.ntmps12
      go_upto_region 5 with fail
      rw [← HW.out]
      go_region_held3 (fun w' => (w'.cell? ⟨w.heap.size, 0, none⟩ = some (.int .i64 n) ∧ w'.cell? ⟨w.heap.size, 1, none⟩ = some (.int .i64 k) ∧ w'.cell? ⟨w.heap.size, 2, none⟩ = some (.int .i64 s) ∧ w'.cell? ⟨w.heap.size, 3, none⟩ = some (.slice ao m cap)) ∧ Hid (Below w0.heap.size w0 w')) (first | exact rg_up4 hb3 (by assumption) | exact ⟨⟨x0, x1, x2, x3⟩, ((Below.refl _ _).drew : Below w0.heap.size w0 w0.drew)⟩ | go_keep)
        ((first
          | (go_at_call 28; refine (HC.out.1 _ (rg_b (by assumption))).mono ?_; rintro r w3 ⟨b3, rfl, hB3, hb3⟩)
          | (go_at_call 27; refine (HC.out.2 _ _ (rg_b (by assumption)) hB3).mono ?_; rintro r w3 ⟨rfl, hb3⟩)
          | fail))
      all_goals
        have HF : Hid (Below w0.heap.size w0 w3) := (rg_b (by assumption) : Below w0.heap.size w0 w3)
        clear hb3
        go_wp2_with fail
        go_ret
        exact ⟨_, rfl, by simp [SErr], HB.out.1.trans (HF.out.mono HB.out.1.size)⟩
    | false =>
      go_enter Tryd.func12, Tryd.ntmps12
      go_upto_region 5 with fail
      rw [← HW.out]
      go_region_held3 (fun w' => (w'.cell? ⟨w.heap.size, 0, none⟩ = some (.int .i64 n) ∧ w'.cell? ⟨w.heap.size, 1, none⟩ = some (.int .i64 k) ∧ w'.cell? ⟨w.heap.size, 2, none⟩ = some (.int .i64 s) ∧ w'.cell? ⟨w.heap.size, 3, none⟩ = some (.slice ao m cap)) ∧ Hid (Below w0.heap.size w0 w')) (first | exact rg_up4 hb3 (by assumption) | exact ⟨⟨x0, x1, x2, x3⟩, ((Below.refl _ _).drew : Below w0.heap.size w0 w0.drew)⟩ | go_keep)
        ((first
          | (go_at_call 28; refine (HC.out.1 _ (rg_b (by assumption))).mono ?_; rintro r w3 ⟨b3, rfl, hB3, hb3⟩)
          | (go_at_call 27; refine (HC.out.2 _ _ (rg_b (by assumption)) hB3).mono ?_; rintro r w3 ⟨rfl, hb3⟩)
          | fail))
      all_goals
        have hbw : Below w0.heap.size w0 w3 := rg_b (by assumption)
        have hS3 := (HB.out.2.below HB.out.1).below hbw
        have hg := hS3.1
        have HF : Hid (Below w0.heap.size w0 w3) := hbw
        have hFl := sysFault_any a w3
        clear hb3 hbw hS3
        go_wp2_with (go_at_call 29; refine hFl.mono ?_; rintro r w4 ⟨x, rfl, hC4, hb4⟩; have HC4 : Hid _ := And.intro hC4 hb4; clear hC4 hb4)
        go_ret
        exact ⟨x, rfl, by simpa [SErr] using HC4.out.1, (HB.out.1.trans (HF.out.mono HB.out.1.size)).trans (HC4.out.2.mono (by have := HB.out.1.size; have := HF.out.size; omega))⟩
theorem check_any (n k s : Int) (v : Value) (es : List Sy.Ed) (a : Addr) (w : World) (hS : Sent w 0 a) (hv : BEdges.Has w v es) :
    Calls Tryd.prog 12 #[sysV n k s v] w fun r w' => ∃ x, r = .returned x ∧ SErr a w' (Sy.right n k s es) x ∧ Below w.heap.size w w' := by
  rw [right_eq]
  cases h : chkA n k s es.length with
  | true =>
    rw [Bool.true_and]
    exact check_late n k s v es a w hS hv h
  | false =>
    obtain ⟨ao, cap, rfl, _⟩ := _root_.id hv
    refine (check_early n k s ao es.length cap a w hS h).mono fun r w' ⟨x, hr, hC, hb⟩ => ⟨x, hr, by simpa [SErr] using hC, hb⟩
end Go.Proofs.YtladdlkfnfdhaaaDoor
/- Contracts of cmp's Compare and Or at ints, of the program's views and their comparison. -/
namespace Go.Proofs.YtladdlkfnfdhaaaDoor
open Go.RowKit Go.Maps
attribute [local go_sem ↓] Go.wp_at_zero Go.wp_at_succ
def cmpI (a b : Int) : Int := if a < b then -1 else if b < a then 1 else 0
theorem isNaN_any (a : Int) (w : World) : Calls Tryd.prog 61 #[.int .i64 a] w fun r w' => r = .returned (.bool false) ∧ w' = w := by
  have e : (a != a) = false := by simp
  go_enter Tryd.func61, Tryd.ntmps61
  go_wp2
  go_ret
  exact ⟨by simp, rfl⟩
set_option maxRecDepth 100000 in
theorem cmpI_any (a b : Int) (w : World) : Calls Tryd.prog 43 #[.int .i64 a, .int .i64 b] w fun r w' => r = .returned (.int .i64 (cmpI a b)) ∧ w' = w := by
  have hN := fun (x : Int) (W : World) => isNaN_any x W
  have HN : Hid _ := hN
  clear hN
  by_cases h1 : a < b
  · go_enter Tryd.func43, Tryd.ntmps43
    go_wp2_with (go_at_call 61; refine (HN.out _ _).mono ?_; rintro r w' ⟨rfl, hw⟩; obtain rfl := hw.symm)
    go_ret
    exact ⟨by simp [cmpI, h1], rfl⟩
  · by_cases h2 : b < a
    · go_enter Tryd.func43, Tryd.ntmps43
      go_wp2_with (go_at_call 61; refine (HN.out _ _).mono ?_; rintro r w' ⟨rfl, hw⟩; obtain rfl := hw.symm)
      go_ret
      exact ⟨by simp [cmpI, h1, h2], rfl⟩
    · go_enter Tryd.func43, Tryd.ntmps43
      go_wp2_with (go_at_call 61; refine (HN.out _ _).mono ?_; rintro r w' ⟨rfl, hw⟩; obtain rfl := hw.symm)
      go_ret
      exact ⟨by simp [cmpI]; split <;> (try split) <;> omega, rfl⟩
def orI (a b c : Int) : Int := if a = 0 then if b = 0 then c else b else a
set_option maxRecDepth 100000 in
set_option maxHeartbeats 1000000 in
theorem orI_any (g : Nat) (a b c : Int) (w : World) (hg : w.heap[g]? = some (.cells #[.int .i64 a, .int .i64 b, .int .i64 c] 3 (0, 0))) : Calls Tryd.prog 60 #[.slice (some ⟨g, 0, none⟩) 3 3] w fun r w' => r = .returned (.int .i64 (orI a b c)) ∧ w' = w := by
  have c0 : w.cell? ⟨g, 0, none⟩ = some (.int .i64 a) := cell0_of hg rfl
  have c1 : w.cell? ⟨g, 1, none⟩ = some (.int .i64 b) := cell0_of hg rfl
  have c2 : w.cell? ⟨g, 2, none⟩ = some (.int .i64 c) := cell0_of hg rfl
  have cs : ∀ (i : Nat) (z : Int), [a, b, c][i]? = some z → w.cell? ⟨g, i, none⟩ = some (.int .i64 z) := fun i z h => by
    match i, h with
    | 0, h => simp at h; rw [← h]; exact c0
    | 1, h => simp at h; rw [← h]; exact c1
    | 2, h => simp at h; rw [← h]; exact c2
    | i + 3, h => simp at h
  have HC : Hid _ := cs
  clear cs hg c0 c1 c2
  go_enter Tryd.func60, Tryd.ntmps60
  go_wp2_with fail
  go_loopg [8] 3 (fun q iv wr => ∃ i : Nat, q = 3 - i ∧ i ≤ 3 ∧ iv = .int .i64 i ∧ wr = w ∧ ∀ x ∈ [a, b, c].take i, x = 0)
  case atStart => exact ⟨0, rfl, by omega, rfl, rfl, fun x hx => by simp at hx⟩
  case round =>
    obtain ⟨i, rfl, hi, rfl, rfl, hz⟩ := hrel
    by_cases hlt : i < 3
    · obtain ⟨z, hz1⟩ : ∃ z, [a, b, c][i]? = some z := ⟨[a, b, c][i]'(by simp; omega), List.getElem?_eq_getElem _⟩
      have cz := HC.out i z hz1
      have q0 : (0 : Int) ≤ (i : Int) := by omega
      have q1 : (i : Int) < 3 := by omega
      have HZ : Hid _ := And.intro hz hz1
      clear hz hz1
      by_cases h0 : z = 0
      · have e0 : (z != 0) = false := by simp [h0]
        have HE : Hid _ := h0
        clear h0
        go_wp2
        go_roundg (3 - (i + 1))
        case measure => omega
        case rel =>
          refine ⟨i + 1, rfl, by omega, by go_num, rfl, fun x hx => ?_⟩
          rw [take_succ_of HZ.out.2] at hx
          rcases List.mem_append.1 hx with hx | hx
          · exact HZ.out.1 x hx
          · rw [List.mem_singleton.1 hx]; exact HE.out
      · have e0 : (z != 0) = true := by simp [h0]
        have HE : Hid _ := h0
        clear h0
        go_wp2
        go_ret
        refine ⟨?_, rfl⟩
        have h1 := HZ.out.2
        have h2 := HZ.out.1
        have h3 := HE.out
        show Ending.returned (Value.int .i64 z) = _
        congr 2
        match i, h1, h2 with
        | 0, h1, h2 => simp at h1; subst h1; unfold orI; rw [if_neg h3]
        | 1, h1, h2 => simp at h1 h2; subst h1; unfold orI; rw [if_pos h2, if_neg h3]
        | 2, h1, h2 => simp at h1 h2; subst h1; unfold orI; rw [if_pos h2.1, if_pos h2.2]
        | i + 3, h1, h2 => simp at h1
    · obtain rfl : i = 3 := by omega
      have HZ : Hid _ := hz
      clear hz
      go_wp2
      go_ret
      refine ⟨?_, rfl⟩
      have h2 := HZ.out
      simp at h2
      simp [orI, h2]
def cmpE (a b : Sy.Ed) : Int := orI (cmpI a.1 b.1) (cmpI a.2.1 b.2.1) (cmpI a.2.2 b.2.2)
theorem cmpE_lt (a b : Sy.Ed) : decide (cmpE a b < 0) = Sy.lt a b := by
  rw [Bool.eq_iff_iff, Sy.lt_iff, decide_eq_true_eq]
  unfold cmpE orI cmpI
  (repeat' split) <;> omega
/-- A view: which row an edge stands in, and as which step. -/
def ViewAt (f : Nat) (vw : Sy.Ed → Sy.Ed) : Prop := (∀ args w, (callFunc f args).run Tryd.prog w = .ok (.enter f args) w) ∧ ∀ (x : Sy.Ed) (w : World), Calls Tryd.prog f #[edV x] w fun r w' => r = .returned (.tuple #[.int .i64 (vw x).1, .agg #[.int .i64 (vw x).2.1, .int .i64 (vw x).2.2]]) ∧ Below w.heap.size w w'
set_option maxRecDepth 100000 in
set_option maxHeartbeats 1000000 in
theorem forward_at : ViewAt 21 fun x => x := ⟨enters_of Tryd.func21 (by kernel_rfl) rfl, fun x w => by
  obtain ⟨x0, x1, x2⟩ := x
  unfold edV
  go_enter Tryd.func21, Tryd.ntmps21
  go_wp2_with fail
  go_region
  all_goals
    go_wp2_with fail
    refine bodyPost_ret (v := .tuple #[.int .i64 x0, .agg #[.int .i64 x1, .int .i64 x2]]) (by simp [results, Tryd.results21, go_sem]) rfl ⟨rfl, ?_⟩
    first | exact (by repeat (first | exact Below.refl _ _ | assumption | refine Below.drew ?_ | refine Below.setCell ?_ (by simp) _ | refine Below.alloc ?_ (by simp) _)) | exact (by repeat (first | exact Below.refl _ _ | assumption | refine Below.setCell ?_ (by simp) _ | refine Below.alloc ?_ (by simp) _ | refine Below.drew ?_))⟩
set_option maxRecDepth 100000 in
set_option maxHeartbeats 1000000 in
theorem backward_at : ViewAt 23 Sy.turn := ⟨enters_of Tryd.func23 (by kernel_rfl) rfl, fun x w => by
  obtain ⟨x0, x1, x2⟩ := x
  unfold edV
  go_enter Tryd.func23, Tryd.ntmps23
  go_wp2_with fail
  go_region
  all_goals
    go_wp2_with fail
    refine bodyPost_ret (v := .tuple #[.int .i64 x2, .agg #[.int .i64 x1, .int .i64 x0]]) (by simp [results, Tryd.results23, go_sem]) rfl ⟨rfl, ?_⟩
    first | exact (by repeat (first | exact Below.refl _ _ | assumption | refine Below.drew ?_ | refine Below.setCell ?_ (by simp) _ | refine Below.alloc ?_ (by simp) _)) | exact (by repeat (first | exact Below.refl _ _ | assumption | refine Below.setCell ?_ (by simp) _ | refine Below.alloc ?_ (by simp) _ | refine Below.drew ?_))⟩
theorem enter_cmp : ∀ args w, (callFunc 39 args).run Tryd.prog w = .ok (.enter 39 args) w := enters_of Tryd.func39 (by kernel_rfl) rfl
set_option maxRecDepth 100000 in
set_option maxHeartbeats 4000000 in
theorem compare_any (f : Nat) (vw : Sy.Ed → Sy.Ed) (hV : ViewAt f vw) (a b : Sy.Ed) (w : World) :
    Calls Tryd.prog 39 #[.func (.func f) #[] #[], edV a, edV b] w fun r w' => r = .returned (.int .i64 (cmpE (vw a) (vw b))) ∧ Below w.heap.size w w' := by
  obtain ⟨he, hv⟩ := hV
  obtain ⟨a0, a1, a2⟩ := a
  obtain ⟨b0, b1, b2⟩ := b
  obtain ⟨w0, hw0⟩ : ∃ w0, w0 = (w.alloc (.cells #[.int .i64 a0, .int .i64 a1, .int .i64 a2] 46)).alloc (.cells #[.int .i64 b0, .int .i64 b1, .int .i64 b2] 46) := ⟨_, rfl⟩
  have hb0 : Below w.heap.size w w0 := by rw [hw0]; exact ((Below.refl _ _).alloc (Nat.le_refl _) _).alloc (by simp) _
  have hgb : w0.heap[w.heap.size + 1]? = some (.cells #[.int .i64 b0, .int .i64 b1, .int .i64 b2] 46 (0, 0)) := by rw [hw0]; exact two_alloc w _ _
  have hA := hv (a0, a1, a2)
  have hB := hv (b0, b1, b2)
  unfold cmpE
  generalize vw (a0, a1, a2) = p at hA ⊢
  generalize vw (b0, b1, b2) = q at hB ⊢
  obtain ⟨p0, p1, p2⟩ := p
  obtain ⟨q0, q1, q2⟩ := q
  unfold edV at hA hB ⊢
  have HA : Hid _ := And.intro hA hB
  have H0 : Hid _ := And.intro hb0 (And.intro hgb hw0)
  clear hA hB hb0 hgb hw0 hv
  simp only at HA ⊢
  go_enter Tryd.func39, Tryd.ntmps39
  go_wp2_with fail
  rw [← H0.out.2.2]
  refine Calls.mono (HA.out.1 _) ?_
  rintro r w1 ⟨rfl, hb1⟩
  have hgb1 := (hb1.block _ (t_lt H0.out.2.1)).trans H0.out.2.1
  obtain ⟨w2, hw2⟩ : ∃ w2, w2 = (w1.alloc (.cells #[.int .i64 p1, .int .i64 p2] 42)) := ⟨_, rfl⟩
  have hb2 : Below w1.heap.size w1 w2 := by rw [hw2]; exact (Below.refl _ _).alloc (Nat.le_refl _) _
  have hg2 : w2.heap[w1.heap.size]? = some (.cells #[.int .i64 p1, .int .i64 p2] 42 (0, 0)) := by rw [hw2]; exact heap_alloc_new w1 _
  have hgb2 := (hb2.block _ (t_lt hgb1)).trans hgb1
  have c0 : (w1.alloc (.cells #[.int .i64 p1, .int .i64 p2] 42)).cell? ⟨w.heap.size + 1, 0, none⟩ = some (.int .i64 b0) := by rw [← hw2]; exact cell0_of hgb2 rfl
  have c1 : (w1.alloc (.cells #[.int .i64 p1, .int .i64 p2] 42)).cell? ⟨w.heap.size + 1, 1, none⟩ = some (.int .i64 b1) := by rw [← hw2]; exact cell0_of hgb2 rfl
  have c2 : (w1.alloc (.cells #[.int .i64 p1, .int .i64 p2] 42)).cell? ⟨w.heap.size + 1, 2, none⟩ = some (.int .i64 b2) := by rw [← hw2]; exact cell0_of hgb2 rfl
  have hbw : Below w.heap.size w w2 := (H0.out.1.trans (hb1.mono H0.out.1.size)).trans (hb2.mono (by have := H0.out.1.size; have := hb1.size; omega))
  have H1 : Hid _ := And.intro hbw (And.intro hg2 hw2)
  clear hb1 hgb1 hb2 hg2 hgb2 hw2 H0 hbw
  go_wp2_with fail
  rw [← H1.out.2.2]
  refine Calls.mono (HA.out.2 _) ?_
  rintro r w3 ⟨rfl, hb3⟩
  have hg3 := (hb3.block _ (t_lt H1.out.2.1)).trans H1.out.2.1
  obtain ⟨w4, hw4⟩ : ∃ w4, w4 = (w3.alloc (.cells #[.int .i64 q1, .int .i64 q2] 42)) := ⟨_, rfl⟩
  have hb4 : Below w3.heap.size w3 w4 := by rw [hw4]; exact (Below.refl _ _).alloc (Nat.le_refl _) _
  have hg4 : w4.heap[w3.heap.size]? = some (.cells #[.int .i64 q1, .int .i64 q2] 42 (0, 0)) := by rw [hw4]; exact heap_alloc_new w3 _
  have hp4 := (hb4.block _ (t_lt hg3)).trans hg3
  have x0 : w4.cell? ⟨w1.heap.size, 0, none⟩ = some (.int .i64 p1) := cell0_of hp4 rfl
  have x1 : w4.cell? ⟨w1.heap.size, 1, none⟩ = some (.int .i64 p2) := cell0_of hp4 rfl
  have x2 : w4.cell? ⟨w3.heap.size, 0, none⟩ = some (.int .i64 q1) := cell0_of hg4 rfl
  have x3 : w4.cell? ⟨w3.heap.size, 1, none⟩ = some (.int .i64 q2) := cell0_of hg4 rfl
  have hbw : Below w.heap.size w w4 := (H1.out.1.trans (hb3.mono H1.out.1.size)).trans (hb4.mono (by have := H1.out.1.size; have := hb3.size; omega))
  have H2 : Hid _ := And.intro hbw hw4
  have hC : ∀ (x y : Int) (W : World), Calls Tryd.prog 43 #[.int .i64 x, .int .i64 y] W fun r w' => r = .returned (.int .i64 (cmpI x y)) ∧ Below W.heap.size W w' := fun x y W => (cmpI_any x y W).mono fun r w' ⟨hr, hw⟩ => ⟨hr, by rw [hw]; exact Below.refl _ _⟩
  have hO : ∀ (x y z : Int) (W : World), Calls Tryd.prog 60 #[.slice (some ⟨W.heap.size, 0, none⟩) 3 3] (W.alloc (.cells #[.int .i64 x, .int .i64 y, .int .i64 z] 3)) fun r w' => r = .returned (.int .i64 (orI x y z)) ∧ Below (W.alloc (.cells #[.int .i64 x, .int .i64 y, .int .i64 z] 3)).heap.size (W.alloc (.cells #[.int .i64 x, .int .i64 y, .int .i64 z] 3)) w' := fun x y z W => (orI_any _ x y z _ (heap_alloc_new W _)).mono fun r w' ⟨hr, hw⟩ => ⟨hr, by rw [hw]; exact Below.refl _ _⟩
  have HC : Hid _ := And.intro hC hO
  clear hb3 hg3 hb4 hg4 hp4 hw4 hbw H1 HA c0 c1 c2 hC hO
  go_upto_region 3 with fail
  rw [← H2.out.2]
  have HB : Hid _ := H2.out.1
  clear H2
  go_region_held3 (fun w' => (w'.cell? ⟨w1.heap.size, 0, none⟩ = some (.int .i64 p1) ∧ w'.cell? ⟨w1.heap.size, 1, none⟩ = some (.int .i64 p2) ∧ w'.cell? ⟨w3.heap.size, 0, none⟩ = some (.int .i64 q1) ∧ w'.cell? ⟨w3.heap.size, 1, none⟩ = some (.int .i64 q2)) ∧ Hid (Below w4.heap.size w4 w')) (first | exact rg_up4 hb5 (by assumption) | exact rg_up4 ((Below.refl _ _).alloc (Nat.le_refl _) _) (by assumption) | exact ⟨⟨x0, x1, x2, x3⟩, ((Below.refl _ _).drew : Below w4.heap.size w4 w4.drew)⟩ | go_keep)
    ((first
      | (go_at_call 43; refine (HC.out.1 _ _ _).mono ?_; rintro r w5 ⟨rfl, hb5⟩)
      | (go_at_call 60; refine (HC.out.2 _ _ _ _).mono ?_; rintro r w5 ⟨rfl, hb5⟩)
      | fail))
  all_goals
    have HF : Hid (Below w4.heap.size w4 w5) := (rg_b (by assumption) : Below w4.heap.size w4 w5)
    clear hb5
    go_wp2_with fail
    go_ret
    exact ⟨rfl, HB.out.trans (HF.out.mono HB.out.size)⟩
end Go.Proofs.YtladdlkfnfdhaaaDoor
/- Rows of edges in memory that are being sorted: their cells, and an exchange of two. -/
namespace Go.Proofs.YtladdlkfnfdhaaaDoor
open Go.RowKit Go.Maps
/-- A row of one's own that holds these edges, and what lies behind them. -/
def RowE (w wr : World) (g : Nat) (d : Array Sy.Ed) (rest : List Value) : Prop := Arr 46 w wr g (BEdges.C d.toList ++ rest)
theorem RowE.below {w wr w' : World} {g : Nat} {d : Array Sy.Ed} {rest : List Value} (h : RowE w wr g d rest) (hb : Below wr.heap.size wr w') : RowE w w' g d rest := Arr.below h hb
theorem getb {d : Array Sy.Ed} {j : Nat} (hj : j < d.size) : d.toList[j]? = some d[j]! := by
  rw [Array.getElem?_toList, Array.getElem?_eq_getElem hj, getElem!_pos d j hj]
theorem RowE.at {w wr : World} {g : Nat} {d : Array Sy.Ed} {rest : List Value} (h : RowE w wr g d rest) {j : Nat} {z : Sy.Ed} (hj : d.toList[j]? = some z) : wr.cell? ⟨g, j * 3, none⟩ = some (.int .i64 z.1) ∧ wr.cell? ⟨g, j * 3 + 1, none⟩ = some (.int .i64 z.2.1) ∧ wr.cell? ⟨g, j * 3 + 2, none⟩ = some (.int .i64 z.2.2) := by
  have hl : j < d.toList.length := (List.getElem?_eq_some_iff.1 hj).1
  have hc := BEdges.C_len d.toList
  have h0 := BEdges.C_at d.toList j z hj 0 (by decide)
  have h1 := BEdges.C_at d.toList j z hj 1 (by decide)
  have h2 := BEdges.C_at d.toList j z hj 2 (by decide)
  refine ⟨Arr.cell h ?_, Arr.cell h ?_, Arr.cell h ?_⟩
  · rw [List.getElem?_append_left (by omega)]; exact h0
  · rw [List.getElem?_append_left (by omega)]; exact h1
  · rw [List.getElem?_append_left (by omega)]; exact h2
theorem RowE.cells {w wr : World} {g : Nat} {d : Array Sy.Ed} {rest : List Value} (h : RowE w wr g d rest) {j : Nat} (hj : j < d.size) : wr.cell? ⟨g, j * 3, none⟩ = some (.int .i64 (d[j]!).1) ∧ wr.cell? ⟨g, j * 3 + 1, none⟩ = some (.int .i64 (d[j]!).2.1) ∧ wr.cell? ⟨g, j * 3 + 2, none⟩ = some (.int .i64 (d[j]!).2.2) := h.at (getb hj)
theorem RowE.free {w wr : World} {g : Nat} {d : Array Sy.Ed} {rest : List Value} (h : RowE w wr g d rest) (k : Nat) : wr.frozen? ⟨g, k, none⟩ = false := Arr.free h k
/-- An edge is stored. -/
def st3 (w : World) (g k : Nat) (x : Sy.Ed) : World := ((w.setCell ⟨g, k * 3, none⟩ (.int .i64 x.1)).setCell ⟨g, k * 3 + 1, none⟩ (.int .i64 x.2.1)).setCell ⟨g, k * 3 + 2, none⟩ (.int .i64 x.2.2)
theorem RowE.store {w wr : World} {g : Nat} {d : Array Sy.Ed} {rest : List Value} (h : RowE w wr g d rest) {k : Nat} (hk : k < d.size) (x : Sy.Ed) : RowE w (st3 wr g k x) g (d.setIfInBounds k x) rest := by
  have h1 := ((Arr.set h (k * 3) (.int .i64 x.1)).set (k * 3 + 1) (.int .i64 x.2.1)).set (k * 3 + 2) (.int .i64 x.2.2)
  have hk' : k < d.toList.length := by simpa using hk
  have hc := BEdges.C_len d.toList
  rw [List.set_append_left _ _ (by omega), List.set_append_left _ _ (by rw [List.length_set]; omega), List.set_append_left _ _ (by rw [List.length_set, List.length_set]; omega), ← BEdges.C_set d.toList hk' x] at h1
  unfold RowE st3
  rw [Array.toList_setIfInBounds]
  exact h1
theorem swp_back (d : Array Sy.Ed) (i j : Nat) (hi : i < d.size) (hj : j < d.size) : (d.setIfInBounds j d[i]!).setIfInBounds i d[j]! = Sort.swp d i j := by
  unfold Sort.swp
  by_cases e : i = j
  · subst e; rfl
  · apply Array.ext_getElem?
    intro k
    simp only [Array.getElem?_setIfInBounds, Array.size_setIfInBounds]
    by_cases h1 : i = k
    · subst h1
      have e2 : ¬ j = i := fun h => e h.symm
      simp [e2, hi]
    · by_cases h2 : j = k
      · subst h2; simp [e, hj]
      · simp [h1, h2]
/-- Two edges are exchanged, in either order of the stores. -/
theorem RowE.swap {w wr : World} {g : Nat} {d : Array Sy.Ed} {rest : List Value} (h : RowE w wr g d rest) {i j : Nat} (hi : i < d.size) (hj : j < d.size) : RowE w (st3 (st3 wr g i d[j]!) g j d[i]!) g (Sort.swp d i j) rest :=
  (h.store hi d[j]!).store (by simpa using hj) d[i]!
theorem RowE.swap' {w wr : World} {g : Nat} {d : Array Sy.Ed} {rest : List Value} (h : RowE w wr g d rest) {i j : Nat} (hi : i < d.size) (hj : j < d.size) : RowE w (st3 (st3 wr g j d[i]!) g i d[j]!) g (Sort.swp d i j) rest := by
  rw [← swp_back d i j hi hj]
  exact (h.store hj d[i]!).store (by simpa using hi) d[j]!
/-- The comparison of a view, as a value. -/
def cmpV (f : Nat) : Value := .func (.func 39) #[.func (.func f) #[] #[]] #[]
/-- What it says. -/
def ltV (vw : Sy.Ed → Sy.Ed) (x y : Sy.Ed) : Bool := Sy.lt (vw x) (vw y)
theorem swoV (vw : Sy.Ed → Sy.Ed) : Sort.SWO (ltV vw) where
  irrefl x := Sy.lt_irrefl _
  trans x y z h1 h2 := Sy.lt_trans h1 h2
  ntrans x y z h1 h2 := by
    unfold ltV at *
    cases h : Sy.lt (vw x) (vw z) with
    | false => rfl
    | true =>
      cases h3 : Sy.lt (vw y) (vw x) with
      | true => have := Sy.lt_trans h3 h; rw [h2] at this; cases this
      | false =>
        have e := Sy.eq_of_not h1 h3
        rw [e, h2] at h
        cases h
theorem cmpV_neg (vw : Sy.Ed → Sy.Ed) (x y : Sy.Ed) : (cmpE (vw x) (vw y) < 0) ↔ ltV vw x y = true := by
  unfold ltV
  rw [← cmpE_lt]
  simp
theorem rg_up6 {w2 wa wb : World} {a0 a1 a2 a3 a4 a5 : Addr} {x0 x1 x2 x3 x4 x5 : Value} (hb : Below wa.heap.size wa wb) (h : ((wa.cell? a0 = some x0 ∧ wa.cell? a1 = some x1 ∧ wa.cell? a2 = some x2) ∧ (wa.cell? a3 = some x3 ∧ wa.cell? a4 = some x4 ∧ wa.cell? a5 = some x5)) ∧ Hid (Below w2.heap.size w2 wa)) : ((wb.cell? a0 = some x0 ∧ wb.cell? a1 = some x1 ∧ wb.cell? a2 = some x2) ∧ (wb.cell? a3 = some x3 ∧ wb.cell? a4 = some x4 ∧ wb.cell? a5 = some x5)) ∧ Hid (Below w2.heap.size w2 wb) :=
  have up : ∀ {a : Addr} {x : Value}, wa.cell? a = some x → wb.cell? a = some x := fun c => (hb.cell (World.block_lt_of_cell? wa _ c)).trans c
  ⟨⟨⟨up h.1.1.1, up h.1.1.2.1, up h.1.1.2.2⟩, ⟨up h.1.2.1, up h.1.2.2.1, up h.1.2.2.2⟩⟩, (h.2.out.trans (hb.mono h.2.out.size) : Below w2.heap.size w2 wb)⟩
theorem ins_go (lt : Sy.Ed → Sy.Ed → Bool) (a j : Nat) (d : Array Sy.Ed) (hj : a < j + 1) (hl : lt d[j + 1]! d[j]! = true) : Sort.insInner lt a (j + 1) d = Sort.insInner lt a j (Sort.swp d (j + 1) j) := by
  rw [Sort.insInner, if_pos (by simp [hl, hj])]
theorem ins_stop (lt : Sy.Ed → Sy.Ed → Bool) (a j : Nat) (d : Array Sy.Ed) (hl : lt d[j + 1]! d[j]! = false) : Sort.insInner lt a (j + 1) d = d := by
  rw [Sort.insInner, if_neg (by simp [hl])]
theorem ins_at (lt : Sy.Ed → Sy.Ed → Bool) (a j : Nat) (d : Array Sy.Ed) (hj : ¬ a < j) : Sort.insInner lt a j d = d := by
  cases j with
  | zero => rfl
  | succ j => rw [Sort.insInner, if_neg (by simp; omega)]
theorem ins_next (lt : Sy.Ed → Sy.Ed → Bool) (a b i : Nat) (d : Array Sy.Ed) (h : i < b) : Sort.insOuter lt a b i d = Sort.insOuter lt a b (i + 1) (Sort.insInner lt a i d) := by rw [Sort.insOuter, if_pos h]
theorem ins_end (lt : Sy.Ed → Sy.Ed → Bool) (a b i : Nat) (d : Array Sy.Ed) (h : ¬ i < b) : Sort.insOuter lt a b i d = d := by rw [Sort.insOuter, if_neg h]
theorem RowE.swapped {w wr : World} {g : Nat} {d : Array Sy.Ed} {rest : List Value} (h : RowE w wr g d rest) {i j : Nat} {x y : Sy.Ed} (hi : i < d.size) (hj : j < d.size) (hx : x = d[i]!) (hy : y = d[j]!) : RowE w (st3 (st3 wr g i y) g j x).drew g (Sort.swp d i j) rest := by
  subst hx hy
  exact (h.swap hi hj).below (Below.refl _ _).drew
end Go.Proofs.YtladdlkfnfdhaaaDoor
/- Contract of slices' insertion sort of edges by a view's comparison. -/
namespace Go.Proofs.YtladdlkfnfdhaaaDoor
open Go.RowKit Go.Maps
attribute [local go_sem ↓] Go.wp_at_zero Go.wp_at_succ
set_option maxRecDepth 100000 in
set_option maxHeartbeats 8000000 in
theorem insSort_any (f : Nat) (vw : Sy.Ed → Sy.Ed) (hV : ViewAt f vw) (g cap a b : Nat) (d : Array Sy.Ed) (rest : List Value) (w0 w : World) (hR : RowE w0 w g d rest) (hab : a ≤ b) (hb : b ≤ d.size) (hsz : d.size ≤ 1000000) :
    Calls Tryd.prog 66 #[.slice (some ⟨g, 0, none⟩) d.size cap, .int .i64 a, .int .i64 b, cmpV f] w fun r w' => r = .returned (.tuple #[]) ∧ RowE w0 w' g (Sort.insertionSort (ltV vw) d a b) rest := by
  obtain ⟨n, hn⟩ : ∃ n, n = d.size := ⟨_, rfl⟩
  have HR : Hid _ := And.intro hR (And.intro hn hV)
  rw [← hn] at hb hsz ⊢
  unfold cmpV Sort.insertionSort
  clear hR hn hV
  have he := enter_cmp
  go_enter Tryd.func66, Tryd.ntmps66
  go_wp2_with fail
  go_loopg [8] (b - a) (fun q iv wr => ∃ (i : Nat) (dk : Array Sy.Ed), iv = .int .i64 i ∧ a < i ∧ b + 1 - i ≤ q + 1 ∧ dk.size = n ∧ RowE w0 wr g dk rest ∧ Hid (Sort.insOuter (ltV vw) a b i dk = Sort.insOuter (ltV vw) a b (a + 1) d))
  case atStart => exact ⟨a + 1, d, by go_num, by omega, by omega, HR.out.2.1.symm, HR.out.1, rfl⟩
  case round =>
    obtain ⟨i, dk, rfl, hai, hq, hsk, hRk, HO⟩ := hrel
    by_cases hlt : i < b
    · have hltz : (i : Int) < (b : Int) := by omega
      have HK : Hid _ := And.intro hRk hsk
      clear hRk hsk
      obtain ⟨wq, rfl⟩ : ∃ wq, wq = wr := ⟨_, rfl⟩
      go_wp2_with fail
      go_loopg [9] i (fun p jv wr => ∃ (j : Nat) (dj : Array Sy.Ed), jv = .int .i64 j ∧ j ≤ i ∧ j ≤ p ∧ dj.size = n ∧ RowE w0 wr g dj rest ∧ Hid (Sort.insInner (ltV vw) a j dj = Sort.insInner (ltV vw) a i dk))
      case atStart => exact ⟨i, dk, rfl, Nat.le_refl _, Nat.le_refl _, HK.out.2, HK.out.1, rfl⟩
      case round =>
        obtain ⟨j, dj, rfl, hji, hp, hsj, hRj, HI⟩ := hrel
        by_cases hja : a < j
        · obtain ⟨jp, rfl⟩ : ∃ jp, j = jp + 1 := ⟨j - 1, by omega⟩
          obtain ⟨x0, x1, x2⟩ := hRj.cells (j := jp + 1) (by omega)
          obtain ⟨y0, y1, y2⟩ := hRj.cells (j := jp) (by omega)
          have hcm := fun W => compare_any f vw HR.out.2.2 (dj[jp + 1]!) (dj[jp]!) W
          unfold edV at hcm
          have hlt2 := cmpV_neg vw (dj[jp + 1]!) (dj[jp]!)
          have HJ : Hid _ := And.intro hRj hsj
          obtain ⟨xe, hxe⟩ : ∃ xe, xe = dj[jp + 1]! := ⟨_, rfl⟩
          obtain ⟨ye, hye⟩ : ∃ ye, ye = dj[jp]! := ⟨_, rfl⟩
          rw [← hxe] at x0 x1 x2 hcm hlt2
          rw [← hye] at y0 y1 y2 hcm hlt2
          have HE : Hid _ := And.intro hxe hye
          clear hRj hsj hxe hye
          obtain ⟨xa, xb, xc⟩ := xe
          obtain ⟨ya, yb, yc⟩ := ye
          generalize cmpE (vw (xa, xb, xc)) (vw (ya, yb, yc)) = c at hcm hlt2
          have HC : Hid _ := hcm
          have HL : Hid _ := hlt2
          clear hcm hlt2
          simp only at x0 x1 x2 y0 y1 y2
          have p0 : (0 : Int) ≤ (jp : Int) + 1 := by omega
          have p1 : (jp : Int) + 1 < (n : Int) := by have := HJ.out.2; omega
          have p2 : (0 : Int) ≤ (jp : Int) := by omega
          have p3 : (jp : Int) < (n : Int) := by omega
          have p4 : decide ((a : Int) < (jp : Int) + 1) = true := decide_eq_true (by omega)
          have p5 : ((jp : Int) + 1).toNat = jp + 1 := by omega
          have p7 : IntKind.i64.wrap (jp : Int) = (jp : Int) := by rw [IntKind.wrap_i64]; omega
          have p8 : IntKind.i64.wrap ((jp : Int) + 1 - 1) = (jp : Int) := by rw [IntKind.wrap_i64]; omega
          by_cases hc : c < 0
          · have p6 : decide (c < 0) = true := decide_eq_true hc
            go_upto_region 4 with fail
            go_region_held3 (fun w' => ((w'.cell? ⟨g, (jp + 1) * 3, none⟩ = some (.int .i64 xa) ∧ w'.cell? ⟨g, (jp + 1) * 3 + 1, none⟩ = some (.int .i64 xb) ∧ w'.cell? ⟨g, (jp + 1) * 3 + 2, none⟩ = some (.int .i64 xc)) ∧ (w'.cell? ⟨g, jp * 3, none⟩ = some (.int .i64 ya) ∧ w'.cell? ⟨g, jp * 3 + 1, none⟩ = some (.int .i64 yb) ∧ w'.cell? ⟨g, jp * 3 + 2, none⟩ = some (.int .i64 yc))) ∧ Hid (Below wr.heap.size wr w')) (first | exact rg_up6 hb3 (by assumption) | exact ⟨⟨⟨x0, x1, x2⟩, ⟨y0, y1, y2⟩⟩, ((Below.refl _ _).drew : Below wr.heap.size wr wr.drew)⟩ | go_keep)
              ((first
                | (go_at_fn 39; refine (HC.out _).mono ?_; rintro r w3 ⟨rfl, hb3⟩)
                | fail))
            have hR3 : RowE w0 w3 g dj rest := HJ.out.1.below (rg_b (by assumption))
            have HJ3 : Hid _ := And.intro hR3 HJ.out.2
            have f0 := hR3.free ((jp + 1) * 3)
            have f1 := hR3.free ((jp + 1) * 3 + 1)
            have f2 := hR3.free ((jp + 1) * 3 + 2)
            have f3 := hR3.free (jp * 3)
            have f4 := hR3.free (jp * 3 + 1)
            have f5 := hR3.free (jp * 3 + 2)
            obtain ⟨z0, z1, z2⟩ := hR3.at (z := (xa, xb, xc)) (by rw [HE.out.1]; exact getb (by have := HJ.out.2; omega))
            obtain ⟨z3, z4, z5⟩ := hR3.at (z := (ya, yb, yc)) (by rw [HE.out.2]; exact getb (by have := HJ.out.2; omega))
            simp only at z0 z1 z2 z3 z4 z5
            clear x0 x1 x2 y0 y1 y2 hb3 hR3 HC HJ
            rename_i hS3
            clear hS3
            go_wp2_with fail
            go_region
            all_goals go_wp2_with fail
            go_roundg jp
            case measure => omega
            case rel =>
              refine ⟨jp, Sort.swp dj (jp + 1) jp, by go_num, by omega, Nat.le_refl _, by rw [Sort.size_swp]; exact HJ3.out.2, HJ3.out.1.swapped (i := jp + 1) (j := jp) (x := (xa, xb, xc)) (y := (ya, yb, yc)) (by have := HJ3.out.2; omega) (by have := HJ3.out.2; omega) HE.out.1 HE.out.2, (show Hid _ from ?_)⟩
              show _ = _
              rw [← HI.out, ins_go _ _ _ _ hja (by rw [← HE.out.1, ← HE.out.2]; exact HL.out.1 hc)]
          · have p6 : decide (c < 0) = false := decide_eq_false hc
            go_upto_region 4 with fail
            go_region_held3 (fun w' => ((w'.cell? ⟨g, (jp + 1) * 3, none⟩ = some (.int .i64 xa) ∧ w'.cell? ⟨g, (jp + 1) * 3 + 1, none⟩ = some (.int .i64 xb) ∧ w'.cell? ⟨g, (jp + 1) * 3 + 2, none⟩ = some (.int .i64 xc)) ∧ (w'.cell? ⟨g, jp * 3, none⟩ = some (.int .i64 ya) ∧ w'.cell? ⟨g, jp * 3 + 1, none⟩ = some (.int .i64 yb) ∧ w'.cell? ⟨g, jp * 3 + 2, none⟩ = some (.int .i64 yc))) ∧ Hid (Below wr.heap.size wr w')) (first | exact rg_up6 hb3 (by assumption) | exact ⟨⟨⟨x0, x1, x2⟩, ⟨y0, y1, y2⟩⟩, ((Below.refl _ _).drew : Below wr.heap.size wr wr.drew)⟩ | go_keep)
              ((first
                | (go_at_fn 39; refine (HC.out _).mono ?_; rintro r w3 ⟨rfl, hb3⟩)
                | fail))
            have hR3 : RowE w0 w3 g dj rest := HJ.out.1.below (rg_b (by assumption))
            have HJ3 : Hid _ := And.intro hR3 HJ.out.2
            clear x0 x1 x2 y0 y1 y2 hb3 hR3 HC HJ
            rename_i hS3
            clear hS3
            go_wp2_with fail
            go_roundg (b - (i + 1))
            case measure => omega
            case rel =>
              refine ⟨i + 1, dj, by go_num, by omega, by omega, HJ3.out.2, HJ3.out.1, (show Hid _ from ?_)⟩
              show _ = _
              have hl : ltV vw dj[jp + 1]! dj[jp]! = false := by
                rw [← HE.out.1, ← HE.out.2]
                cases h : ltV vw (xa, xb, xc) (ya, yb, yc) with
                | false => rfl
                | true => exact absurd (HL.out.2 h) (by omega)
              rw [← HO.out, ins_next _ _ _ _ _ hlt, ← HI.out, ins_stop _ _ _ _ hl]
        · have p4 : decide ((a : Int) < (j : Int)) = false := decide_eq_false (by omega)
          have p5 : ¬ (a : Int) < (j : Int) := by omega
          have HJ3 : Hid _ := And.intro hRj hsj
          clear hRj hsj
          go_wp2_with fail
          go_region
          all_goals go_wp2_with fail
          go_roundg (b - (i + 1))
          case measure => omega
          case rel =>
            refine ⟨i + 1, dj, by go_num, by omega, by omega, HJ3.out.2, HJ3.out.1.below (Below.refl _ _).drew, (show Hid _ from ?_)⟩
            show _ = _
            rw [← HO.out, ins_next _ _ _ _ _ hlt, ← HI.out, ins_at _ _ _ _ hja]
    · have hltz : ¬ (i : Int) < (b : Int) := by omega
      go_wp2
      go_end0
      exact ⟨rfl, by rw [← HO.out, ins_end _ _ _ _ _ hlt]; exact hRk⟩
end Go.Proofs.YtladdlkfnfdhaaaDoor
/- Contracts of three functions of Go's library at this program, laid by the shelf's own tools in plain words. -/
namespace Go.Proofs
open Go.Shelf
def Tryd.lays128_ren : Go.Shelf.Ren := ⟨fun | 128 => 74 | n => n, fun | 51 => 125 | 3 => 3 | 4 => 4 | 46 => 112 | 5 => 5 | 9 => 9 | n => n, fun | n => n⟩
theorem Tryd.lays128 : Go.Proofs.Lays.n128 Tryd.prog Tryd.lays128_ren := {
  mixed := by kernel_rfl
  f128 := Tryd.func74.trans (congrArg some (by kernel_rfl))
  t3 := Tryd.underlying3
  a3 := Tryd.isAgg3
  z3 := Tryd.sizeOf3
  v3 := Tryd.zeroValue3
  t4 := Tryd.underlying4
  a4 := Tryd.isAgg4
  z4 := Tryd.sizeOf4
  v4 := Tryd.zeroValue4
  t5 := Tryd.underlying5
  a5 := Tryd.isAgg5
  z5 := Tryd.sizeOf5
  v5 := Tryd.zeroValue5
  t9 := Tryd.underlying9
  a9 := Tryd.isAgg9
  z9 := Tryd.sizeOf9
  v9 := Tryd.zeroValue9
  t46 := Tryd.underlying112
  a46 := Tryd.isAgg112
  z46 := Tryd.sizeOf112
  v46 := Tryd.zeroValue112
  t51 := Tryd.underlying125
  a51 := Tryd.isAgg125
  z51 := Tryd.sizeOf125
  v51 := Tryd.zeroValue125 }
theorem Tryd.bits_Len32 (x : Int) (w : World) (h0 : 0 ≤ x) (h1 : x ≤ 4294967295) :
    Calls Tryd.prog 74 #[.int .u32 x] w fun e w' => e = .returned (.int .i64 (Lib.bitLen x.toNat)) ∧ w' = w := Any.bits_Len32 Tryd.lays128 x w h0 h1
def Tryd.lays125_ren : Go.Shelf.Ren := ⟨fun | 125 => 59 | 128 => 74 | 129 => 75 | n => n, fun | 46 => 112 | 3 => 3 | 51 => 125 | 53 => 99 | 4 => 4 | 5 => 5 | 9 => 9 | n => n, fun | n => n⟩
theorem Tryd.lays125 : Go.Proofs.Lays.n125 Tryd.prog Tryd.lays125_ren := {
  mixed := by kernel_rfl
  f125 := Tryd.func59.trans (congrArg some (by kernel_rfl))
  f128 := Tryd.func74.trans (congrArg some (by kernel_rfl))
  f129 := Tryd.func75.trans (congrArg some (by kernel_rfl))
  t3 := Tryd.underlying3
  a3 := Tryd.isAgg3
  z3 := Tryd.sizeOf3
  v3 := Tryd.zeroValue3
  t4 := Tryd.underlying4
  a4 := Tryd.isAgg4
  z4 := Tryd.sizeOf4
  v4 := Tryd.zeroValue4
  t5 := Tryd.underlying5
  a5 := Tryd.isAgg5
  z5 := Tryd.sizeOf5
  v5 := Tryd.zeroValue5
  t9 := Tryd.underlying9
  a9 := Tryd.isAgg9
  z9 := Tryd.sizeOf9
  v9 := Tryd.zeroValue9
  t46 := Tryd.underlying112
  a46 := Tryd.isAgg112
  z46 := Tryd.sizeOf112
  v46 := Tryd.zeroValue112
  t51 := Tryd.underlying125
  a51 := Tryd.isAgg125
  z51 := Tryd.sizeOf125
  v51 := Tryd.zeroValue125
  t53 := Tryd.underlying99
  a53 := Tryd.isAgg99
  z53 := Tryd.sizeOf99
  v53 := Tryd.zeroValue99 }
theorem Tryd.bits_Len (x : Int) (w : World) (h0 : 0 ≤ x) (h1 : x ≤ 18446744073709551615) :
    Calls Tryd.prog 59 #[.int .u64 x] w fun e w' => e = .returned (.int .i64 (Lib.bitLen x.toNat)) ∧ w' = w := Any.bits_Len Tryd.lays125 x w h0 h1
def Tryd.lays215_ren : Go.Shelf.Ren := ⟨fun | 215 => 61 | n => n, fun | 3 => 3 | 4 => 4 | n => n, fun | n => n⟩
theorem Tryd.lays215 : Go.Proofs.Lays.n215 Tryd.prog Tryd.lays215_ren := {
  mixed := by kernel_rfl
  f215 := Tryd.func61.trans (congrArg some (by kernel_rfl))
  t3 := Tryd.underlying3
  a3 := Tryd.isAgg3
  z3 := Tryd.sizeOf3
  v3 := Tryd.zeroValue3
  t4 := Tryd.underlying4
  a4 := Tryd.isAgg4
  z4 := Tryd.sizeOf4
  v4 := Tryd.zeroValue4 }
open Go.RowKit in
theorem Tryd.cmp_isNaN_int (x : Int) (w : World) :
    Calls Tryd.prog 61 #[.int .i64 x] w fun e w' => e = .returned (.bool false) ∧ w' = w := Any.cmp_isNaN_int Tryd.lays215 x w
def Tryd.lays122_ren : Go.Shelf.Ren := ⟨fun | 122 => 43 | 215 => 61 | n => n, fun | 3 => 3 | 4 => 4 | n => n, fun | n => n⟩
theorem Tryd.lays122 : Go.Proofs.Lays.n122 Tryd.prog Tryd.lays122_ren := {
  mixed := by kernel_rfl
  f122 := Tryd.func43.trans (congrArg some (by kernel_rfl))
  f215 := Tryd.func61.trans (congrArg some (by kernel_rfl))
  t3 := Tryd.underlying3
  a3 := Tryd.isAgg3
  z3 := Tryd.sizeOf3
  v3 := Tryd.zeroValue3
  t4 := Tryd.underlying4
  a4 := Tryd.isAgg4
  z4 := Tryd.sizeOf4
  v4 := Tryd.zeroValue4 }
open Go.RowKit in
theorem Tryd.cmp_Compare_int (x y : Int) (w : World) :
    Calls Tryd.prog 43 #[.int .i64 x, .int .i64 y] w fun e w' => e = .returned (.int .i64 (Lib.compareInt x y)) ∧ w' = w := Any.cmp_Compare_int Tryd.lays122 x y w
def Tryd.lays129_ren : Go.Shelf.Ren := ⟨fun | 129 => 75 | n => n, fun | 53 => 99 | 3 => 3 | 4 => 4 | 46 => 112 | 5 => 5 | 9 => 9 | n => n, fun | n => n⟩
theorem Tryd.lays129 : Go.Proofs.Lays.n129 Tryd.prog Tryd.lays129_ren := {
  mixed := by kernel_rfl
  f129 := Tryd.func75.trans (congrArg some (by kernel_rfl))
  t3 := Tryd.underlying3
  a3 := Tryd.isAgg3
  z3 := Tryd.sizeOf3
  v3 := Tryd.zeroValue3
  t4 := Tryd.underlying4
  a4 := Tryd.isAgg4
  z4 := Tryd.sizeOf4
  v4 := Tryd.zeroValue4
  t5 := Tryd.underlying5
  a5 := Tryd.isAgg5
  z5 := Tryd.sizeOf5
  v5 := Tryd.zeroValue5
  t9 := Tryd.underlying9
  a9 := Tryd.isAgg9
  z9 := Tryd.sizeOf9
  v9 := Tryd.zeroValue9
  t46 := Tryd.underlying112
  a46 := Tryd.isAgg112
  z46 := Tryd.sizeOf112
  v46 := Tryd.zeroValue112
  t53 := Tryd.underlying99
  a53 := Tryd.isAgg99
  z53 := Tryd.sizeOf99
  v53 := Tryd.zeroValue99 }
theorem Tryd.bits_Len64 (x : Int) (w : World) (h0 : 0 ≤ x) (h1 : x ≤ 18446744073709551615) :
    Calls Tryd.prog 75 #[.int .u64 x] w fun e w' => e = .returned (.int .i64 (Lib.bitLen x.toNat)) ∧ w' = w := Any.bits_Len64 Tryd.lays129 x w h0 h1
def Tryd.laysNm237_ren : Go.Shelf.Ren := ⟨fun | 37 => 61 | n => n, fun | 3 => 3 | 4 => 4 | n => n, fun | n => n⟩
theorem Tryd.laysNm237 : Go.Proofs.Lays2.n37 Tryd.prog Tryd.laysNm237_ren := {
  mixed := by kernel_rfl
  f37 := Tryd.func61.trans (congrArg some (by kernel_rfl))
  t3 := Tryd.underlying3
  a3 := Tryd.isAgg3
  z3 := Tryd.sizeOf3
  v3 := Tryd.zeroValue3
  t4 := Tryd.underlying4
  a4 := Tryd.isAgg4
  z4 := Tryd.sizeOf4
  v4 := Tryd.zeroValue4 }
open Go.RowKit Go.Lib in
theorem Tryd.cmp_isNaN_int2 (x : Int) (w : World) :
    Calls Tryd.prog 61 #[.int .i64 x] w fun e w' => e = .returned (.bool false) ∧ w' = w := Any.cmp_isNaN_int2 Tryd.laysNm237 x w
end Go.Proofs
/- Contract of slices.SortFunc of at most twelve edges by a view's comparison. -/
namespace Go.Proofs.YtladdlkfnfdhaaaDoor
open Go.RowKit Go.Maps
attribute [local go_sem ↓] Go.wp_at_zero Go.wp_at_succ
/-- slices.SortFunc sorts rows of up to m edges. -/
def SortOk (m : Nat) : Prop := ∀ (f : Nat) (vw : Sy.Ed → Sy.Ed), ViewAt f vw → ∀ (g cap : Nat) (d : Array Sy.Ed) (rest : List Value) (w0 w : World), RowE w0 w g d rest → d.size ≤ m →
  Calls Tryd.prog 38 #[.slice (some ⟨g, 0, none⟩) d.size cap, cmpV f] w fun r w' => r = .returned (.tuple #[]) ∧ ∃ d', Sort.PermIn 0 d.size d d' ∧ Sort.SortedIn (ltV vw) 0 d.size d' ∧ RowE w0 w' g d' rest
theorem SortOk.mono {m n : Nat} (h : SortOk m) (hn : n ≤ m) : SortOk n := fun f vw hV g cap d rest w0 w hR hd => h f vw hV g cap d rest w0 w hR (Nat.le_trans hd hn)
set_option maxRecDepth 100000 in
set_option maxHeartbeats 1000000 in
theorem pdqSmall_any (f : Nat) (vw : Sy.Ed → Sy.Ed) (hV : ViewAt f vw) (g cap a b : Nat) (lim : Int) (d : Array Sy.Ed) (rest : List Value) (w0 w : World) (hR : RowE w0 w g d rest) (hab : a ≤ b) (hb : b ≤ d.size) (hsz : d.size ≤ 1000000) (h12 : b - a ≤ 12) :
    Calls Tryd.prog 58 #[.slice (some ⟨g, 0, none⟩) d.size cap, .int .i64 a, .int .i64 b, .int .i64 lim, cmpV f] w fun r w' => r = .returned (.tuple #[]) ∧ RowE w0 w' g (Sort.insertionSort (ltV vw) d a b) rest := by
  have hI := insSort_any f vw hV g cap a b d rest w0 w hR hab hb hsz
  generalize Sort.insertionSort (ltV vw) d a b = d' at hI ⊢
  unfold cmpV at hI ⊢
  have p1 : IntKind.i64.wrap ((b : Int) - (a : Int)) = (b : Int) - (a : Int) := by rw [IntKind.wrap_i64]; omega
  have p2 : (b : Int) - (a : Int) ≤ 12 := by omega
  have HI : Hid _ := hI
  clear hI hR
  go_enter Tryd.func58, Tryd.ntmps58
  go_wp2_with fail
  go_loopg [1, 2] 0 (fun _ av bv wr => av = .int .i64 (a : Int) ∧ bv = .int .i64 (b : Int) ∧ wr = w)
  case atStart => exact ⟨rfl, rfl, rfl⟩
  case round =>
    obtain ⟨rfl, rfl, rfl⟩ := hrel
    go_wp2_with (go_at_call 66; refine Calls.mono HI.out ?_; rintro r w1 ⟨rfl, hR1⟩)
    exact bodyPost_ret (results_none rfl _ _ _) rfl ⟨rfl, hR1⟩
set_option maxRecDepth 100000 in
set_option maxHeartbeats 1000000 in
theorem sort12 : SortOk 12 := fun f vw hV g cap d rest w0 w hR hd => by
  have hL := Tryd.bits_Len (d.size : Int) w (by omega) (by omega)
  have hP := fun lim => pdqSmall_any f vw hV g cap 0 d.size lim d rest w0 w hR (Nat.zero_le _) (Nat.le_refl _) (by omega) (by omega)
  have hI := Sort.insertionSort_holds (lt := ltV vw) (swoV vw) d 0 d.size (Nat.zero_le _) (Nat.le_refl _)
  generalize Sort.insertionSort (ltV vw) d 0 d.size = d' at hP hI
  generalize Lib.bitLen _ = bl at hL
  have wr : IntKind.u64.wrap (d.size : Int) = d.size := by simp [IntKind.wrap, IntKind.bits, IntKind.signed]; omega
  unfold cmpV at hP ⊢
  have HI : Hid _ := And.intro hP (And.intro hL hI)
  clear hP hI hL hR
  go_enter Tryd.func38, Tryd.ntmps38
  go_wp2_with (first
    | (go_at_call 59; refine Calls.mono HI.out.2.1 ?_; rintro r w1 ⟨rfl, hw1⟩; obtain rfl := hw1.symm)
    | (go_at_call 58; refine Calls.mono (HI.out.1 _) ?_; rintro r w1 ⟨rfl, hR1⟩))
  go_end0
  exact ⟨rfl, d', HI.out.2.2.1, HI.out.2.2.2, hR1⟩
end Go.Proofs.YtladdlkfnfdhaaaDoor
