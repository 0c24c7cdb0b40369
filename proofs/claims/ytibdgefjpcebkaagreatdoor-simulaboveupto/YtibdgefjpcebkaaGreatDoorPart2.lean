/- Texts of this claim, joined: BXEdges, SyRight, SySort, SySorted. -/
import Derived.Test.YtibdgefjpcebkaaGreatDoorPart1
import Derived.Deep.QuietTactic
import Derived.BigQuiet
import Derived.Test.YtibdgefjpcebkaaGreatDoorPart0
import Derived.Deep.DeepCutAuto
import Derived.Deep.RegionHeld3
import Derived.Deep.RegionLaw
namespace Go.Proofs.YtibdgefjpcebkaaGreatDoor
namespace BEdges
open Go.RowKit Go.Maps
attribute [local go_sem ↓] Go.wp_at_zero Go.wp_at_succ
abbrev El : Type := Int × Int × Int
def enc (z : El) : List Value := [.int .i64 z.1, .int .i64 z.2.1, .int .i64 z.2.2]
def C (zs : List El) : List Value := zs.flatMap enc
theorem enc_len (z : El) : (enc z).length = 3 := rfl
theorem C_len (zs : List El) : (C zs).length = zs.length * 3 := by
  unfold C
  induction zs with
  | nil => rfl
  | cons z r ih => rw [List.flatMap_cons, List.length_append, ih, enc_len, List.length_cons]; omega
theorem C_app (a b : List El) : C (a ++ b) = C a ++ C b := List.flatMap_append
theorem C_one (zs : List El) : ∀ u ∈ C zs, u.oneCell' = true := fun u hu => by
  obtain ⟨z, _, hz⟩ := List.mem_flatMap.1 hu
  simp only [enc, List.mem_cons, List.not_mem_nil, or_false] at hz
  rcases hz with rfl | rfl | rfl <;> rfl
theorem C_at : ∀ (zs : List El) (k : Nat) (z : El), zs[k]? = some z → ∀ q, q < 3 → (C zs)[k * 3 + q]? = (enc z)[q]?
  | [], _, _, h, _, _ => by simp at h
  | y :: r, 0, z, h, q, hq => by
    simp at h
    subst h
    show (enc y ++ C r)[0 * 3 + q]? = _
    rw [List.getElem?_append_left (by rw [enc_len]; omega)]
    congr 1
    omega
  | y :: r, k + 1, z, h, q, hq => by
    have ih := C_at r k z (by simpa using h) q hq
    show (enc y ++ C r)[(k + 1) * 3 + q]? = _
    rw [List.getElem?_append_right (by rw [enc_len]; omega), enc_len, ← ih]
    congr 1
    omega
theorem C_set (zs : List El) {k : Nat} (hk : k < zs.length) (x : El) : C (zs.set k x) = ((((C zs).set (k * 3) (.int .i64 x.1)).set (k * 3 + 1) (.int .i64 x.2.1)).set (k * 3 + 2) (.int .i64 x.2.2)) := by
  apply List.ext_getElem?
  intro j
  by_cases hj : j / 3 = k
  · obtain ⟨q, hq, rfl⟩ : ∃ q, q < 3 ∧ j = k * 3 + q := ⟨j % 3, Nat.mod_lt _ (by decide), by omega⟩
    rw [C_at (zs.set k x) k x (List.getElem?_set_self hk) q hq]
    have hl : (C zs).length = zs.length * 3 := C_len zs
    have hq' : q = 0 ∨ q = 1 ∨ q = 2 := by omega
    rcases hq' with rfl | rfl | rfl <;> simp [List.getElem?_set, hl, enc] <;> omega
  · have e : (C (zs.set k x))[j]? = (C zs)[j]? := by
      rcases Nat.lt_or_ge (j / 3) zs.length with h | h
      · obtain ⟨z, hz⟩ : ∃ z, zs[j / 3]? = some z := ⟨_, List.getElem?_eq_getElem h⟩
        have hz' : (zs.set k x)[j / 3]? = some z := by rw [List.getElem?_set_ne (fun e => hj e.symm)]; exact hz
        have e0 : j = j / 3 * 3 + j % 3 := by omega
        rw [e0, C_at _ _ z hz' _ (Nat.mod_lt _ (by decide)), C_at _ _ z hz _ (Nat.mod_lt _ (by decide))]
      · rw [List.getElem?_eq_none (by rw [C_len, List.length_set]; omega), List.getElem?_eq_none (by rw [C_len]; omega)]
    rw [e]
    rw [List.getElem?_set_ne (by omega), List.getElem?_set_ne (by omega), List.getElem?_set_ne (by omega)]
def Own (w : World) (B : Nat) (v : Value) (zs : List El) : Prop := w.ownsRow B 66 3 v zs.length (C zs)
def Has (w : World) (v : Value) (zs : List El) : Prop := ∃ ao cap, v = .slice ao zs.length cap ∧ ∀ (j : Nat) (u : Value), (C zs)[j]? = some u → ∃ a, ao = some a ∧ w.cell? (a.add j) = some u
theorem Has.below {w w' : World} {v : Value} {zs : List El} (h : Has w v zs) (hb : Below w.heap.size w w') : Has w' v zs := by
  obtain ⟨ao, cap, h1, h2⟩ := h
  refine ⟨ao, cap, h1, fun i p hi => ?_⟩
  obtain ⟨a, ha, c0⟩ := h2 i p hi
  exact ⟨a, ha, (hb.cell (World.block_lt_of_cell? w _ c0)).trans c0⟩
theorem C_nil {zs : List El} (h : zs ≠ []) : ∃ u, (C zs)[0]? = some u := by
  cases zs with
  | nil => exact absurd rfl h
  | cons z r =>
    have h1 := C_at (z :: r) 0 z rfl 0 (by decide)
    have h2 : (enc z)[0]? = some ((enc z)[0]'(by rw [enc_len]; decide)) := List.getElem?_eq_getElem _
    exact ⟨_, h1.trans h2⟩
theorem Own.at {w : World} {B g cap n : Nat} {zs : List El} (h : Own w B (.slice (some ⟨g, 0, none⟩) n cap) zs) {j : Nat} {u : Value} (hj : (C zs)[j]? = some u) : w.cell? ⟨g, j, none⟩ = some u := by
  obtain ⟨ao', cap', hv⟩ := row_shape h
  injection hv with _ e _
  subst e
  have h' : w.ownsRow B 66 3 (.slice (some ⟨g, 0, none⟩) zs.length cap) zs.length (C zs) := h
  rw [h'.cellAt j (by rw [← h'.1]; exact (List.getElem?_eq_some_iff.1 hj).1), hj]
theorem Own.has {w : World} {B : Nat} {v : Value} {zs : List El} (h : Own w B v zs) : Has w v zs := by
  obtain ⟨ao, cap, hv⟩ := row_shape h
  refine ⟨ao, cap, hv, fun j u hj => ?_⟩
  have hlt := (List.getElem?_eq_some_iff.1 hj).1
  rw [C_len] at hlt
  obtain ⟨g, c, hf, _, _⟩ := World.ownsRow.form h (by omega)
  rw [hv] at hf
  injection hf with e1 e2 e3
  subst e1; subst e3
  refine ⟨_, rfl, ?_⟩
  rw [addz]
  rw [hv] at h
  exact Own.at h hj
theorem add_q (a : Addr) (m q : Nat) : (a.add m).add q = a.add (m + q) := by
  unfold Addr.add
  by_cases h1 : m = 0 <;> by_cases h2 : q = 0 <;> simp [h1, h2] <;> omega
theorem copy_of {w : World} {ao : Option Addr} {n cap : Nat} {zs : List El} (h : Has w (.slice ao n cap) zs) : (ao = none → n = 0) ∧ ∀ ad, ao = some ad → ∀ j u, (C zs)[j]? = some u → w.cell? (ad.add j) = some u := by
  obtain ⟨ao', cap', hv, h2⟩ := h
  injection hv with e1 e2 e3
  subst e1
  refine ⟨fun e => ?_, fun ad e j u hj => ?_⟩
  · rw [e2]
    by_cases hz : zs = []
    · rw [hz]; rfl
    · obtain ⟨u, hu⟩ := C_nil hz
      obtain ⟨a, ha, _⟩ := h2 0 u hu
      rw [e] at ha; cases ha
  · obtain ⟨a, ha, hc⟩ := h2 j u hj
    rw [e] at ha
    cases ha
    exact hc
def mk1 (i k : Nat) : El := (-1 - (i : Int), (k : Int), 7)
def marks (i f n : Nat) : List El := (List.range n).map fun k => mk1 i (f + k)
theorem Tryz.infoE : (Tryz.prog.info? 66).map (fun i => (i.zero, i.size, i.bytes)) = some (some (.agg #[.int .i64 0, .int .i64 0, .int .i64 0]), 3, 24) := by kernel_rfl
theorem C_snoc (zs : List El) (z : El) : C (zs ++ [z]) = C zs ++ enc z := by
  rw [C_app]
  show _ ++ (enc z ++ []) = _
  rw [List.append_nil]
set_option maxRecDepth 100000 in
set_option maxHeartbeats 4000000 in
theorem same_b (va vb : Value) (zs : List El) (w : World) (hn : zs.length ≤ 1000000000000000) (hA : Has w va zs) (hB : Has w vb zs) :
    Calls Tryz.prog 32 #[va, vb] w fun e w' => e = .returned (.bool true) ∧ Below w.heap.size w w' := by
  obtain ⟨ao, cap, rfl, hcA⟩ := hA
  obtain ⟨ao', cap', rfl, hcB⟩ := hB
  obtain ⟨n, hN⟩ : ∃ n, n = zs.length := ⟨_, rfl⟩
  have HH : Hid _ := And.intro hcA (And.intro hcB hN)
  rw [← hN] at hn ⊢
  clear hcA hcB hN
  have q : ((n : Int) != (n : Int)) = false := by simp
  go_enter Tryz.func32, Tryz.ntmps32
  go_wp2
  go_loopg [5] n (fun g i wr => ∃ j m : Nat, g = n - j ∧ j ≤ n ∧ i = .int .i64 j ∧ wr = w.drewN m)
  case atStart => exact ⟨0, 0, rfl, Nat.zero_le _, rfl, rfl⟩
  case round =>
    obtain ⟨j, m, rfl, hj, rfl, rfl⟩ := hrel
    by_cases hlt : j < n
    · obtain ⟨z, hz⟩ : ∃ z, zs[j]? = some z := ⟨zs[j]'(by have := HH.out.2.2; omega), List.getElem?_eq_getElem _⟩
      obtain ⟨a, rfl, c0'⟩ := HH.out.1 (j * 3 + 0) _ ((C_at zs j z hz 0 (by decide)).trans rfl)
      obtain ⟨b, rfl, d0'⟩ := HH.out.2.1 (j * 3 + 0) _ ((C_at zs j z hz 0 (by decide)).trans rfl)
      have c0 : w.cell? (a.add (j * 3)) = some (.int .i64 z.1) := by first | exact c0' | simpa using c0'
      have d0 : w.cell? (b.add (j * 3)) = some (.int .i64 z.1) := by first | exact d0' | simpa using d0'
      clear c0' d0'
      obtain ⟨_, ec1, c1'⟩ := HH.out.1 (j * 3 + 1) _ ((C_at zs j z hz 1 (by decide)).trans rfl)
      cases ec1
      have c1 : w.cell? ⟨(a.add (j * 3)).block, (a.add (j * 3)).off + 1, none⟩ = some (.int .i64 z.2.1) := by rw [← add_q] at c1'; exact c1'
      clear c1'
      obtain ⟨_, ed1, d1'⟩ := HH.out.2.1 (j * 3 + 1) _ ((C_at zs j z hz 1 (by decide)).trans rfl)
      cases ed1
      have d1 : w.cell? ⟨(b.add (j * 3)).block, (b.add (j * 3)).off + 1, none⟩ = some (.int .i64 z.2.1) := by rw [← add_q] at d1'; exact d1'
      clear d1'
      obtain ⟨_, ec2, c2'⟩ := HH.out.1 (j * 3 + 2) _ ((C_at zs j z hz 2 (by decide)).trans rfl)
      cases ec2
      have c2 : w.cell? ⟨(a.add (j * 3)).block, (a.add (j * 3)).off + 2, none⟩ = some (.int .i64 z.2.2) := by rw [← add_q] at c2'; exact c2'
      clear c2'
      obtain ⟨_, ed2, d2'⟩ := HH.out.2.1 (j * 3 + 2) _ ((C_at zs j z hz 2 (by decide)).trans rfl)
      cases ed2
      have d2 : w.cell? ⟨(b.add (j * 3)).block, (b.add (j * 3)).off + 2, none⟩ = some (.int .i64 z.2.2) := by rw [← add_q] at d2'; exact d2'
      clear d2'
      have q0 : (0 : Int) ≤ (j : Int) := by omega
      have q1 : (j : Int) < (n : Int) := by omega
      clear hz
      go_wp2_with fail
      go_quiet (fail)
      go_wp2
      go_roundg (n - (j + 1))
      case measure => omega
      case rel => exact ⟨j + 1, _, rfl, by omega, by go_num, by first | rfl | exact World.drewN_drewN _ _ _⟩
    · obtain rfl : j = n := by omega
      have q1 : ¬ (j : Int) < (j : Int) := by omega
      go_wp2
      go_ret
      exact ⟨rfl, below_drewN (Below.refl _ _) _⟩
end BEdges
section
open Go.RowKit Go.Maps
attribute [local go_sem ↓] Go.wp_at_zero Go.wp_at_succ
def sysV (n k s : Int) (v : Value) : Value := .agg #[.int .i64 n, .int .i64 k, .int .i64 s, v]
theorem four_cells {w : World} {b : Nat} {x0 x1 x2 x3 : Value} {t : TypeId} (h : w.heap[b]? = some (.cells #[x0, x1, x2, x3] t (0, 0))) : w.cell? ⟨b, 0, none⟩ = some x0 ∧ w.cell? ⟨b, 1, none⟩ = some x1 ∧ w.cell? ⟨b, 2, none⟩ = some x2 ∧ w.cell? ⟨b, 3, none⟩ = some x3 := by
  simp [World.cell?, h]
set_option maxRecDepth 100000 in
set_option maxHeartbeats 4000000 in
theorem right_a (n k s : Int) (ao : Option Addr) (m cap : Nat) (w : World) (h : ¬ (0 ≤ n ∧ n ≤ 1000 ∧ 1 ≤ k ∧ k ≤ 201 ∧ m ≤ 10000)) :
    Calls Tryz.prog 21 #[sysV n k s (.slice ao m cap)] w fun e w' => e = .returned (.bool false) ∧ Below w.heap.size w w' := by
  unfold sysV
  have hc : n < 0 ∨ ¬ n < 0 ∧ (1000 < n ∨ ¬ 1000 < n ∧ (k < 1 ∨ ¬ k < 1 ∧ (201 < k ∨ ¬ 201 < k ∧ (10000 : Int) < (m : Int)))) := by omega
  rcases hc with h1 | ⟨h1, h2 | ⟨h2, h3 | ⟨h3, h4 | ⟨h4, h5⟩⟩⟩⟩
  all_goals
    clear h
    go_enter Tryz.func21, Tryz.ntmps21
    go_wp2
    go_ret
    exact ⟨rfl, (Below.refl _ _).alloc (Nat.le_refl _) _⟩
set_option maxRecDepth 100000 in
set_option maxHeartbeats 4000000 in
theorem right_b (n k s : Int) (ao : Option Addr) (m cap : Nat) (w : World) (h : 0 ≤ n ∧ n ≤ 1000 ∧ 1 ≤ k ∧ k ≤ 201 ∧ m ≤ 10000) (hs : ¬ ((n = 0 → s = 0) ∧ (0 < n → 0 ≤ s ∧ s < n))) :
    Calls Tryz.prog 21 #[sysV n k s (.slice ao m cap)] w fun e w' => e = .returned (.bool false) ∧ Below w.heap.size w w' := by
  unfold sysV
  obtain ⟨h1, h2, h3, h4, h5⟩ := h
  have g1 : ¬ n < 0 := by omega
  have g2 : ¬ 1000 < n := by omega
  have g3 : ¬ k < 1 := by omega
  have g4 : ¬ 201 < k := by omega
  have g5 : ¬ (10000 : Int) < (m : Int) := by omega
  have hc : (n == 0) = true ∧ (s != 0) = true ∨ (n == 0) = false ∧ 0 < n ∧ (s < 0 ∨ ¬ s < 0 ∧ n ≤ s) := by
    by_cases e : n = 0
    · left; simp [e]; intro e2; exact hs ⟨fun _ => e2, fun h => by omega⟩
    · right
      refine ⟨by simpa using e, by omega, ?_⟩
      by_cases e2 : s < 0
      · exact .inl e2
      · exact .inr ⟨e2, by
          by_cases e3 : n ≤ s
          · exact e3
          · exact absurd ⟨fun h => absurd h e, fun _ => ⟨by omega, by omega⟩⟩ hs⟩
  clear hs h1 h2 h3 h4 h5
  rcases hc with ⟨e1, e2⟩ | ⟨e1, e2, e3 | ⟨e3, e4⟩⟩
  all_goals
    go_enter Tryz.func21, Tryz.ntmps21
    go_wp2
    go_ret
    exact ⟨rfl, (Below.refl _ _).alloc (Nat.le_refl _) _⟩
theorem edge_at {w : World} {ao : Option Addr} {n cap : Nat} {es : List BEdges.El} (h : BEdges.Has w (.slice ao n cap) es) {j : Nat} {z : BEdges.El} (hz : es[j]? = some z) :
    ∃ a, ao = some a ∧ w.cell? (a.add (j * 3)) = some (.int .i64 z.1) ∧ w.cell? ⟨(a.add (j * 3)).block, (a.add (j * 3)).off + 1, none⟩ = some (.int .i64 z.2.1) ∧ w.cell? ⟨(a.add (j * 3)).block, (a.add (j * 3)).off + 2, none⟩ = some (.int .i64 z.2.2) := by
  obtain ⟨ao', cap', hv, hc⟩ := h
  injection hv with e1 e2 e3
  subst e1
  obtain ⟨a, rfl, c0⟩ := hc (j * 3 + 0) _ ((BEdges.C_at es j z hz 0 (by decide)).trans rfl)
  obtain ⟨a1, e1, c1⟩ := hc (j * 3 + 1) _ ((BEdges.C_at es j z hz 1 (by decide)).trans rfl)
  cases e1
  obtain ⟨a2, e2, c2⟩ := hc (j * 3 + 2) _ ((BEdges.C_at es j z hz 2 (by decide)).trans rfl)
  cases e2
  refine ⟨a, rfl, by simpa using c0, ?_, ?_⟩
  · rw [← BEdges.add_q] at c1; exact c1
  · rw [← BEdges.add_q] at c2; exact c2
def edgeOk (n k : Int) (e : Sy.Ed) : Bool := decide (0 ≤ e.1 ∧ e.1 < n ∧ 0 ≤ e.2.2 ∧ e.2.2 < n ∧ 0 ≤ e.2.1 ∧ e.2.1 < k)
set_option maxRecDepth 100000 in
set_option maxHeartbeats 8000000 in
theorem right_c (n k s : Int) (v : Value) (es : List Sy.Ed) (w : World) (hv : BEdges.Has w v es) (h : 0 ≤ n ∧ n ≤ 1000 ∧ 1 ≤ k ∧ k ≤ 201 ∧ es.length ≤ 10000) (hs : (n = 0 → s = 0) ∧ (0 < n → 0 ≤ s ∧ s < n)) :
    Calls Tryz.prog 21 #[sysV n k s v] w fun e w' => e = .returned (.bool (es.all (edgeOk n k))) ∧ Below w.heap.size w w' := by
  unfold sysV
  obtain ⟨ao, cap, rfl, _⟩ := _root_.id hv
  obtain ⟨m, hm⟩ : ∃ m, m = es.length := ⟨_, rfl⟩
  have HV : Hid _ := And.intro hv hm
  rw [← hm] at h ⊢
  obtain ⟨h1, h2, h3, h4, h5⟩ := h
  have g1 : ¬ n < 0 := by omega
  have g2 : ¬ 1000 < n := by omega
  have g3 : ¬ k < 1 := by omega
  have g4 : ¬ 201 < k := by omega
  have g5 : ¬ (10000 : Int) < (m : Int) := by omega
  have hc : (n == 0) = true ∧ (s != 0) = false ∧ ¬ 0 < n ∨ (n == 0) = false ∧ 0 < n ∧ ¬ s < 0 ∧ ¬ n ≤ s := by
    by_cases e : n = 0
    · left; simp [e, hs.1 e]
    · right; have := hs.2 (by omega); exact ⟨by simpa using e, by omega, by omega, by omega⟩
  clear hv hm hs
  rcases hc with ⟨c1, c2, c3⟩ | ⟨c1, c2, c3, c4⟩
  all_goals
    go_enter Tryz.func21, Tryz.ntmps21
    go_wp2_with fail
    go_loopg [3] m (fun q iv wr => ∃ i : Nat, q = m - i ∧ i ≤ m ∧ iv = .int .i64 i ∧ Below w.heap.size w wr ∧ wr.heap[w.heap.size]? = some (.cells #[.int .i64 n, .int .i64 k, .int .i64 s, .slice ao m cap] 24 (0, 0)) ∧ (es.take i).all (edgeOk n k) = true)
    case atStart => exact ⟨0, rfl, Nat.zero_le _, rfl, (Below.refl _ _).alloc (Nat.le_refl _) _, heap_alloc_new w _, by simp⟩
    case round =>
      obtain ⟨i, rfl, hi, rfl, hb, hB, hall⟩ := hrel
      obtain ⟨b0, b1, b2, b3⟩ := four_cells hB
      have n2 : w.heap.size < wr.heap.size := t_lt hB
      have n1 : ¬ w.heap.size = wr.heap.size := by omega
      have HB : Hid _ := And.intro hb (And.intro hB hall)
      clear hb hB hall
      by_cases hlt : i < m
      · obtain ⟨z, hz⟩ : ∃ z, es[i]? = some z := ⟨es[i]'(by have := HV.out.2; omega), List.getElem?_eq_getElem _⟩
        obtain ⟨a, rfl, z0, z1, z2⟩ := edge_at (HV.out.1.below HB.out.1) hz
        have q0 : (0 : Int) ≤ (i : Int) := by omega
        have q1 : (i : Int) < (m : Int) := by omega
        have HZ : Hid (es[i]? = some z) := hz
        clear hz
        by_cases hok : edgeOk n k z = true
        · have hk := of_decide_eq_true hok
          obtain ⟨k1, k2, k3, k4, k5, k6⟩ := hk
          have r1 : ¬ z.1 < 0 := by omega
          have r2 : ¬ n ≤ z.1 := by omega
          have r3 : ¬ z.2.2 < 0 := by omega
          have r4 : ¬ n ≤ z.2.2 := by omega
          have r5 : ¬ z.2.1 < 0 := by omega
          have r6 : ¬ k ≤ z.2.1 := by omega
          have HOK : Hid (edgeOk n k z = true) := hok
          clear hok k1 k2 k3 k4 k5 k6
          first
            | (exfalso; omega)
            | (go_wp2
               go_roundg (m - (i + 1))
               case measure => omega
               case rel => exact ⟨i + 1, rfl, by omega, by go_num, HB.out.1.alloc HB.out.1.size _, by rw [Below.heap_alloc wr _ _ (t_lt HB.out.2.1)]; exact HB.out.2.1, by rw [take_succ_of HZ.out, List.all_append, HB.out.2.2]; simp [HOK.out]⟩)
        · have hk : z.1 < 0 ∨ ¬ z.1 < 0 ∧ (n ≤ z.1 ∨ ¬ n ≤ z.1 ∧ (z.2.2 < 0 ∨ ¬ z.2.2 < 0 ∧ (n ≤ z.2.2 ∨ ¬ n ≤ z.2.2 ∧ (z.2.1 < 0 ∨ ¬ z.2.1 < 0 ∧ k ≤ z.2.1)))) := by
            have : ¬ (0 ≤ z.1 ∧ z.1 < n ∧ 0 ≤ z.2.2 ∧ z.2.2 < n ∧ 0 ≤ z.2.1 ∧ z.2.1 < k) := fun h => hok (decide_eq_true h)
            omega
          have HF : Hid (es.all (edgeOk n k) = false) := (by
            rw [List.all_eq_false]
            exact ⟨z, List.mem_of_getElem? HZ.out, hok⟩ : es.all (edgeOk n k) = false)
          clear hok
          rcases hk with r1 | ⟨r1, r2 | ⟨r2, r3 | ⟨r3, r4 | ⟨r4, r5 | ⟨r5, r6⟩⟩⟩⟩⟩
          all_goals
            first
              | (exfalso; omega)
              | (go_wp2; go_ret; exact ⟨by rw [HF.out]; rfl, HB.out.1.alloc HB.out.1.size _⟩)
      · obtain rfl : i = m := by omega
        have q1 : ¬ (i : Int) < (i : Int) := by omega
        go_wp2
        go_ret
        refine ⟨?_, HB.out.1⟩
        have h9 := HB.out.2.2
        rw [List.take_of_length_le (by have := HV.out.2; omega)] at h9
        rw [h9]
        rfl
theorem right_any (n k s : Int) (v : Value) (es : List Sy.Ed) (w : World) (hv : BEdges.Has w v es) :
    Calls Tryz.prog 21 #[sysV n k s v] w fun e w' => e = .returned (.bool (Sy.right n k s es)) ∧ Below w.heap.size w w' := by
  unfold Sy.right
  by_cases h1 : 0 ≤ n ∧ n ≤ 1000 ∧ 1 ≤ k ∧ k ≤ 201 ∧ es.length ≤ 10000
  · by_cases h2 : (n = 0 → s = 0) ∧ (0 < n → 0 ≤ s ∧ s < n)
    · rw [decide_eq_true h1, decide_eq_true h2]
      exact right_c n k s v es w hv h1 h2
    · rw [decide_eq_false h2, Bool.and_false, Bool.false_and]
      obtain ⟨ao, cap, rfl, _⟩ := hv
      exact right_b n k s ao es.length cap w h1 h2
  · rw [decide_eq_false h1, Bool.false_and, Bool.false_and]
    obtain ⟨ao, cap, rfl, _⟩ := hv
    exact right_a n k s ao es.length cap w h1
end
section
open Go.RowKit Go.Maps
attribute [local go_sem ↓] Go.wp_at_zero Go.wp_at_succ
def edV (a : Sy.Ed) : Value := .agg #[.int .i64 a.1, .int .i64 a.2.1, .int .i64 a.2.2]
set_option maxRecDepth 100000 in
set_option maxHeartbeats 2000000 in
theorem refLess_any (a b : Sy.Ed) (w : World) : Calls Tryz.prog 112 #[edV a, edV b] w fun e w' => e = .returned (.bool (Sy.lt a b)) ∧ Below w.heap.size w w' := by
  unfold edV
  have hne : ¬ w.heap.size + 1 = w.heap.size := by omega
  have hB : Below w.heap.size w ((w.alloc (.cells #[.int .i64 a.1, .int .i64 a.2.1, .int .i64 a.2.2] 66)).alloc (.cells #[.int .i64 b.1, .int .i64 b.2.1, .int .i64 b.2.2] 66)) := ((Below.refl _ _).alloc (Nat.le_refl _) _).alloc (by simp) _
  have HB : Hid _ := hB
  clear hB
  by_cases h1 : a.1 = b.1
  · have e1 : (a.1 != b.1) = false := by simpa using h1
    by_cases h2 : a.2.1 = b.2.1
    · have e2 : (a.2.1 != b.2.1) = false := by simpa using h2
      have HL : Hid (Sy.lt a b = decide (a.2.2 < b.2.2)) := (by unfold Sy.lt; rw [e1, e2]; rfl : Sy.lt a b = decide (a.2.2 < b.2.2))
      clear h1 h2
      go_enter Tryz.func112, Tryz.ntmps112
      go_wp2
      go_ret
      exact ⟨by rw [HL.out]; rfl, HB.out⟩
    · have e2 : (a.2.1 != b.2.1) = true := by simpa using h2
      have HL : Hid (Sy.lt a b = decide (a.2.1 < b.2.1)) := (by unfold Sy.lt; rw [e1, e2]; rfl : Sy.lt a b = decide (a.2.1 < b.2.1))
      clear h1 h2
      go_enter Tryz.func112, Tryz.ntmps112
      go_wp2
      go_ret
      exact ⟨by rw [HL.out]; rfl, HB.out⟩
  · have e1 : (a.1 != b.1) = true := by simpa using h1
    have HL : Hid (Sy.lt a b = decide (a.1 < b.1)) := (by unfold Sy.lt; rw [e1]; rfl : Sy.lt a b = decide (a.1 < b.1))
    clear h1
    go_enter Tryz.func112, Tryz.ntmps112
    go_wp2
    go_ret
    exact ⟨by rw [HL.out]; rfl, HB.out⟩
def HasE (w : World) (v : Value) (es : List Sy.Ed) : Prop := ∃ ao cap, v = .slice ao es.length cap ∧ es.length ≤ cap ∧ BEdges.Has w v es
theorem HasE.below {w w' : World} {v : Value} {es : List Sy.Ed} (h : HasE w v es) (hb : Below w.heap.size w w') : HasE w' v es := by
  obtain ⟨ao, cap, h1, h2, h3⟩ := h
  exact ⟨ao, cap, h1, h2, h3.below hb⟩
theorem HasE.of_own {w : World} {B : Nat} {v : Value} {es : List Sy.Ed} (h : BEdges.Own w B v es) : HasE w v es := by
  have h3 := BEdges.Own.has h
  rcases h.2 with ⟨rfl, h0⟩ | ⟨g, cap, cur, rfl, _, _, hc, _⟩
  · exact ⟨none, 0, by rw [h0], by omega, h3⟩
  · exact ⟨_, cap, rfl, hc, h3⟩
theorem hasE_take {w : World} {ao : Option Addr} {n cap : Nat} {es : List Sy.Ed} (h : HasE w (.slice ao n cap) es) (k : Nat) (hk : k ≤ es.length) : HasE w (.slice ao k cap) (es.take k) := by
  obtain ⟨ao', cap', hv, hc, h3⟩ := h
  injection hv with e1 e2 e3
  subst e1; subst e2; subst e3
  have hl : (es.take k).length = k := by rw [List.length_take]; omega
  obtain ⟨ao2, cap2, hv2, h4⟩ := h3
  injection hv2 with f1 f2 f3
  subst f1; subst f3
  refine ⟨ao, cap, by rw [hl], by omega, ao, cap, by rw [hl], fun j u hj => ?_⟩
  refine h4 j u ?_
  have e : BEdges.C es = BEdges.C (es.take k) ++ BEdges.C (es.drop k) := by rw [← BEdges.C_app, List.take_append_drop]
  rw [e, List.getElem?_append_left (List.getElem?_eq_some_iff.1 hj).1]
  exact hj
theorem hasE_drop {w : World} {a : Addr} {n cap : Nat} {es : List Sy.Ed} (h : HasE w (.slice (some a) n cap) es) (k : Nat) (hk : k ≤ es.length) : HasE w (.slice (some (a.add (k * 3))) (n - k) (cap - k)) (es.drop k) := by
  obtain ⟨ao', cap', hv, hc, h3⟩ := h
  injection hv with e1 e2 e3
  subst e1; subst e2; subst e3
  have hl : (es.drop k).length = es.length - k := List.length_drop
  obtain ⟨ao2, cap2, hv2, h4⟩ := h3
  injection hv2 with f1 f2 f3
  subst f1; subst f3
  refine ⟨_, _, by rw [hl], by omega, _, _, by rw [hl], fun j u hj => ⟨_, rfl, ?_⟩⟩
  have e : BEdges.C es = BEdges.C (es.take k) ++ BEdges.C (es.drop k) := by rw [← BEdges.C_app, List.take_append_drop]
  have hcl : (BEdges.C (es.take k)).length = k * 3 := by rw [BEdges.C_len, List.length_take, Nat.min_eq_left hk]
  obtain ⟨a2, ha2, hc2⟩ := h4 (k * 3 + j) u (by rw [e, List.getElem?_append_right (by omega), hcl, Nat.add_sub_cancel_left]; exact hj)
  cases ha2
  rw [BEdges.add_q]
  exact hc2
end
section
open Go.RowKit Go.Maps
attribute [local go_sem ↓] Go.wp_at_zero Go.wp_at_succ
theorem own_edge {w : World} {B : Nat} {ao : Option Addr} {n cap : Nat} {es : List Sy.Ed} (h : BEdges.Own w B (.slice ao n cap) es) {j : Nat} {z : Sy.Ed} (hz : es[j]? = some z) :
    ∃ g, ao = some ⟨g, 0, none⟩ ∧ w.cell? ⟨g, j * 3, none⟩ = some (.int .i64 z.1) ∧ w.cell? ⟨g, j * 3 + 1, none⟩ = some (.int .i64 z.2.1) ∧ w.cell? ⟨g, j * 3 + 2, none⟩ = some (.int .i64 z.2.2) := by
  have hlt := (List.getElem?_eq_some_iff.1 hz).1
  obtain ⟨g, c, hf, _, _⟩ := World.ownsRow.form h (by omega)
  injection hf with e1 e2 e3
  subst e1
  refine ⟨g, rfl, ?_, ?_, ?_⟩
  · have := BEdges.Own.at h ((BEdges.C_at es j z hz 0 (by decide)).trans rfl); simpa using this
  · exact BEdges.Own.at h ((BEdges.C_at es j z hz 1 (by decide)).trans rfl)
  · exact BEdges.Own.at h ((BEdges.C_at es j z hz 2 (by decide)).trans rfl)
def SortedAt (w : World) (v : Value) (es : List Sy.Ed) : Prop := Calls Tryz.prog 82 #[v] w fun e w' => ∃ u, e = .returned u ∧ BEdges.Own w' w.heap.size u (Sy.nf es) ∧ Below w.heap.size w w'
set_option maxRecDepth 100000 in
set_option maxHeartbeats 4000000 in
theorem sorted_short (v : Value) (es : List Sy.Ed) (w : World) (hv : HasE w v es) (hn : es.length < 2) : SortedAt w v es := by
  unfold SortedAt
  obtain ⟨i0, hi0, hz0, hz1, hz2⟩ := info_parts BEdges.Tryz.infoE
  obtain ⟨ao, cap, rfl, hc, hH⟩ := hv
  have hC := BEdges.copy_of hH
  obtain ⟨m, hm⟩ : ∃ m, m = es.length := ⟨_, rfl⟩
  rw [← hm] at hC ⊢
  have HC : Hid _ := And.intro hC hm
  have h1 : (m : Int) < 2 := by omega
  have hL1 : m ≤ maxLen := by unfold maxLen; omega
  have hL8 : m * 24 ≤ 140737488355328 := by omega
  have hcl : (BEdges.C es).length = m * 3 := by rw [BEdges.C_len, hm]
  clear hC hH hc hm
  go_enter Tryz.func82, Tryz.ntmps82
  go_wp2_with (at_builtin; refine wpList_copy_at _ rfl _ _ 22 rfl w.heap.size 66 i0 (.agg #[.int .i64 0, .int .i64 0, .int .i64 0]) 3 24 Tryz.underlying22 hi0 hz0 hz1 hz2 rfl (by decide) rfl ao m cap (BEdges.C es) rfl HC.out.1.1 hcl HC.out.1.2 (BEdges.C_one _) hL1 hL8 (Nat.le_refl _) ?_; intro v2 w2 hown2 hgrow2 hat2; have H2 : Hid _ := And.intro hown2 hgrow2; clear hown2 hgrow2 hat2)
  go_ret
  refine ⟨_, rfl, ?_, tgrown0 H2.out.2⟩
  have e : Sy.nf es = es := by
    have h9 := HC.out.2
    match es, h9 with
    | [], _ => rfl
    | [a], _ => rfl
    | a :: b :: r, h9 => exact absurd h1 (by rw [h9]; simp; omega)
  have h2 : w2.ownsRow w.heap.size 66 3 v2 m (BEdges.C es) := H2.out.1
  unfold BEdges.Own
  rw [e, ← HC.out.2]
  exact h2
set_option maxRecDepth 100000 in
set_option maxHeartbeats 16000000 in
theorem sorted_long (v : Value) (es : List Sy.Ed) (w : World) (hv : HasE w v es) (hn : ¬ es.length < 2) (hm : es.length ≤ 100000) (ih : ∀ (W : World) (x : Value) (xs : List Sy.Ed), xs.length < es.length → HasE W x xs → SortedAt W x xs) : SortedAt w v es := by
  unfold SortedAt
  obtain ⟨i0, hi0, hz0, hz1, hz2⟩ := info_parts BEdges.Tryz.infoE
  obtain ⟨n, hN⟩ : ∃ n, n = es.length := ⟨_, rfl⟩
  obtain ⟨ao, cap, rfl, hc, hH⟩ := _root_.id hv
  obtain ⟨a, rfl⟩ : ∃ a, ao = some a := by
    cases ao with
    | some a => exact ⟨a, rfl⟩
    | none => have := (BEdges.copy_of hH).1 rfl; omega
  obtain ⟨h, hh⟩ : ∃ h, h = n / 2 := ⟨_, rfl⟩
  have hA : ∀ W, Below w.heap.size w W → Calls Tryz.prog 82 #[.slice (some a) h cap] W fun e w' => ∃ u, e = .returned u ∧ BEdges.Own w' w.heap.size u (Sy.nf (es.take h)) ∧ Below w.heap.size w w' ∧ Below W.heap.size W w' := fun W hb => by
    have h1 := ih W _ _ (by rw [List.length_take]; omega) ((hasE_take hv h (by omega)).below hb)
    refine Calls.mono h1 ?_
    rintro e w' ⟨u, rfl, h2, h3⟩
    exact ⟨u, rfl, row_base h2 hb.size, hb.trans (h3.mono hb.size), h3⟩
  have hB : ∀ W, Below w.heap.size w W → Calls Tryz.prog 82 #[.slice (some (a.add (h * 3))) (n - h) (cap - h)] W fun e w' => ∃ u, e = .returned u ∧ BEdges.Own w' w.heap.size u (Sy.nf (es.drop h)) ∧ Below w.heap.size w w' ∧ Below W.heap.size W w' := fun W hb => by
    have h1 := ih W _ _ (by rw [List.length_drop]; omega) ((hasE_drop hv h (by omega)).below hb)
    rw [← hN] at h1
    refine Calls.mono h1 ?_
    rintro e w' ⟨u, rfl, h2, h3⟩
    exact ⟨u, rfl, row_base h2 hb.size, hb.trans (h3.mono hb.size), h3⟩
  have HI : Hid _ := And.intro hA hB
  have HN : Hid (n = es.length ∧ h = n / 2) := ⟨hN, hh⟩
  rw [← hN] at hn hm hc ⊢
  have g1 : ¬ (n : Int) < 2 := by omega
  have g2 : IntKind.i64.wrap ((n : Int) / 2) = (h : Int) := by rw [IntKind.wrap_i64]; omega
  have g3 : (0 : Int) ≤ (h : Int) := by omega
  have g4 : (h : Int) ≤ (cap : Int) := by omega
  have g5 : (h : Int) ≤ (n : Int) := by omega
  have g6 : (n : Int) ≤ (cap : Int) := by omega
  have g7 : ¬ cap = h := by omega
  clear hv hH hA hB hh ih hN
  go_enter Tryz.func82, Tryz.ntmps82
  go_upto_region 3 with fail
  go_cut [3, 4] (fun s3 s4 wx => BEdges.Own wx w.heap.size s3 (Sy.nf (es.take h)) ∧ BEdges.Own wx w.heap.size s4 (Sy.nf (es.drop h)) ∧ Below w.heap.size w wx)
  case first =>
    go_region_held3 (fun _ => True) (exact trivial)
      ((first
        | (go_at_call_of 82 (Value.slice (some a) h cap); refine (HI.out.1 _ (by repeat (first | exact Below.refl _ _ | assumption | refine Below.drew ?_ | refine Below.setCell ?_ (by simp) _ | refine Below.alloc ?_ (by simp) _))).mono ?_; rintro r1 wa ⟨u1, rfl, hO1, hw1, hb1⟩; obtain ⟨b1, c1, rfl⟩ := row_shape hO1)
        | (go_at_call_of 82 (Value.slice (some (a.add (h * 3))) (n - h) (cap - h)); refine (HI.out.2 _ (by repeat (first | exact Below.refl _ _ | assumption | refine Below.drew ?_ | refine Below.setCell ?_ (by simp) _ | refine Below.alloc ?_ (by simp) _))).mono ?_; rintro r2 wb ⟨u2, rfl, hO2, hw2, hb2⟩; obtain ⟨b2, c2, rfl⟩ := row_shape hO2)
        | fail))
    all_goals (refine Met.intro ?_; apply_assumption; refine Met.intro ?_; apply_assumption; (repeat apply Exists.intro); refine ⟨?rel, rfl⟩; case rel => exact ⟨trow_at hO1 fun i hi => hb2.block i (hO1.lt i hi).2, hO2, hw2⟩)
  case rest =>
    obtain ⟨hOa, hOb, hbw⟩ := hcut
    obtain ⟨oa, ca, rfl⟩ := row_shape hOa
    obtain ⟨ob, cb, rfl⟩ := row_shape hOb
    obtain ⟨as0, has⟩ : ∃ l, l = Sy.nf (es.take h) := ⟨_, rfl⟩
    obtain ⟨bs0, hbs⟩ : ∃ l, l = Sy.nf (es.drop h) := ⟨_, rfl⟩
    rw [← has] at hOa ⊢
    rw [← hbs] at hOb ⊢
    have hla : as0.length ≤ 100000 := by have := Sy.nf_len (es.take h); rw [← has, List.length_take] at this; have := HN.out.1; omega
    have hlb : bs0.length ≤ 100000 := by have := Sy.nf_len (es.drop h); rw [← hbs, List.length_drop] at this; have := HN.out.1; omega
    obtain ⟨A, hAl⟩ : ∃ A, A = as0.length := ⟨_, rfl⟩
    obtain ⟨B, hBl⟩ : ∃ B, B = bs0.length := ⟨_, rfl⟩
    have hsa : Sy.Str as0 := by rw [has]; exact Sy.nf_str _
    have hsb : Sy.Str bs0 := by rw [hbs]; exact Sy.nf_str _
    have HF : Hid (∀ x, (x ∈ as0 ∨ x ∈ bs0) ↔ x ∈ es) := (fun x => by rw [has, hbs, Sy.nf_mem, Sy.nf_mem, ← List.mem_append, List.take_append_drop] : ∀ x, (x ∈ as0 ∨ x ∈ bs0) ↔ x ∈ es)
    have HS : Hid _ := And.intro hsa hsb
    have HO : Hid _ := And.intro hOa (And.intro hOb hbw)
    have HL : Hid (A = as0.length ∧ B = bs0.length) := ⟨hAl, hBl⟩
    rw [← hAl] at hla ⊢
    rw [← hBl] at hlb ⊢
    clear hsa hsb hOa hOb hbw has hbs hAl hBl HI HN g1 g2 g3 g4 g5 g6 g7 hc hm hn
    obtain ⟨w1, rfl⟩ : ∃ w1, w1 = wc := ⟨_, rfl⟩
    go_wp2_with fail
    go_loopg [5, 6, 7] (A + B) (fun q ov iv kv wr => ∃ (i k : Nat) (out : List Sy.Ed), q = (A - i) + (B - k) ∧ i ≤ A ∧ k ≤ B ∧ iv = .int .i64 i ∧ kv = .int .i64 k ∧ Sy.Mg as0 bs0 i k out ∧ BEdges.Own wr w1.heap.size ov out ∧ Below w1.heap.size w1 wr ∧ out.length ≤ i + k)
    case atStart => exact ⟨0, 0, [], rfl, Nat.zero_le _, Nat.zero_le _, rfl, rfl, Sy.Mg.start _ _, World.ownsRow_nil _ _ _ _, Below.refl _ _, Nat.le_refl _⟩
    case round =>
      obtain ⟨i, k, out, rfl, hi, hk, rfl, rfl, hM, hOo, hb, hol⟩ := hrel
      by_cases hmore : i < A ∨ k < B
      · obtain ⟨ao2, co, rfl⟩ := row_shape hOo
        obtain ⟨N, hNo⟩ : ∃ N, N = out.length := ⟨_, rfl⟩
        have HW : Hid _ := And.intro hM (And.intro hOo (And.intro hb (And.intro hNo hol)))
        have hNl : N ≤ 200000 := by omega
        rw [← hNo]
        clear hM hOo hb hNo hol
        obtain ⟨c, hc⟩ : ∃ c : Bool, c = true ∧ i < A ∧ (∀ f, bs0[k]? = some f → ∀ e, as0[i]? = some e → Sy.lt f e = false) ∨ c = false ∧ k < B ∧ (∀ f, bs0[k]? = some f → ∀ e, as0[i]? = some e → Sy.lt f e = true) := by
          by_cases h1 : i < A
          · by_cases h2 : k < B
            · cases h3 : Sy.lt (bs0[k]'(by have := HL.out.2; omega)) (as0[i]'(by have := HL.out.1; omega)) with
              | false => exact ⟨true, .inl ⟨rfl, h1, fun f hf e he => by obtain ⟨_, rfl⟩ := List.getElem?_eq_some_iff.1 hf; obtain ⟨_, rfl⟩ := List.getElem?_eq_some_iff.1 he; exact h3⟩⟩
              | true => exact ⟨false, .inr ⟨rfl, h2, fun f hf e he => by obtain ⟨_, rfl⟩ := List.getElem?_eq_some_iff.1 hf; obtain ⟨_, rfl⟩ := List.getElem?_eq_some_iff.1 he; exact h3⟩⟩
            · exact ⟨true, .inl ⟨rfl, h1, fun f hf => by have := (List.getElem?_eq_some_iff.1 hf).1; have := HL.out.2; omega⟩⟩
          · exact ⟨false, .inr ⟨rfl, by omega, fun f hf e he => by have := (List.getElem?_eq_some_iff.1 he).1; have := HL.out.1; omega⟩⟩
        have HC : Hid _ := hc
        obtain ⟨wq, rfl⟩ : ∃ wq, wq = wr := ⟨_, rfl⟩
        have hgl : w1.heap.size ≤ wq.heap.size := HW.out.2.2.1.size
        obtain ⟨wz, hwz⟩ : ∃ wz, wz = wq.alloc (.cells #[.int .i64 0, .int .i64 0, .int .i64 0] 66) := ⟨_, rfl⟩
        have hbz : Below wq.heap.size wq wz := by rw [hwz]; exact (Below.refl _ _).alloc (Nat.le_refl _) _
        have hgz : wz.heap[wq.heap.size]? = some (.cells #[.int .i64 0, .int .i64 0, .int .i64 0] 66 (0, 0)) := by rw [hwz]; exact (MapKept.heap_alloc wq _).1
        have H0 : Hid _ := And.intro hbz (And.intro hgz hwz)
        clear hc hbz hgz hwz
        by_cases hA : i < A
        · have p1 : (i : Int) < (A : Int) := by omega
          have p2 : decide ((i : Int) < (A : Int)) = true := decide_eq_true p1
          by_cases hB : k < B
          · have p3 : ¬ (B : Int) ≤ (k : Int) := by omega
            have p4 : decide ((B : Int) ≤ (k : Int)) = false := decide_eq_false p3
            have p5 : (0 : Int) ≤ (k : Int) := by omega
            have p6 : (k : Int) < (B : Int) := by omega
            have p7 : (0 : Int) ≤ (i : Int) := by omega
            obtain ⟨f, hf⟩ : ∃ f, bs0[k]? = some f := ⟨bs0[k]'(by have := HL.out.2; omega), List.getElem?_eq_getElem _⟩
            obtain ⟨e, he⟩ : ∃ e, as0[i]? = some e := ⟨as0[i]'(by have := HL.out.1; omega), List.getElem?_eq_getElem _⟩
            have hbz1 : Below w1.heap.size w1 wz := HW.out.2.2.1.trans (H0.out.1.mono hgl)
            obtain ⟨ga, rfl, e0, e1, e2⟩ := own_edge (trow_at (w' := wz) HO.out.1 fun b hb => hbz1.block b (HO.out.1.lt b hb).2) he
            obtain ⟨gb, rfl, f0, f1, f2⟩ := own_edge (trow_at (w' := wz) HO.out.2.1 fun b hb => hbz1.block b (HO.out.2.1.lt b hb).2) hf
            have HLess : Hid (∀ W, Calls Tryz.prog 112 #[.agg #[.int .i64 f.1, .int .i64 f.2.1, .int .i64 f.2.2], .agg #[.int .i64 e.1, .int .i64 e.2.1, .int .i64 e.2.2]] W fun r w' => r = .returned (.bool (Sy.lt f e)) ∧ Below W.heap.size W w') := (fun W => refLess_any f e W : ∀ W, Calls Tryz.prog 112 #[.agg #[.int .i64 f.1, .int .i64 f.2.1, .int .i64 f.2.2], .agg #[.int .i64 e.1, .int .i64 e.2.1, .int .i64 e.2.2]] W fun r w' => r = .returned (.bool (Sy.lt f e)) ∧ Below W.heap.size W w')
            have HCV : Hid (Value.bool (!Sy.lt f e) = Value.bool c) := (by
              rcases HC.out with ⟨rfl, _, h9⟩ | ⟨rfl, _, h9⟩
              · rw [h9 f hf e he]; rfl
              · rw [h9 f hf e he]; rfl : Value.bool (!Sy.lt f e) = Value.bool c)
            clear hf he hbz1 hmore hA hB
            go_upto_region 8 with fail
            rw [← H0.out.2.2]
            go_cut [57] (fun s57 wx => s57 = .bool c ∧ Below wz.heap.size wz wx)
            case first =>
              go_region_held3 (fun w' => w'.cell? ⟨gb, k * 3, none⟩ = some (.int .i64 f.1) ∧ w'.cell? ⟨gb, k * 3 + 1, none⟩ = some (.int .i64 f.2.1) ∧ w'.cell? ⟨gb, k * 3 + 2, none⟩ = some (.int .i64 f.2.2) ∧ w'.cell? ⟨ga, i * 3, none⟩ = some (.int .i64 e.1) ∧ w'.cell? ⟨ga, i * 3 + 1, none⟩ = some (.int .i64 e.2.1) ∧ w'.cell? ⟨ga, i * 3 + 2, none⟩ = some (.int .i64 e.2.2)) (go_keep)
                ((first
                  | (go_at_call 112; refine (HLess.out _).mono ?_; rintro r8 w8 ⟨rfl, hb8'⟩; have hb8 := below_of_drew3 hb8'; have f0 := cell_up f0 hb8; have f1 := cell_up f1 hb8; have f2 := cell_up f2 hb8; have e0 := cell_up e0 hb8; have e1 := cell_up e1 hb8; have e2 := cell_up e2 hb8; have H8 : Hid _ := hb8; clear hb8 hb8')
                  | fail))
              all_goals (refine Met.intro ?_; apply_assumption; refine Met.intro ?_; apply_assumption; (repeat apply Exists.intro); refine ⟨?rel, rfl⟩; case rel => exact ⟨by first | exact HCV.out | (rw [← HCV.out]; simp), by first | exact H8.out | exact below_drewN H8.out _⟩)
            case rest =>
              obtain ⟨rfl, hbc⟩ := hcut
              have hgc := (hbc.block _ (t_lt H0.out.2.1)).trans H0.out.2.1
              have hbq : Below wq.heap.size wq wc := H0.out.1.trans (hbc.mono H0.out.1.size)
              have hOc := trow_at (w' := wc) HW.out.2.1 fun b hb => hbq.block b (HW.out.2.1.lt b hb).2
              have hbw1 : Below w1.heap.size w1 wc := HW.out.2.2.1.trans (hbq.mono hgl)
              have y0 : wc.cell? ⟨wq.heap.size, 0, none⟩ = some (.int .i64 0) := cell0_of hgc rfl
              have y1 : wc.cell? ⟨wq.heap.size, 1, none⟩ = some (.int .i64 0) := cell0_of hgc rfl
              have y2 : wc.cell? ⟨wq.heap.size, 2, none⟩ = some (.int .i64 0) := cell0_of hgc rfl
              have z0 := blk_free hgc 0
              have z1 := blk_free hgc 1
              have z2 := blk_free hgc 2
              have HR : Hid _ := And.intro hOc (And.intro hbw1 (And.intro hgc hbq))
              clear hbc hgc hbq hOc hbw1
              clear e0 e1 e2 f0 f1 f2 p2 p3 p4 p5 p6 p7 HLess HCV
              cases c with
              | true =>
                obtain ⟨h9, hiA, hlt9⟩ | ⟨h9, _⟩ := HC.out
                · obtain ⟨x, hx⟩ : ∃ x, as0[i]? = some x := ⟨as0[i]'(by have := HL.out.1; omega), List.getElem?_eq_getElem _⟩
                  obtain ⟨gx, hgx, x0, x1, x2⟩ := own_edge (trow_at (w' := wc) HO.out.1 fun b hb => HR.out.2.1.block b (HO.out.1.lt b hb).2) hx
                  cases hgx
                  have hMn := HW.out.1.left HS.out.1 HS.out.2 hx (fun f hf => hlt9 f hf x hx)
                  have r0 : (0 : Int) ≤ (i : Int) := by omega
                  have r1 : (i : Int) < (A : Int) := by omega
                  have r2 : IntKind.i64.wrap ((i : Int) + 1) = (i : Int) + 1 := by rw [IntKind.wrap_i64]; omega
                  have HX : Hid (Sy.Mg as0 bs0 (i + 1) k (Sy.put out x)) := hMn
                  clear h9 hlt9 hx hMn
                  go_wp2_with fail
                  have hgs : ((((wc.setCell ⟨wq.heap.size, 0, none⟩ (.int .i64 x.1)).setCell ⟨wq.heap.size, 1, none⟩ (.int .i64 x.2.1)).setCell ⟨wq.heap.size, 2, none⟩ (.int .i64 x.2.2))).heap[wq.heap.size]? = some (.cells #[.int .i64 x.1, .int .i64 x.2.1, .int .i64 x.2.2] 66 (0, 0)) := heap_setCell_same _ _ 2 _ _ _ (heap_setCell_same _ _ 1 _ _ _ (heap_setCell_same _ _ 0 _ _ _ HR.out.2.2.1))
                  have hks : Kept (fun b => b = wq.heap.size) wc (((wc.setCell ⟨wq.heap.size, 0, none⟩ (.int .i64 x.1)).setCell ⟨wq.heap.size, 1, none⟩ (.int .i64 x.2.1)).setCell ⟨wq.heap.size, 2, none⟩ (.int .i64 x.2.2)) := ((Kept.setCell wc _ 0 _).trans (Kept.setCell _ _ 1 _)).trans (Kept.setCell _ _ 2 _)
                  obtain ⟨ws, hws⟩ : ∃ ws, ws = ((wc.setCell ⟨wq.heap.size, 0, none⟩ (.int .i64 x.1)).setCell ⟨wq.heap.size, 1, none⟩ (.int .i64 x.2.1)).setCell ⟨wq.heap.size, 2, none⟩ (.int .i64 x.2.2) := ⟨_, rfl⟩
                  rw [← hws] at hgs hks ⊢
                  have hOs : BEdges.Own ws w1.heap.size (.slice ao2 out.length co) out := own_up HR.out.1 hks fun b hb e => by have := (HW.out.2.1.lt b hb).2; omega
                  have hbs : Below w1.heap.size w1 ws := HR.out.2.1.trans (hks.below HR.out.2.1.size fun b hb => by omega)
                  have u0 : ws.cell? ⟨wq.heap.size, 0, none⟩ = some (.int .i64 x.1) := cell0_of hgs rfl
                  have u1 : ws.cell? ⟨wq.heap.size, 1, none⟩ = some (.int .i64 x.2.1) := cell0_of hgs rfl
                  have u2 : ws.cell? ⟨wq.heap.size, 2, none⟩ = some (.int .i64 x.2.2) := cell0_of hgs rfl
                  have HT : Hid _ := And.intro hOs (And.intro hbs hgs)
                  clear hws hgs hks hOs hbs y0 y1 y2 z0 z1 z2 x0 x1 x2
                  by_cases hN0 : N = 0
                  · have s1 : ((N : Int) == 0) = true := by simp; omega
                    have HP : Hid (¬ out.getLast? = some x) := (by
                      have h8 : out = [] := List.eq_nil_of_length_eq_zero (by have := HW.out.2.2.2.1; omega)
                      rw [h8]; simp : ¬ out.getLast? = some x)
                    clear hN0
                    go_wp2_with fail
                    go_quiet (fail)
                    have hml : N + 1 ≤ maxLen := by unfold maxLen; omega
                    have hby : (N + 1) * 24 ≤ 140737488355328 := by omega
                    have hOs2 : ws.ownsRow w1.heap.size 66 3 (.slice ao2 N co) N (BEdges.C out) := by have h8 := HT.out.1; unfold BEdges.Own at h8; rw [← HW.out.2.2.2.1] at h8; exact h8
                    obtain ⟨wt, hwt⟩ : ∃ wt, wt = ws.drewN nq := ⟨_, rfl⟩
                    have v0 : wt.cell? ⟨wq.heap.size, 0, none⟩ = some (.int .i64 x.1) := by rw [hwt]; exact u0
                    have v1 : wt.cell? ⟨wq.heap.size, 1, none⟩ = some (.int .i64 x.2.1) := by rw [hwt]; exact u1
                    have v2 : wt.cell? ⟨wq.heap.size, 2, none⟩ = some (.int .i64 x.2.2) := by rw [hwt]; exact u2
                    have hOt : wt.ownsRow w1.heap.size 66 3 (.slice ao2 N co) N (BEdges.C out) := by rw [hwt]; exact trow_at hOs2 fun _ _ => rfl
                    have hbt : Below w1.heap.size w1 wt := by rw [hwt]; exact below_drewN HT.out.2.1 _
                    rw [← hwt]
                    have hle : w1.heap.size ≤ (wt.alloc (.cells #[.int .i64 x.1, .int .i64 x.2.1, .int .i64 x.2.2] 66)).heap.size := by have := hbt.size; simp; omega
                    have HU : Hid _ := And.intro hOt hbt
                    clear hwt hOs2 hOt hbt u0 u1 u2
                    go_wp2_with (at_builtin; refine wpList_append_own_at _ rfl _ _ 22 rfl w1.heap.size 66 i0 (.agg #[.int .i64 0, .int .i64 0, .int .i64 0]) 3 24 Tryz.underlying22 hi0 hz0 hz1 hz2 rfl (by decide) (.slice ao2 N co) N (BEdges.C out) rfl (HU.out.1.alloc _) ⟨wt.heap.size, 0, none⟩ 1 1 [.int .i64 x.1, .int .i64 x.2.1, .int .i64 x.2.2] rfl rfl (World.news_of_block (cs := #[.int .i64 x.1, .int .i64 x.2.1, .int .i64 x.2.2]) (t := 66) (fr := (0, 0)) (heap_alloc_new wt _)) (by simp [Value.oneCell']) hml hby hle ?_; intro w2v w2 hown2 hgrow2 hnil2 hat2; have H2 : Hid _ := And.intro hown2 hgrow2; clear hown2 hgrow2 hnil2 hat2)
                    go_roundg ((A - (i + 1)) + (B - (k)))
                    case measure => omega
                    case rel => exact ⟨i + 1, k, out ++ [x], rfl, by omega, by omega, by first | rfl | go_num, by first | rfl | go_num, by have h8 := HX.out; unfold Sy.put at h8; rw [if_neg HP.out] at h8; exact h8, by unfold BEdges.Own; rw [BEdges.C_snoc, List.length_append, ← HW.out.2.2.2.1]; exact H2.out.1, HU.out.2.trans ((grown_alloc H2.out.2).below HU.out.2.size fun b hb => (HU.out.1.lt b hb).1), by rw [List.length_append]; have := HW.out.2.2.2.2; simp; omega⟩
                  · have s1 : ((N : Int) == 0) = false := by simp; omega
                    obtain ⟨l, hl⟩ : ∃ l, out[N - 1]? = some l := ⟨out[N - 1]'(by have := HW.out.2.2.2.1; omega), List.getElem?_eq_getElem _⟩
                    obtain ⟨gl, hgl2, l0, l1, l2⟩ := own_edge HT.out.1 hl
                    cases hgl2
                    have s2 : IntKind.i64.wrap ((N : Int) - 1) = ((N - 1 : Nat) : Int) := by rw [IntKind.wrap_i64]; omega
                    have s3 : (0 : Int) ≤ ((N - 1 : Nat) : Int) := by omega
                    have s4 : ((N - 1 : Nat) : Int) < (N : Int) := by omega
                    have hlast : out.getLast? = some l := by rw [List.getLast?_eq_getElem?, ← HW.out.2.2.2.1]; exact hl
                    obtain ⟨M, hM⟩ : ∃ M, M = N - 1 := ⟨_, rfl⟩
                    rw [← hM] at l0 l1 l2 s2 s3 s4
                    have HM : Hid _ := hM
                    have HLa : Hid (out.getLast? = some l) := hlast
                    clear hM hl hlast hN0
                    by_cases hlx : l = x
                    · subst hlx
                      go_wp2_with fail
                      go_quiet (fail)
                      go_wp2_with fail
                      go_roundg ((A - (i + 1)) + (B - (k)))
                      case measure => omega
                      case rel => exact ⟨i + 1, k, out, rfl, by omega, by omega, by first | rfl | go_num, by first | rfl | go_num, by have h8 := HX.out; unfold Sy.put at h8; rw [if_pos HLa.out] at h8; exact h8, by have h8 := HT.out.1; rw [← HW.out.2.2.2.1] at h8; exact trow_at h8 fun _ _ => rfl, below_drewN HT.out.2.1 _, by have := HW.out.2.2.2.2; omega⟩
                    · have HP : Hid (¬ out.getLast? = some x) := (by rw [HLa.out]; intro e; exact hlx (Option.some.inj e) : ¬ out.getLast? = some x)
                      have hd : (l.1 == x.1) = false ∨ (l.1 == x.1) = true ∧ ((l.2.1 == x.2.1) = false ∨ (l.2.1 == x.2.1) = true ∧ (l.2.2 == x.2.2) = false) := by
                        by_cases d1 : l.1 = x.1
                        · by_cases d2 : l.2.1 = x.2.1
                          · right
                            refine ⟨by simpa using d1, .inr ⟨by simpa using d2, ?_⟩⟩
                            have : ¬ l.2.2 = x.2.2 := fun d3 => hlx (by rw [Prod.ext_iff, Prod.ext_iff]; exact ⟨d1, d2, d3⟩)
                            simpa using this
                          · exact .inr ⟨by simpa using d1, .inl (by simpa using d2)⟩
                        · exact .inl (by simpa using d1)
                      clear hlx
                      rcases hd with d1 | ⟨d1, d2 | ⟨d2, d3⟩⟩
                      all_goals
                        go_wp2_with fail
                        go_quiet (fail)
                        have hml : N + 1 ≤ maxLen := by unfold maxLen; omega
                        have hby : (N + 1) * 24 ≤ 140737488355328 := by omega
                        have hOs2 : ws.ownsRow w1.heap.size 66 3 (.slice (some ⟨gl, 0, none⟩) N co) N (BEdges.C out) := by have h8 := HT.out.1; unfold BEdges.Own at h8; rw [← HW.out.2.2.2.1] at h8; exact h8
                        obtain ⟨wt, hwt⟩ : ∃ wt, wt = ws.drewN nq := ⟨_, rfl⟩
                        have v0 : wt.cell? ⟨wq.heap.size, 0, none⟩ = some (.int .i64 x.1) := by rw [hwt]; exact u0
                        have v1 : wt.cell? ⟨wq.heap.size, 1, none⟩ = some (.int .i64 x.2.1) := by rw [hwt]; exact u1
                        have v2 : wt.cell? ⟨wq.heap.size, 2, none⟩ = some (.int .i64 x.2.2) := by rw [hwt]; exact u2
                        have hOt : wt.ownsRow w1.heap.size 66 3 (.slice (some ⟨gl, 0, none⟩) N co) N (BEdges.C out) := by rw [hwt]; exact trow_at hOs2 fun _ _ => rfl
                        have hbt : Below w1.heap.size w1 wt := by rw [hwt]; exact below_drewN HT.out.2.1 _
                        rw [← hwt]
                        have hle : w1.heap.size ≤ (wt.alloc (.cells #[.int .i64 x.1, .int .i64 x.2.1, .int .i64 x.2.2] 66)).heap.size := by have := hbt.size; simp; omega
                        have HU : Hid _ := And.intro hOt hbt
                        clear hwt hOs2 hOt hbt u0 u1 u2
                        go_wp2_with (at_builtin; refine wpList_append_own_at _ rfl _ _ 22 rfl w1.heap.size 66 i0 (.agg #[.int .i64 0, .int .i64 0, .int .i64 0]) 3 24 Tryz.underlying22 hi0 hz0 hz1 hz2 rfl (by decide) (.slice (some ⟨gl, 0, none⟩) N co) N (BEdges.C out) rfl (HU.out.1.alloc _) ⟨wt.heap.size, 0, none⟩ 1 1 [.int .i64 x.1, .int .i64 x.2.1, .int .i64 x.2.2] rfl rfl (World.news_of_block (cs := #[.int .i64 x.1, .int .i64 x.2.1, .int .i64 x.2.2]) (t := 66) (fr := (0, 0)) (heap_alloc_new wt _)) (by simp [Value.oneCell']) hml hby hle ?_; intro w2v w2 hown2 hgrow2 hnil2 hat2; have H2 : Hid _ := And.intro hown2 hgrow2; clear hown2 hgrow2 hnil2 hat2)
                        go_roundg ((A - (i + 1)) + (B - (k)))
                        case measure => omega
                        case rel => exact ⟨i + 1, k, out ++ [x], rfl, by omega, by omega, by first | rfl | go_num, by first | rfl | go_num, by have h8 := HX.out; unfold Sy.put at h8; rw [if_neg HP.out] at h8; exact h8, by unfold BEdges.Own; rw [BEdges.C_snoc, List.length_append, ← HW.out.2.2.2.1]; exact H2.out.1, HU.out.2.trans ((grown_alloc H2.out.2).below HU.out.2.size fun b hb => (HU.out.1.lt b hb).1), by rw [List.length_append]; have := HW.out.2.2.2.2; simp; omega⟩
                · cases h9
              | false =>
                obtain ⟨h9, _⟩ | ⟨h9, hkB, hlt9⟩ := HC.out
                · cases h9
                · obtain ⟨x, hx⟩ : ∃ x, bs0[k]? = some x := ⟨bs0[k]'(by have := HL.out.2; omega), List.getElem?_eq_getElem _⟩
                  obtain ⟨gx, hgx, x0, x1, x2⟩ := own_edge (trow_at (w' := wc) HO.out.2.1 fun b hb => HR.out.2.1.block b (HO.out.2.1.lt b hb).2) hx
                  cases hgx
                  have hMn := (HW.out.1.swap.left HS.out.2 HS.out.1 hx (fun f hf => Sy.lt_asymm (hlt9 x hx f hf))).swap
                  have r0 : (0 : Int) ≤ (k : Int) := by omega
                  have r1 : (k : Int) < (B : Int) := by omega
                  have r2 : IntKind.i64.wrap ((k : Int) + 1) = (k : Int) + 1 := by rw [IntKind.wrap_i64]; omega
                  have HX : Hid (Sy.Mg as0 bs0 i (k + 1) (Sy.put out x)) := hMn
                  clear h9 hlt9 hx hMn
                  go_wp2_with fail
                  have hgs : ((((wc.setCell ⟨wq.heap.size, 0, none⟩ (.int .i64 x.1)).setCell ⟨wq.heap.size, 1, none⟩ (.int .i64 x.2.1)).setCell ⟨wq.heap.size, 2, none⟩ (.int .i64 x.2.2))).heap[wq.heap.size]? = some (.cells #[.int .i64 x.1, .int .i64 x.2.1, .int .i64 x.2.2] 66 (0, 0)) := heap_setCell_same _ _ 2 _ _ _ (heap_setCell_same _ _ 1 _ _ _ (heap_setCell_same _ _ 0 _ _ _ HR.out.2.2.1))
                  have hks : Kept (fun b => b = wq.heap.size) wc (((wc.setCell ⟨wq.heap.size, 0, none⟩ (.int .i64 x.1)).setCell ⟨wq.heap.size, 1, none⟩ (.int .i64 x.2.1)).setCell ⟨wq.heap.size, 2, none⟩ (.int .i64 x.2.2)) := ((Kept.setCell wc _ 0 _).trans (Kept.setCell _ _ 1 _)).trans (Kept.setCell _ _ 2 _)
                  obtain ⟨ws, hws⟩ : ∃ ws, ws = ((wc.setCell ⟨wq.heap.size, 0, none⟩ (.int .i64 x.1)).setCell ⟨wq.heap.size, 1, none⟩ (.int .i64 x.2.1)).setCell ⟨wq.heap.size, 2, none⟩ (.int .i64 x.2.2) := ⟨_, rfl⟩
                  rw [← hws] at hgs hks ⊢
                  have hOs : BEdges.Own ws w1.heap.size (.slice ao2 out.length co) out := own_up HR.out.1 hks fun b hb e => by have := (HW.out.2.1.lt b hb).2; omega
                  have hbs : Below w1.heap.size w1 ws := HR.out.2.1.trans (hks.below HR.out.2.1.size fun b hb => by omega)
                  have u0 : ws.cell? ⟨wq.heap.size, 0, none⟩ = some (.int .i64 x.1) := cell0_of hgs rfl
                  have u1 : ws.cell? ⟨wq.heap.size, 1, none⟩ = some (.int .i64 x.2.1) := cell0_of hgs rfl
                  have u2 : ws.cell? ⟨wq.heap.size, 2, none⟩ = some (.int .i64 x.2.2) := cell0_of hgs rfl
                  have HT : Hid _ := And.intro hOs (And.intro hbs hgs)
                  clear hws hgs hks hOs hbs y0 y1 y2 z0 z1 z2 x0 x1 x2
                  by_cases hN0 : N = 0
                  · have s1 : ((N : Int) == 0) = true := by simp; omega
                    have HP : Hid (¬ out.getLast? = some x) := (by
                      have h8 : out = [] := List.eq_nil_of_length_eq_zero (by have := HW.out.2.2.2.1; omega)
                      rw [h8]; simp : ¬ out.getLast? = some x)
                    clear hN0
                    go_wp2_with fail
                    go_quiet (fail)
                    have hml : N + 1 ≤ maxLen := by unfold maxLen; omega
                    have hby : (N + 1) * 24 ≤ 140737488355328 := by omega
                    have hOs2 : ws.ownsRow w1.heap.size 66 3 (.slice ao2 N co) N (BEdges.C out) := by have h8 := HT.out.1; unfold BEdges.Own at h8; rw [← HW.out.2.2.2.1] at h8; exact h8
                    obtain ⟨wt, hwt⟩ : ∃ wt, wt = ws.drewN nq := ⟨_, rfl⟩
                    have v0 : wt.cell? ⟨wq.heap.size, 0, none⟩ = some (.int .i64 x.1) := by rw [hwt]; exact u0
                    have v1 : wt.cell? ⟨wq.heap.size, 1, none⟩ = some (.int .i64 x.2.1) := by rw [hwt]; exact u1
                    have v2 : wt.cell? ⟨wq.heap.size, 2, none⟩ = some (.int .i64 x.2.2) := by rw [hwt]; exact u2
                    have hOt : wt.ownsRow w1.heap.size 66 3 (.slice ao2 N co) N (BEdges.C out) := by rw [hwt]; exact trow_at hOs2 fun _ _ => rfl
                    have hbt : Below w1.heap.size w1 wt := by rw [hwt]; exact below_drewN HT.out.2.1 _
                    rw [← hwt]
                    have hle : w1.heap.size ≤ (wt.alloc (.cells #[.int .i64 x.1, .int .i64 x.2.1, .int .i64 x.2.2] 66)).heap.size := by have := hbt.size; simp; omega
                    have HU : Hid _ := And.intro hOt hbt
                    clear hwt hOs2 hOt hbt u0 u1 u2
                    go_wp2_with (at_builtin; refine wpList_append_own_at _ rfl _ _ 22 rfl w1.heap.size 66 i0 (.agg #[.int .i64 0, .int .i64 0, .int .i64 0]) 3 24 Tryz.underlying22 hi0 hz0 hz1 hz2 rfl (by decide) (.slice ao2 N co) N (BEdges.C out) rfl (HU.out.1.alloc _) ⟨wt.heap.size, 0, none⟩ 1 1 [.int .i64 x.1, .int .i64 x.2.1, .int .i64 x.2.2] rfl rfl (World.news_of_block (cs := #[.int .i64 x.1, .int .i64 x.2.1, .int .i64 x.2.2]) (t := 66) (fr := (0, 0)) (heap_alloc_new wt _)) (by simp [Value.oneCell']) hml hby hle ?_; intro w2v w2 hown2 hgrow2 hnil2 hat2; have H2 : Hid _ := And.intro hown2 hgrow2; clear hown2 hgrow2 hnil2 hat2)
                    go_roundg ((A - (i)) + (B - (k + 1)))
                    case measure => omega
                    case rel => exact ⟨i, k + 1, out ++ [x], rfl, by omega, by omega, by first | rfl | go_num, by first | rfl | go_num, by have h8 := HX.out; unfold Sy.put at h8; rw [if_neg HP.out] at h8; exact h8, by unfold BEdges.Own; rw [BEdges.C_snoc, List.length_append, ← HW.out.2.2.2.1]; exact H2.out.1, HU.out.2.trans ((grown_alloc H2.out.2).below HU.out.2.size fun b hb => (HU.out.1.lt b hb).1), by rw [List.length_append]; have := HW.out.2.2.2.2; simp; omega⟩
                  · have s1 : ((N : Int) == 0) = false := by simp; omega
                    obtain ⟨l, hl⟩ : ∃ l, out[N - 1]? = some l := ⟨out[N - 1]'(by have := HW.out.2.2.2.1; omega), List.getElem?_eq_getElem _⟩
                    obtain ⟨gl, hgl2, l0, l1, l2⟩ := own_edge HT.out.1 hl
                    cases hgl2
                    have s2 : IntKind.i64.wrap ((N : Int) - 1) = ((N - 1 : Nat) : Int) := by rw [IntKind.wrap_i64]; omega
                    have s3 : (0 : Int) ≤ ((N - 1 : Nat) : Int) := by omega
                    have s4 : ((N - 1 : Nat) : Int) < (N : Int) := by omega
                    have hlast : out.getLast? = some l := by rw [List.getLast?_eq_getElem?, ← HW.out.2.2.2.1]; exact hl
                    obtain ⟨M, hM⟩ : ∃ M, M = N - 1 := ⟨_, rfl⟩
                    rw [← hM] at l0 l1 l2 s2 s3 s4
                    have HM : Hid _ := hM
                    have HLa : Hid (out.getLast? = some l) := hlast
                    clear hM hl hlast hN0
                    by_cases hlx : l = x
                    · subst hlx
                      go_wp2_with fail
                      go_quiet (fail)
                      go_wp2_with fail
                      go_roundg ((A - (i)) + (B - (k + 1)))
                      case measure => omega
                      case rel => exact ⟨i, k + 1, out, rfl, by omega, by omega, by first | rfl | go_num, by first | rfl | go_num, by have h8 := HX.out; unfold Sy.put at h8; rw [if_pos HLa.out] at h8; exact h8, by have h8 := HT.out.1; rw [← HW.out.2.2.2.1] at h8; exact trow_at h8 fun _ _ => rfl, below_drewN HT.out.2.1 _, by have := HW.out.2.2.2.2; omega⟩
                    · have HP : Hid (¬ out.getLast? = some x) := (by rw [HLa.out]; intro e; exact hlx (Option.some.inj e) : ¬ out.getLast? = some x)
                      have hd : (l.1 == x.1) = false ∨ (l.1 == x.1) = true ∧ ((l.2.1 == x.2.1) = false ∨ (l.2.1 == x.2.1) = true ∧ (l.2.2 == x.2.2) = false) := by
                        by_cases d1 : l.1 = x.1
                        · by_cases d2 : l.2.1 = x.2.1
                          · right
                            refine ⟨by simpa using d1, .inr ⟨by simpa using d2, ?_⟩⟩
                            have : ¬ l.2.2 = x.2.2 := fun d3 => hlx (by rw [Prod.ext_iff, Prod.ext_iff]; exact ⟨d1, d2, d3⟩)
                            simpa using this
                          · exact .inr ⟨by simpa using d1, .inl (by simpa using d2)⟩
                        · exact .inl (by simpa using d1)
                      clear hlx
                      rcases hd with d1 | ⟨d1, d2 | ⟨d2, d3⟩⟩
                      all_goals
                        go_wp2_with fail
                        go_quiet (fail)
                        have hml : N + 1 ≤ maxLen := by unfold maxLen; omega
                        have hby : (N + 1) * 24 ≤ 140737488355328 := by omega
                        have hOs2 : ws.ownsRow w1.heap.size 66 3 (.slice (some ⟨gl, 0, none⟩) N co) N (BEdges.C out) := by have h8 := HT.out.1; unfold BEdges.Own at h8; rw [← HW.out.2.2.2.1] at h8; exact h8
                        obtain ⟨wt, hwt⟩ : ∃ wt, wt = ws.drewN nq := ⟨_, rfl⟩
                        have v0 : wt.cell? ⟨wq.heap.size, 0, none⟩ = some (.int .i64 x.1) := by rw [hwt]; exact u0
                        have v1 : wt.cell? ⟨wq.heap.size, 1, none⟩ = some (.int .i64 x.2.1) := by rw [hwt]; exact u1
                        have v2 : wt.cell? ⟨wq.heap.size, 2, none⟩ = some (.int .i64 x.2.2) := by rw [hwt]; exact u2
                        have hOt : wt.ownsRow w1.heap.size 66 3 (.slice (some ⟨gl, 0, none⟩) N co) N (BEdges.C out) := by rw [hwt]; exact trow_at hOs2 fun _ _ => rfl
                        have hbt : Below w1.heap.size w1 wt := by rw [hwt]; exact below_drewN HT.out.2.1 _
                        rw [← hwt]
                        have hle : w1.heap.size ≤ (wt.alloc (.cells #[.int .i64 x.1, .int .i64 x.2.1, .int .i64 x.2.2] 66)).heap.size := by have := hbt.size; simp; omega
                        have HU : Hid _ := And.intro hOt hbt
                        clear hwt hOs2 hOt hbt u0 u1 u2
                        go_wp2_with (at_builtin; refine wpList_append_own_at _ rfl _ _ 22 rfl w1.heap.size 66 i0 (.agg #[.int .i64 0, .int .i64 0, .int .i64 0]) 3 24 Tryz.underlying22 hi0 hz0 hz1 hz2 rfl (by decide) (.slice (some ⟨gl, 0, none⟩) N co) N (BEdges.C out) rfl (HU.out.1.alloc _) ⟨wt.heap.size, 0, none⟩ 1 1 [.int .i64 x.1, .int .i64 x.2.1, .int .i64 x.2.2] rfl rfl (World.news_of_block (cs := #[.int .i64 x.1, .int .i64 x.2.1, .int .i64 x.2.2]) (t := 66) (fr := (0, 0)) (heap_alloc_new wt _)) (by simp [Value.oneCell']) hml hby hle ?_; intro w2v w2 hown2 hgrow2 hnil2 hat2; have H2 : Hid _ := And.intro hown2 hgrow2; clear hown2 hgrow2 hnil2 hat2)
                        go_roundg ((A - (i)) + (B - (k + 1)))
                        case measure => omega
                        case rel => exact ⟨i, k + 1, out ++ [x], rfl, by omega, by omega, by first | rfl | go_num, by first | rfl | go_num, by have h8 := HX.out; unfold Sy.put at h8; rw [if_neg HP.out] at h8; exact h8, by unfold BEdges.Own; rw [BEdges.C_snoc, List.length_append, ← HW.out.2.2.2.1]; exact H2.out.1, HU.out.2.trans ((grown_alloc H2.out.2).below HU.out.2.size fun b hb => (HU.out.1.lt b hb).1), by rw [List.length_append]; have := HW.out.2.2.2.2; simp; omega⟩
          · have p3 : (B : Int) ≤ (k : Int) := by omega
            have p4 : decide ((B : Int) ≤ (k : Int)) = true := decide_eq_true p3
            obtain rfl : c = true := by
              rcases HC.out with h8 | h8
              · exact h8.1
              · exact absurd h8.2.1 (by omega)
            clear hmore hA hB
            go_upto_region 8 with fail
            rw [← H0.out.2.2]
            go_cut [57] (fun s57 wx => s57 = .bool true ∧ Below wz.heap.size wz wx)
            case first =>
              go_quiet (fail)
              refine Met.intro ?_; apply_assumption; refine Met.intro ?_; apply_assumption; (repeat apply Exists.intro); refine ⟨?rel, rfl⟩
              case rel => exact ⟨rfl, below_drewN (Below.refl _ _) _⟩
            case rest =>
              obtain ⟨rfl, hbc⟩ := hcut
              have hgc := (hbc.block _ (t_lt H0.out.2.1)).trans H0.out.2.1
              have hbq : Below wq.heap.size wq wc := H0.out.1.trans (hbc.mono H0.out.1.size)
              have hOc := trow_at (w' := wc) HW.out.2.1 fun b hb => hbq.block b (HW.out.2.1.lt b hb).2
              have hbw1 : Below w1.heap.size w1 wc := HW.out.2.2.1.trans (hbq.mono hgl)
              have y0 : wc.cell? ⟨wq.heap.size, 0, none⟩ = some (.int .i64 0) := cell0_of hgc rfl
              have y1 : wc.cell? ⟨wq.heap.size, 1, none⟩ = some (.int .i64 0) := cell0_of hgc rfl
              have y2 : wc.cell? ⟨wq.heap.size, 2, none⟩ = some (.int .i64 0) := cell0_of hgc rfl
              have z0 := blk_free hgc 0
              have z1 := blk_free hgc 1
              have z2 := blk_free hgc 2
              have HR : Hid _ := And.intro hOc (And.intro hbw1 (And.intro hgc hbq))
              clear hbc hgc hbq hOc hbw1
              clear p2 p4
              obtain ⟨h9, hiA, hlt9⟩ | ⟨h9, _⟩ := HC.out
              · obtain ⟨x, hx⟩ : ∃ x, as0[i]? = some x := ⟨as0[i]'(by have := HL.out.1; omega), List.getElem?_eq_getElem _⟩
                obtain ⟨gx, hgx, x0, x1, x2⟩ := own_edge (trow_at (w' := wc) HO.out.1 fun b hb => HR.out.2.1.block b (HO.out.1.lt b hb).2) hx
                cases hgx
                have hMn := HW.out.1.left HS.out.1 HS.out.2 hx (fun f hf => hlt9 f hf x hx)
                have r0 : (0 : Int) ≤ (i : Int) := by omega
                have r1 : (i : Int) < (A : Int) := by omega
                have r2 : IntKind.i64.wrap ((i : Int) + 1) = (i : Int) + 1 := by rw [IntKind.wrap_i64]; omega
                have HX : Hid (Sy.Mg as0 bs0 (i + 1) k (Sy.put out x)) := hMn
                clear h9 hlt9 hx hMn
                go_wp2_with fail
                have hgs : ((((wc.setCell ⟨wq.heap.size, 0, none⟩ (.int .i64 x.1)).setCell ⟨wq.heap.size, 1, none⟩ (.int .i64 x.2.1)).setCell ⟨wq.heap.size, 2, none⟩ (.int .i64 x.2.2))).heap[wq.heap.size]? = some (.cells #[.int .i64 x.1, .int .i64 x.2.1, .int .i64 x.2.2] 66 (0, 0)) := heap_setCell_same _ _ 2 _ _ _ (heap_setCell_same _ _ 1 _ _ _ (heap_setCell_same _ _ 0 _ _ _ HR.out.2.2.1))
                have hks : Kept (fun b => b = wq.heap.size) wc (((wc.setCell ⟨wq.heap.size, 0, none⟩ (.int .i64 x.1)).setCell ⟨wq.heap.size, 1, none⟩ (.int .i64 x.2.1)).setCell ⟨wq.heap.size, 2, none⟩ (.int .i64 x.2.2)) := ((Kept.setCell wc _ 0 _).trans (Kept.setCell _ _ 1 _)).trans (Kept.setCell _ _ 2 _)
                obtain ⟨ws, hws⟩ : ∃ ws, ws = ((wc.setCell ⟨wq.heap.size, 0, none⟩ (.int .i64 x.1)).setCell ⟨wq.heap.size, 1, none⟩ (.int .i64 x.2.1)).setCell ⟨wq.heap.size, 2, none⟩ (.int .i64 x.2.2) := ⟨_, rfl⟩
                rw [← hws] at hgs hks ⊢
                have hOs : BEdges.Own ws w1.heap.size (.slice ao2 out.length co) out := own_up HR.out.1 hks fun b hb e => by have := (HW.out.2.1.lt b hb).2; omega
                have hbs : Below w1.heap.size w1 ws := HR.out.2.1.trans (hks.below HR.out.2.1.size fun b hb => by omega)
                have u0 : ws.cell? ⟨wq.heap.size, 0, none⟩ = some (.int .i64 x.1) := cell0_of hgs rfl
                have u1 : ws.cell? ⟨wq.heap.size, 1, none⟩ = some (.int .i64 x.2.1) := cell0_of hgs rfl
                have u2 : ws.cell? ⟨wq.heap.size, 2, none⟩ = some (.int .i64 x.2.2) := cell0_of hgs rfl
                have HT : Hid _ := And.intro hOs (And.intro hbs hgs)
                clear hws hgs hks hOs hbs y0 y1 y2 z0 z1 z2 x0 x1 x2
                by_cases hN0 : N = 0
                · have s1 : ((N : Int) == 0) = true := by simp; omega
                  have HP : Hid (¬ out.getLast? = some x) := (by
                    have h8 : out = [] := List.eq_nil_of_length_eq_zero (by have := HW.out.2.2.2.1; omega)
                    rw [h8]; simp : ¬ out.getLast? = some x)
                  clear hN0
                  go_wp2_with fail
                  go_quiet (fail)
                  have hml : N + 1 ≤ maxLen := by unfold maxLen; omega
                  have hby : (N + 1) * 24 ≤ 140737488355328 := by omega
                  have hOs2 : ws.ownsRow w1.heap.size 66 3 (.slice ao2 N co) N (BEdges.C out) := by have h8 := HT.out.1; unfold BEdges.Own at h8; rw [← HW.out.2.2.2.1] at h8; exact h8
                  obtain ⟨wt, hwt⟩ : ∃ wt, wt = ws.drewN nq := ⟨_, rfl⟩
                  have v0 : wt.cell? ⟨wq.heap.size, 0, none⟩ = some (.int .i64 x.1) := by rw [hwt]; exact u0
                  have v1 : wt.cell? ⟨wq.heap.size, 1, none⟩ = some (.int .i64 x.2.1) := by rw [hwt]; exact u1
                  have v2 : wt.cell? ⟨wq.heap.size, 2, none⟩ = some (.int .i64 x.2.2) := by rw [hwt]; exact u2
                  have hOt : wt.ownsRow w1.heap.size 66 3 (.slice ao2 N co) N (BEdges.C out) := by rw [hwt]; exact trow_at hOs2 fun _ _ => rfl
                  have hbt : Below w1.heap.size w1 wt := by rw [hwt]; exact below_drewN HT.out.2.1 _
                  rw [← hwt]
                  have hle : w1.heap.size ≤ (wt.alloc (.cells #[.int .i64 x.1, .int .i64 x.2.1, .int .i64 x.2.2] 66)).heap.size := by have := hbt.size; simp; omega
                  have HU : Hid _ := And.intro hOt hbt
                  clear hwt hOs2 hOt hbt u0 u1 u2
                  go_wp2_with (at_builtin; refine wpList_append_own_at _ rfl _ _ 22 rfl w1.heap.size 66 i0 (.agg #[.int .i64 0, .int .i64 0, .int .i64 0]) 3 24 Tryz.underlying22 hi0 hz0 hz1 hz2 rfl (by decide) (.slice ao2 N co) N (BEdges.C out) rfl (HU.out.1.alloc _) ⟨wt.heap.size, 0, none⟩ 1 1 [.int .i64 x.1, .int .i64 x.2.1, .int .i64 x.2.2] rfl rfl (World.news_of_block (cs := #[.int .i64 x.1, .int .i64 x.2.1, .int .i64 x.2.2]) (t := 66) (fr := (0, 0)) (heap_alloc_new wt _)) (by simp [Value.oneCell']) hml hby hle ?_; intro w2v w2 hown2 hgrow2 hnil2 hat2; have H2 : Hid _ := And.intro hown2 hgrow2; clear hown2 hgrow2 hnil2 hat2)
                  go_roundg ((A - (i + 1)) + (B - (k)))
                  case measure => omega
                  case rel => exact ⟨i + 1, k, out ++ [x], rfl, by omega, by omega, by first | rfl | go_num, by first | rfl | go_num, by have h8 := HX.out; unfold Sy.put at h8; rw [if_neg HP.out] at h8; exact h8, by unfold BEdges.Own; rw [BEdges.C_snoc, List.length_append, ← HW.out.2.2.2.1]; exact H2.out.1, HU.out.2.trans ((grown_alloc H2.out.2).below HU.out.2.size fun b hb => (HU.out.1.lt b hb).1), by rw [List.length_append]; have := HW.out.2.2.2.2; simp; omega⟩
                · have s1 : ((N : Int) == 0) = false := by simp; omega
                  obtain ⟨l, hl⟩ : ∃ l, out[N - 1]? = some l := ⟨out[N - 1]'(by have := HW.out.2.2.2.1; omega), List.getElem?_eq_getElem _⟩
                  obtain ⟨gl, hgl2, l0, l1, l2⟩ := own_edge HT.out.1 hl
                  cases hgl2
                  have s2 : IntKind.i64.wrap ((N : Int) - 1) = ((N - 1 : Nat) : Int) := by rw [IntKind.wrap_i64]; omega
                  have s3 : (0 : Int) ≤ ((N - 1 : Nat) : Int) := by omega
                  have s4 : ((N - 1 : Nat) : Int) < (N : Int) := by omega
                  have hlast : out.getLast? = some l := by rw [List.getLast?_eq_getElem?, ← HW.out.2.2.2.1]; exact hl
                  obtain ⟨M, hM⟩ : ∃ M, M = N - 1 := ⟨_, rfl⟩
                  rw [← hM] at l0 l1 l2 s2 s3 s4
                  have HM : Hid _ := hM
                  have HLa : Hid (out.getLast? = some l) := hlast
                  clear hM hl hlast hN0
                  by_cases hlx : l = x
                  · subst hlx
                    go_wp2_with fail
                    go_quiet (fail)
                    go_wp2_with fail
                    go_roundg ((A - (i + 1)) + (B - (k)))
                    case measure => omega
                    case rel => exact ⟨i + 1, k, out, rfl, by omega, by omega, by first | rfl | go_num, by first | rfl | go_num, by have h8 := HX.out; unfold Sy.put at h8; rw [if_pos HLa.out] at h8; exact h8, by have h8 := HT.out.1; rw [← HW.out.2.2.2.1] at h8; exact trow_at h8 fun _ _ => rfl, below_drewN HT.out.2.1 _, by have := HW.out.2.2.2.2; omega⟩
                  · have HP : Hid (¬ out.getLast? = some x) := (by rw [HLa.out]; intro e; exact hlx (Option.some.inj e) : ¬ out.getLast? = some x)
                    have hd : (l.1 == x.1) = false ∨ (l.1 == x.1) = true ∧ ((l.2.1 == x.2.1) = false ∨ (l.2.1 == x.2.1) = true ∧ (l.2.2 == x.2.2) = false) := by
                      by_cases d1 : l.1 = x.1
                      · by_cases d2 : l.2.1 = x.2.1
                        · right
                          refine ⟨by simpa using d1, .inr ⟨by simpa using d2, ?_⟩⟩
                          have : ¬ l.2.2 = x.2.2 := fun d3 => hlx (by rw [Prod.ext_iff, Prod.ext_iff]; exact ⟨d1, d2, d3⟩)
                          simpa using this
                        · exact .inr ⟨by simpa using d1, .inl (by simpa using d2)⟩
                      · exact .inl (by simpa using d1)
                    clear hlx
                    rcases hd with d1 | ⟨d1, d2 | ⟨d2, d3⟩⟩
                    all_goals
                      go_wp2_with fail
                      go_quiet (fail)
                      have hml : N + 1 ≤ maxLen := by unfold maxLen; omega
                      have hby : (N + 1) * 24 ≤ 140737488355328 := by omega
                      have hOs2 : ws.ownsRow w1.heap.size 66 3 (.slice (some ⟨gl, 0, none⟩) N co) N (BEdges.C out) := by have h8 := HT.out.1; unfold BEdges.Own at h8; rw [← HW.out.2.2.2.1] at h8; exact h8
                      obtain ⟨wt, hwt⟩ : ∃ wt, wt = ws.drewN nq := ⟨_, rfl⟩
                      have v0 : wt.cell? ⟨wq.heap.size, 0, none⟩ = some (.int .i64 x.1) := by rw [hwt]; exact u0
                      have v1 : wt.cell? ⟨wq.heap.size, 1, none⟩ = some (.int .i64 x.2.1) := by rw [hwt]; exact u1
                      have v2 : wt.cell? ⟨wq.heap.size, 2, none⟩ = some (.int .i64 x.2.2) := by rw [hwt]; exact u2
                      have hOt : wt.ownsRow w1.heap.size 66 3 (.slice (some ⟨gl, 0, none⟩) N co) N (BEdges.C out) := by rw [hwt]; exact trow_at hOs2 fun _ _ => rfl
                      have hbt : Below w1.heap.size w1 wt := by rw [hwt]; exact below_drewN HT.out.2.1 _
                      rw [← hwt]
                      have hle : w1.heap.size ≤ (wt.alloc (.cells #[.int .i64 x.1, .int .i64 x.2.1, .int .i64 x.2.2] 66)).heap.size := by have := hbt.size; simp; omega
                      have HU : Hid _ := And.intro hOt hbt
                      clear hwt hOs2 hOt hbt u0 u1 u2
                      go_wp2_with (at_builtin; refine wpList_append_own_at _ rfl _ _ 22 rfl w1.heap.size 66 i0 (.agg #[.int .i64 0, .int .i64 0, .int .i64 0]) 3 24 Tryz.underlying22 hi0 hz0 hz1 hz2 rfl (by decide) (.slice (some ⟨gl, 0, none⟩) N co) N (BEdges.C out) rfl (HU.out.1.alloc _) ⟨wt.heap.size, 0, none⟩ 1 1 [.int .i64 x.1, .int .i64 x.2.1, .int .i64 x.2.2] rfl rfl (World.news_of_block (cs := #[.int .i64 x.1, .int .i64 x.2.1, .int .i64 x.2.2]) (t := 66) (fr := (0, 0)) (heap_alloc_new wt _)) (by simp [Value.oneCell']) hml hby hle ?_; intro w2v w2 hown2 hgrow2 hnil2 hat2; have H2 : Hid _ := And.intro hown2 hgrow2; clear hown2 hgrow2 hnil2 hat2)
                      go_roundg ((A - (i + 1)) + (B - (k)))
                      case measure => omega
                      case rel => exact ⟨i + 1, k, out ++ [x], rfl, by omega, by omega, by first | rfl | go_num, by first | rfl | go_num, by have h8 := HX.out; unfold Sy.put at h8; rw [if_neg HP.out] at h8; exact h8, by unfold BEdges.Own; rw [BEdges.C_snoc, List.length_append, ← HW.out.2.2.2.1]; exact H2.out.1, HU.out.2.trans ((grown_alloc H2.out.2).below HU.out.2.size fun b hb => (HU.out.1.lt b hb).1), by rw [List.length_append]; have := HW.out.2.2.2.2; simp; omega⟩
              · cases h9
        · have p1 : ¬ (i : Int) < (A : Int) := by omega
          have p2 : decide ((i : Int) < (A : Int)) = false := decide_eq_false p1
          have p6 : (k : Int) < (B : Int) := by omega
          have p3 : ¬ (B : Int) ≤ (k : Int) := by omega
          have p4 : decide ((B : Int) ≤ (k : Int)) = false := decide_eq_false p3
          obtain rfl : c = false := by
            rcases HC.out with h8 | h8
            · exact absurd h8.2.1 (by omega)
            · exact h8.1
          clear hmore hA
          go_upto_region 8 with fail
          rw [← H0.out.2.2]
          go_cut [57] (fun s57 wx => s57 = .bool false ∧ Below wz.heap.size wz wx)
          case first =>
            go_quiet (fail)
            refine Met.intro ?_; apply_assumption; refine Met.intro ?_; apply_assumption; (repeat apply Exists.intro); refine ⟨?rel, rfl⟩
            case rel => exact ⟨rfl, below_drewN (Below.refl _ _) _⟩
          case rest =>
            obtain ⟨rfl, hbc⟩ := hcut
            have hgc := (hbc.block _ (t_lt H0.out.2.1)).trans H0.out.2.1
            have hbq : Below wq.heap.size wq wc := H0.out.1.trans (hbc.mono H0.out.1.size)
            have hOc := trow_at (w' := wc) HW.out.2.1 fun b hb => hbq.block b (HW.out.2.1.lt b hb).2
            have hbw1 : Below w1.heap.size w1 wc := HW.out.2.2.1.trans (hbq.mono hgl)
            have y0 : wc.cell? ⟨wq.heap.size, 0, none⟩ = some (.int .i64 0) := cell0_of hgc rfl
            have y1 : wc.cell? ⟨wq.heap.size, 1, none⟩ = some (.int .i64 0) := cell0_of hgc rfl
            have y2 : wc.cell? ⟨wq.heap.size, 2, none⟩ = some (.int .i64 0) := cell0_of hgc rfl
            have z0 := blk_free hgc 0
            have z1 := blk_free hgc 1
            have z2 := blk_free hgc 2
            have HR : Hid _ := And.intro hOc (And.intro hbw1 (And.intro hgc hbq))
            clear hbc hgc hbq hOc hbw1
            clear p2 p4
            obtain ⟨h9, _⟩ | ⟨h9, hkB, hlt9⟩ := HC.out
            · cases h9
            · obtain ⟨x, hx⟩ : ∃ x, bs0[k]? = some x := ⟨bs0[k]'(by have := HL.out.2; omega), List.getElem?_eq_getElem _⟩
              obtain ⟨gx, hgx, x0, x1, x2⟩ := own_edge (trow_at (w' := wc) HO.out.2.1 fun b hb => HR.out.2.1.block b (HO.out.2.1.lt b hb).2) hx
              cases hgx
              have hMn := (HW.out.1.swap.left HS.out.2 HS.out.1 hx (fun f hf => Sy.lt_asymm (hlt9 x hx f hf))).swap
              have r0 : (0 : Int) ≤ (k : Int) := by omega
              have r1 : (k : Int) < (B : Int) := by omega
              have r2 : IntKind.i64.wrap ((k : Int) + 1) = (k : Int) + 1 := by rw [IntKind.wrap_i64]; omega
              have HX : Hid (Sy.Mg as0 bs0 i (k + 1) (Sy.put out x)) := hMn
              clear h9 hlt9 hx hMn
              go_wp2_with fail
              have hgs : ((((wc.setCell ⟨wq.heap.size, 0, none⟩ (.int .i64 x.1)).setCell ⟨wq.heap.size, 1, none⟩ (.int .i64 x.2.1)).setCell ⟨wq.heap.size, 2, none⟩ (.int .i64 x.2.2))).heap[wq.heap.size]? = some (.cells #[.int .i64 x.1, .int .i64 x.2.1, .int .i64 x.2.2] 66 (0, 0)) := heap_setCell_same _ _ 2 _ _ _ (heap_setCell_same _ _ 1 _ _ _ (heap_setCell_same _ _ 0 _ _ _ HR.out.2.2.1))
              have hks : Kept (fun b => b = wq.heap.size) wc (((wc.setCell ⟨wq.heap.size, 0, none⟩ (.int .i64 x.1)).setCell ⟨wq.heap.size, 1, none⟩ (.int .i64 x.2.1)).setCell ⟨wq.heap.size, 2, none⟩ (.int .i64 x.2.2)) := ((Kept.setCell wc _ 0 _).trans (Kept.setCell _ _ 1 _)).trans (Kept.setCell _ _ 2 _)
              obtain ⟨ws, hws⟩ : ∃ ws, ws = ((wc.setCell ⟨wq.heap.size, 0, none⟩ (.int .i64 x.1)).setCell ⟨wq.heap.size, 1, none⟩ (.int .i64 x.2.1)).setCell ⟨wq.heap.size, 2, none⟩ (.int .i64 x.2.2) := ⟨_, rfl⟩
              rw [← hws] at hgs hks ⊢
              have hOs : BEdges.Own ws w1.heap.size (.slice ao2 out.length co) out := own_up HR.out.1 hks fun b hb e => by have := (HW.out.2.1.lt b hb).2; omega
              have hbs : Below w1.heap.size w1 ws := HR.out.2.1.trans (hks.below HR.out.2.1.size fun b hb => by omega)
              have u0 : ws.cell? ⟨wq.heap.size, 0, none⟩ = some (.int .i64 x.1) := cell0_of hgs rfl
              have u1 : ws.cell? ⟨wq.heap.size, 1, none⟩ = some (.int .i64 x.2.1) := cell0_of hgs rfl
              have u2 : ws.cell? ⟨wq.heap.size, 2, none⟩ = some (.int .i64 x.2.2) := cell0_of hgs rfl
              have HT : Hid _ := And.intro hOs (And.intro hbs hgs)
              clear hws hgs hks hOs hbs y0 y1 y2 z0 z1 z2 x0 x1 x2
              by_cases hN0 : N = 0
              · have s1 : ((N : Int) == 0) = true := by simp; omega
                have HP : Hid (¬ out.getLast? = some x) := (by
                  have h8 : out = [] := List.eq_nil_of_length_eq_zero (by have := HW.out.2.2.2.1; omega)
                  rw [h8]; simp : ¬ out.getLast? = some x)
                clear hN0
                go_wp2_with fail
                go_quiet (fail)
                have hml : N + 1 ≤ maxLen := by unfold maxLen; omega
                have hby : (N + 1) * 24 ≤ 140737488355328 := by omega
                have hOs2 : ws.ownsRow w1.heap.size 66 3 (.slice ao2 N co) N (BEdges.C out) := by have h8 := HT.out.1; unfold BEdges.Own at h8; rw [← HW.out.2.2.2.1] at h8; exact h8
                obtain ⟨wt, hwt⟩ : ∃ wt, wt = ws.drewN nq := ⟨_, rfl⟩
                have v0 : wt.cell? ⟨wq.heap.size, 0, none⟩ = some (.int .i64 x.1) := by rw [hwt]; exact u0
                have v1 : wt.cell? ⟨wq.heap.size, 1, none⟩ = some (.int .i64 x.2.1) := by rw [hwt]; exact u1
                have v2 : wt.cell? ⟨wq.heap.size, 2, none⟩ = some (.int .i64 x.2.2) := by rw [hwt]; exact u2
                have hOt : wt.ownsRow w1.heap.size 66 3 (.slice ao2 N co) N (BEdges.C out) := by rw [hwt]; exact trow_at hOs2 fun _ _ => rfl
                have hbt : Below w1.heap.size w1 wt := by rw [hwt]; exact below_drewN HT.out.2.1 _
                rw [← hwt]
                have hle : w1.heap.size ≤ (wt.alloc (.cells #[.int .i64 x.1, .int .i64 x.2.1, .int .i64 x.2.2] 66)).heap.size := by have := hbt.size; simp; omega
                have HU : Hid _ := And.intro hOt hbt
                clear hwt hOs2 hOt hbt u0 u1 u2
                go_wp2_with (at_builtin; refine wpList_append_own_at _ rfl _ _ 22 rfl w1.heap.size 66 i0 (.agg #[.int .i64 0, .int .i64 0, .int .i64 0]) 3 24 Tryz.underlying22 hi0 hz0 hz1 hz2 rfl (by decide) (.slice ao2 N co) N (BEdges.C out) rfl (HU.out.1.alloc _) ⟨wt.heap.size, 0, none⟩ 1 1 [.int .i64 x.1, .int .i64 x.2.1, .int .i64 x.2.2] rfl rfl (World.news_of_block (cs := #[.int .i64 x.1, .int .i64 x.2.1, .int .i64 x.2.2]) (t := 66) (fr := (0, 0)) (heap_alloc_new wt _)) (by simp [Value.oneCell']) hml hby hle ?_; intro w2v w2 hown2 hgrow2 hnil2 hat2; have H2 : Hid _ := And.intro hown2 hgrow2; clear hown2 hgrow2 hnil2 hat2)
                go_roundg ((A - (i)) + (B - (k + 1)))
                case measure => omega
                case rel => exact ⟨i, k + 1, out ++ [x], rfl, by omega, by omega, by first | rfl | go_num, by first | rfl | go_num, by have h8 := HX.out; unfold Sy.put at h8; rw [if_neg HP.out] at h8; exact h8, by unfold BEdges.Own; rw [BEdges.C_snoc, List.length_append, ← HW.out.2.2.2.1]; exact H2.out.1, HU.out.2.trans ((grown_alloc H2.out.2).below HU.out.2.size fun b hb => (HU.out.1.lt b hb).1), by rw [List.length_append]; have := HW.out.2.2.2.2; simp; omega⟩
              · have s1 : ((N : Int) == 0) = false := by simp; omega
                obtain ⟨l, hl⟩ : ∃ l, out[N - 1]? = some l := ⟨out[N - 1]'(by have := HW.out.2.2.2.1; omega), List.getElem?_eq_getElem _⟩
                obtain ⟨gl, hgl2, l0, l1, l2⟩ := own_edge HT.out.1 hl
                cases hgl2
                have s2 : IntKind.i64.wrap ((N : Int) - 1) = ((N - 1 : Nat) : Int) := by rw [IntKind.wrap_i64]; omega
                have s3 : (0 : Int) ≤ ((N - 1 : Nat) : Int) := by omega
                have s4 : ((N - 1 : Nat) : Int) < (N : Int) := by omega
                have hlast : out.getLast? = some l := by rw [List.getLast?_eq_getElem?, ← HW.out.2.2.2.1]; exact hl
                obtain ⟨M, hM⟩ : ∃ M, M = N - 1 := ⟨_, rfl⟩
                rw [← hM] at l0 l1 l2 s2 s3 s4
                have HM : Hid _ := hM
                have HLa : Hid (out.getLast? = some l) := hlast
                clear hM hl hlast hN0
                by_cases hlx : l = x
                · subst hlx
                  go_wp2_with fail
                  go_quiet (fail)
                  go_wp2_with fail
                  go_roundg ((A - (i)) + (B - (k + 1)))
                  case measure => omega
                  case rel => exact ⟨i, k + 1, out, rfl, by omega, by omega, by first | rfl | go_num, by first | rfl | go_num, by have h8 := HX.out; unfold Sy.put at h8; rw [if_pos HLa.out] at h8; exact h8, by have h8 := HT.out.1; rw [← HW.out.2.2.2.1] at h8; exact trow_at h8 fun _ _ => rfl, below_drewN HT.out.2.1 _, by have := HW.out.2.2.2.2; omega⟩
                · have HP : Hid (¬ out.getLast? = some x) := (by rw [HLa.out]; intro e; exact hlx (Option.some.inj e) : ¬ out.getLast? = some x)
                  have hd : (l.1 == x.1) = false ∨ (l.1 == x.1) = true ∧ ((l.2.1 == x.2.1) = false ∨ (l.2.1 == x.2.1) = true ∧ (l.2.2 == x.2.2) = false) := by
                    by_cases d1 : l.1 = x.1
                    · by_cases d2 : l.2.1 = x.2.1
                      · right
                        refine ⟨by simpa using d1, .inr ⟨by simpa using d2, ?_⟩⟩
                        have : ¬ l.2.2 = x.2.2 := fun d3 => hlx (by rw [Prod.ext_iff, Prod.ext_iff]; exact ⟨d1, d2, d3⟩)
                        simpa using this
                      · exact .inr ⟨by simpa using d1, .inl (by simpa using d2)⟩
                    · exact .inl (by simpa using d1)
                  clear hlx
                  rcases hd with d1 | ⟨d1, d2 | ⟨d2, d3⟩⟩
                  all_goals
                    go_wp2_with fail
                    go_quiet (fail)
                    have hml : N + 1 ≤ maxLen := by unfold maxLen; omega
                    have hby : (N + 1) * 24 ≤ 140737488355328 := by omega
                    have hOs2 : ws.ownsRow w1.heap.size 66 3 (.slice (some ⟨gl, 0, none⟩) N co) N (BEdges.C out) := by have h8 := HT.out.1; unfold BEdges.Own at h8; rw [← HW.out.2.2.2.1] at h8; exact h8
                    obtain ⟨wt, hwt⟩ : ∃ wt, wt = ws.drewN nq := ⟨_, rfl⟩
                    have v0 : wt.cell? ⟨wq.heap.size, 0, none⟩ = some (.int .i64 x.1) := by rw [hwt]; exact u0
                    have v1 : wt.cell? ⟨wq.heap.size, 1, none⟩ = some (.int .i64 x.2.1) := by rw [hwt]; exact u1
                    have v2 : wt.cell? ⟨wq.heap.size, 2, none⟩ = some (.int .i64 x.2.2) := by rw [hwt]; exact u2
                    have hOt : wt.ownsRow w1.heap.size 66 3 (.slice (some ⟨gl, 0, none⟩) N co) N (BEdges.C out) := by rw [hwt]; exact trow_at hOs2 fun _ _ => rfl
                    have hbt : Below w1.heap.size w1 wt := by rw [hwt]; exact below_drewN HT.out.2.1 _
                    rw [← hwt]
                    have hle : w1.heap.size ≤ (wt.alloc (.cells #[.int .i64 x.1, .int .i64 x.2.1, .int .i64 x.2.2] 66)).heap.size := by have := hbt.size; simp; omega
                    have HU : Hid _ := And.intro hOt hbt
                    clear hwt hOs2 hOt hbt u0 u1 u2
                    go_wp2_with (at_builtin; refine wpList_append_own_at _ rfl _ _ 22 rfl w1.heap.size 66 i0 (.agg #[.int .i64 0, .int .i64 0, .int .i64 0]) 3 24 Tryz.underlying22 hi0 hz0 hz1 hz2 rfl (by decide) (.slice (some ⟨gl, 0, none⟩) N co) N (BEdges.C out) rfl (HU.out.1.alloc _) ⟨wt.heap.size, 0, none⟩ 1 1 [.int .i64 x.1, .int .i64 x.2.1, .int .i64 x.2.2] rfl rfl (World.news_of_block (cs := #[.int .i64 x.1, .int .i64 x.2.1, .int .i64 x.2.2]) (t := 66) (fr := (0, 0)) (heap_alloc_new wt _)) (by simp [Value.oneCell']) hml hby hle ?_; intro w2v w2 hown2 hgrow2 hnil2 hat2; have H2 : Hid _ := And.intro hown2 hgrow2; clear hown2 hgrow2 hnil2 hat2)
                    go_roundg ((A - (i)) + (B - (k + 1)))
                    case measure => omega
                    case rel => exact ⟨i, k + 1, out ++ [x], rfl, by omega, by omega, by first | rfl | go_num, by first | rfl | go_num, by have h8 := HX.out; unfold Sy.put at h8; rw [if_neg HP.out] at h8; exact h8, by unfold BEdges.Own; rw [BEdges.C_snoc, List.length_append, ← HW.out.2.2.2.1]; exact H2.out.1, HU.out.2.trans ((grown_alloc H2.out.2).below HU.out.2.size fun b hb => (HU.out.1.lt b hb).1), by rw [List.length_append]; have := HW.out.2.2.2.2; simp; omega⟩
      · have h1 : ¬ (i : Int) < (A : Int) := by omega
        have h2 : ¬ (k : Int) < (B : Int) := by omega
        have HW : Hid _ := And.intro hM (And.intro hOo hb)
        have hiA : i = A := by omega
        have hkB : k = B := by omega
        have HE : Hid (i = A ∧ k = B) := ⟨hiA, hkB⟩
        clear hM hOo hb hiA hkB hmore
        go_wp2_with fail
        go_ret
        refine ⟨_, rfl, ?_, HO.out.2.2.trans (HW.out.2.2.mono HO.out.2.2.size)⟩
        have h9 : out = Sy.nf es := Sy.nf_of HW.out.1.s fun x => by
          rw [HW.out.1.m, HE.out.1, HE.out.2, HL.out.1, HL.out.2, List.take_length, List.take_length]
          exact HF.out x
        rw [← h9]
        exact row_base HW.out.2.1 HO.out.2.2.size
theorem refSorted_any (v : Value) (es : List Sy.Ed) (w : World) (hv : HasE w v es) (hm : es.length ≤ 100000) : SortedAt w v es := by
  obtain ⟨n, hn⟩ : ∃ n, n = es.length := ⟨_, rfl⟩
  induction n using Nat.strongRecOn generalizing v es w with
  | ind n ih =>
    by_cases h2 : es.length < 2
    · exact sorted_short v es w hv h2
    · exact sorted_long v es w hv h2 hm fun W x xs hl hx => ih xs.length (by omega) x xs W hx (by omega) rfl
end
end Go.Proofs.YtibdgefjpcebkaaGreatDoor
