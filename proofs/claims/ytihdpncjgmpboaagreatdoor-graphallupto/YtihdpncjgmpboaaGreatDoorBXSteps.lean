/- The book's lists of Steps: what it holds in memory, and contracts of the book's parts over them. (Written by mkbx.py out of BX.tmpl.) -/
import Derived.Test.YtihdpncjgmpboaaGreatDoorPart0
import Derived.Deep.QuietTactic
import Derived.BigQuiet
namespace Go.Proofs.YtihdpncjgmpboaaGreatDoor.BSteps
open Go.RowKit Go.Maps
attribute [local go_sem ↓] Go.wp_at_zero Go.wp_at_succ
abbrev El : Type := Int × Int
/-- The cells of an element, of a list. -/
def enc (z : El) : List Value := [.int .i64 z.1, .int .i64 z.2]
def C (zs : List El) : List Value := zs.flatMap enc
theorem enc_len (z : El) : (enc z).length = 2 := rfl
theorem C_len (zs : List El) : (C zs).length = zs.length * 2 := by
  unfold C
  induction zs with
  | nil => rfl
  | cons z r ih => rw [List.flatMap_cons, List.length_append, ih, enc_len, List.length_cons]; omega
theorem C_app (a b : List El) : C (a ++ b) = C a ++ C b := List.flatMap_append
theorem C_one (zs : List El) : ∀ u ∈ C zs, u.oneCell' = true := fun u hu => by
  obtain ⟨z, _, hz⟩ := List.mem_flatMap.1 hu
  simp only [enc, List.mem_cons, List.not_mem_nil, or_false] at hz
  rcases hz with rfl | rfl <;> rfl
theorem C_at : ∀ (zs : List El) (k : Nat) (z : El), zs[k]? = some z → ∀ q, q < 2 → (C zs)[k * 2 + q]? = (enc z)[q]?
  | [], _, _, h, _, _ => by simp at h
  | y :: r, 0, z, h, q, hq => by
    simp at h
    subst h
    show (enc y ++ C r)[0 * 2 + q]? = _
    rw [List.getElem?_append_left (by rw [enc_len]; omega)]
    congr 1
    omega
  | y :: r, k + 1, z, h, q, hq => by
    have ih := C_at r k z (by simpa using h) q hq
    show (enc y ++ C r)[(k + 1) * 2 + q]? = _
    rw [List.getElem?_append_right (by rw [enc_len]; omega), enc_len, ← ih]
    congr 1
    omega
theorem C_set (zs : List El) {k : Nat} (hk : k < zs.length) (x : El) : C (zs.set k x) = (((C zs).set (k * 2) (.int .i64 x.1)).set (k * 2 + 1) (.int .i64 x.2)) := by
  apply List.ext_getElem?
  intro j
  by_cases hj : j / 2 = k
  · obtain ⟨q, hq, rfl⟩ : ∃ q, q < 2 ∧ j = k * 2 + q := ⟨j % 2, Nat.mod_lt _ (by decide), by omega⟩
    rw [C_at (zs.set k x) k x (List.getElem?_set_self hk) q hq]
    have hl : (C zs).length = zs.length * 2 := C_len zs
    have hq' : q = 0 ∨ q = 1 := by omega
    rcases hq' with rfl | rfl <;> simp [List.getElem?_set, hl, enc] <;> omega
  · have e : (C (zs.set k x))[j]? = (C zs)[j]? := by
      rcases Nat.lt_or_ge (j / 2) zs.length with h | h
      · obtain ⟨z, hz⟩ : ∃ z, zs[j / 2]? = some z := ⟨_, List.getElem?_eq_getElem h⟩
        have hz' : (zs.set k x)[j / 2]? = some z := by rw [List.getElem?_set_ne (fun e => hj e.symm)]; exact hz
        have e0 : j = j / 2 * 2 + j % 2 := by omega
        rw [e0, C_at _ _ z hz' _ (Nat.mod_lt _ (by decide)), C_at _ _ z hz _ (Nat.mod_lt _ (by decide))]
      · rw [List.getElem?_eq_none (by rw [C_len, List.length_set]; omega), List.getElem?_eq_none (by rw [C_len]; omega)]
    rw [e]
    rw [List.getElem?_set_ne (by omega), List.getElem?_set_ne (by omega)]
/-- Lists of one's own; lists that are read. -/
def Own (w : World) (B : Nat) (v : Value) (zs : List El) : Prop := w.ownsRow B 76 2 v zs.length (C zs)
def Has (w : World) (v : Value) (zs : List El) : Prop := ∃ ao cap, v = .slice ao zs.length cap ∧ ∀ (j : Nat) (u : Value), (C zs)[j]? = some u → ∃ a, ao = some a ∧ w.cell? (a.add j) = some u
theorem Has.below {w w' : World} {v : Value} {zs : List El} (h : Has w v zs) (hb : Below w.heap.size w w') : Has w' v zs := by
  obtain ⟨ao, cap, h1, h2⟩ := h
  refine ⟨ao, cap, h1, fun i p hi => ?_⟩
  obtain ⟨a, ha, c0⟩ := h2 i p hi
  exact ⟨a, ha, (hb.cell (World.block_lt_of_cell? w _ c0)).trans c0⟩
theorem C_nil {zs : List El} (h : zs ≠ []) : ∃ u, (C zs)[0]? = some u := by
  cases zs with
  | nil => exact absurd rfl h
  | cons z r =>
    have h1 := C_at (z :: r) 0 z rfl 0 (by decide)
    have h2 : (enc z)[0]? = some ((enc z)[0]'(by rw [enc_len]; decide)) := List.getElem?_eq_getElem _
    exact ⟨_, h1.trans h2⟩
theorem Has.kept {w w' : World} {F : Nat → Prop} {v : Value} {zs : List El} (h : Has w v zs) (hk : Kept F w w') (hf : zs ≠ [] → ∀ i, v.ownBlock = some i → ¬ F i) : Has w' v zs := by
  obtain ⟨ao, cap, rfl, h2⟩ := h
  refine ⟨ao, cap, rfl, fun i z hi => ?_⟩
  obtain ⟨a, rfl, c⟩ := h2 i z hi
  exact ⟨a, rfl, cell_same (hk.block _ (block_lt3 c) (hf (by rintro rfl; simp [C] at hi) a.block rfl)) c⟩
theorem far {w : World} {v : Value} {zs : List El} (h : Has w v zs) (hz : zs ≠ []) {i : Nat} (hi : v.ownBlock = some i) : i < w.heap.size := by
  obtain ⟨ao, cap, rfl, h2⟩ := h
  obtain ⟨u, hu⟩ := C_nil hz
  obtain ⟨a, rfl, c⟩ := h2 0 u hu
  have := block_lt3 c
  simp only [Value.ownBlock, Option.some.injEq] at hi
  omega
theorem Own.at {w : World} {B g cap n : Nat} {zs : List El} (h : Own w B (.slice (some ⟨g, 0, none⟩) n cap) zs) {j : Nat} {u : Value} (hj : (C zs)[j]? = some u) : w.cell? ⟨g, j, none⟩ = some u := by
  obtain ⟨ao', cap', hv⟩ := row_shape h
  injection hv with _ e _
  subst e
  have h' : w.ownsRow B 76 2 (.slice (some ⟨g, 0, none⟩) zs.length cap) zs.length (C zs) := h
  rw [h'.cellAt j (by rw [← h'.1]; exact (List.getElem?_eq_some_iff.1 hj).1), hj]
theorem Own.has {w : World} {B : Nat} {v : Value} {zs : List El} (h : Own w B v zs) : Has w v zs := by
  obtain ⟨ao, cap, hv⟩ := row_shape h
  refine ⟨ao, cap, hv, fun j u hj => ?_⟩
  have hlt := (List.getElem?_eq_some_iff.1 hj).1
  rw [C_len] at hlt
  obtain ⟨g, c, hf, _, _⟩ := World.ownsRow.form h (by omega)
  rw [hv] at hf
  injection hf with e1 e2 e3
  subst e1; subst e3
  refine ⟨_, rfl, ?_⟩
  rw [addz]
  rw [hv] at h
  exact Own.at h hj
theorem add_q (a : Addr) (m q : Nat) : (a.add m).add q = a.add (m + q) := by
  unfold Addr.add
  by_cases h1 : m = 0 <;> by_cases h2 : q = 0 <;> simp [h1, h2] <;> omega
theorem copy_of {w : World} {ao : Option Addr} {n cap : Nat} {zs : List El} (h : Has w (.slice ao n cap) zs) : (ao = none → n = 0) ∧ ∀ ad, ao = some ad → ∀ j u, (C zs)[j]? = some u → w.cell? (ad.add j) = some u := by
  obtain ⟨ao', cap', hv, h2⟩ := h
  injection hv with e1 e2 e3
  subst e1
  refine ⟨fun e => ?_, fun ad e j u hj => ?_⟩
  · rw [e2]
    by_cases hz : zs = []
    · rw [hz]; rfl
    · obtain ⟨u, hu⟩ := C_nil hz
      obtain ⟨a, ha, _⟩ := h2 0 u hu
      rw [e] at ha; cases ha
  · obtain ⟨a, ha, hc⟩ := h2 j u hj
    rw [e] at ha
    cases ha
    exact hc
/-- The mark of the list i at the place k. -/
def mk1 (i k : Nat) : El := (-1 - (i : Int), (k : Int))
def marks (i f n : Nat) : List El := (List.range n).map fun k => mk1 i (f + k)
theorem marks_len (i f n : Nat) : (marks i f n).length = n := by simp [marks]
theorem marks_succ (i f n : Nat) : marks i f (n + 1) = marks i f n ++ [mk1 i (f + n)] := by
  unfold marks
  rw [List.range_succ, List.map_append]
  rfl
theorem marks_add (i f n m : Nat) : marks i f n ++ marks i (f + n) m = marks i f (n + m) := by
  induction m with
  | zero => simp [marks]
  | succ m ih => rw [marks_succ, ← List.append_assoc, ih, Nat.add_assoc, ← marks_succ]; rfl
theorem marks_at {i f n j : Nat} (h : j < n) : (marks i f n)[j]? = some (mk1 i (f + j)) := by
  unfold marks
  rw [List.getElem?_map, List.getElem?_range h]
  rfl
theorem Tryz.infoE : (Tryz.prog.info? 76).map (fun i => (i.zero, i.size, i.bytes)) = some (some (.agg #[.int .i64 0, .int .i64 0]), 2, 16) := by kernel_rfl
theorem Tryz.infoR : (Tryz.prog.info? 46).map (fun i => (i.zero, i.size, i.bytes)) = some (some (.slice none 0 0), 1, 24) := by kernel_rfl
theorem C_snoc (zs : List El) (z : El) : C (zs ++ [z]) = C zs ++ enc z := by
  rw [C_app]
  show _ ++ (enc z ++ []) = _
  rw [List.append_nil]
theorem below_row {w w2 w4 : World} {x : Obj} {v : Value} {n : Nat} {us : List Value} (h1 : w2.ownsRow w.heap.size 76 2 v n us) (hb : Below w.heap.size w w2) (hg : (w2.alloc x).grownBy w4 v.ownBlock) : Below w.heap.size w w4 :=
  (hb.alloc hb.size x).grown hg (by have := hb.size; simp; omega) (fun k hk => (h1.lt k hk).1)
theorem enc_one (z : El) : ∀ u ∈ enc z, u.oneCell' = true := fun u hu => C_one [z] u (by simpa [C] using hu)
set_option maxRecDepth 100000 in
set_option maxHeartbeats 4000000 in
theorem mark_any (i f n : Nat) (w : World) (hi : i ≤ 1000) (hf : f + n ≤ 1000000000) :
    Calls Tryz.prog 109 #[.int .i64 i, .int .i64 f, .int .i64 n] w fun r w' => ∃ v, r = .returned v ∧ Own w' w.heap.size v (marks i f n) ∧ Below w.heap.size w w' := by
  obtain ⟨i0, hi0, hz0, hz1, hz2⟩ := info_parts Tryz.infoE
  have e1 : IntKind.i64.wrap ((f : Int) + (n : Int)) = (f : Int) + (n : Int) := by rw [IntKind.wrap_i64]; omega
  go_enter Tryz.func109, Tryz.ntmps109
  go_wp2_with fail
  go_loopg [7, 8] n (fun q lv kv wr => ∃ (k : Nat), q = n - k ∧ k ≤ n ∧ kv = .int .i64 ((f : Int) + (k : Int)) ∧ Own wr w.heap.size lv (marks i f k) ∧ Below w.heap.size w wr)
  case atStart => exact ⟨0, rfl, Nat.zero_le _, by simp, World.ownsRow_nil _ _ _ _, Below.refl _ _⟩
  case round =>
    obtain ⟨k, rfl, hk, rfl, hO, hb⟩ := hrel
    by_cases hlt : k < n
    · have q1 : (f : Int) + (k : Int) < (f : Int) + (n : Int) := by omega
      obtain ⟨al, cl, rfl⟩ := row_shape hO
      have hO' : wr.ownsRow w.heap.size 76 2 (.slice al k cl) k (C (marks i f k)) := by have h1 := hO; unfold Own at h1; rw [marks_len] at h1; exact h1
      have hlk : (marks i f k).length = k := marks_len i f k
      rw [hlk]
      have hml : k + 1 ≤ maxLen := by unfold maxLen; omega
      have hby : (k + 1) * 16 ≤ 140737488355328 := by omega
      have w1 : IntKind.i64.wrap (-1 - (i : Int)) = -1 - (i : Int) := by rw [IntKind.wrap_i64]; omega
      have hle : w.heap.size ≤ (wr.alloc (.cells #[.int .i64 (-1 - (i : Int)), .int .i64 ((f : Int) + (k : Int))] 76)).heap.size := by have := hb.size; simp; omega
      have HO : Hid _ := And.intro hO' hb
      clear hO hO' hlk
      go_wp2_with (at_builtin; refine wpList_append_own_at _ rfl _ _ 46 rfl w.heap.size 76 i0 (.agg #[.int .i64 0, .int .i64 0]) 2 16 Tryz.underlying46 hi0 hz0 hz1 hz2 rfl (by decide) (.slice al k cl) k (C (marks i f k)) rfl (HO.out.1.alloc _) ⟨wr.heap.size, 0, none⟩ 1 1 [.int .i64 (-1 - (i : Int)), .int .i64 ((f : Int) + (k : Int))] rfl rfl (World.news_of_block (cs := #[.int .i64 (-1 - (i : Int)), .int .i64 ((f : Int) + (k : Int))]) (t := 76) (fr := (0, 0)) (heap_alloc_new wr _)) (by simp [Value.oneCell']) hml hby hle ?_; intro v2 w2 hown2 hgrow2 hnil2 hat2; have H2 : Hid _ := And.intro hown2 hgrow2; clear hown2 hgrow2 hnil2 hat2)
      have HM : Hid (enc (mk1 i (f + k)) = [.int .i64 (-1 - (i : Int)), .int .i64 ((f : Int) + (k : Int))]) := (by simp [enc, mk1] : enc (mk1 i (f + k)) = [.int .i64 (-1 - (i : Int)), .int .i64 ((f : Int) + (k : Int))])
      go_roundg (n - (k + 1))
      case measure => omega
      case rel => exact ⟨k + 1, rfl, by omega, by first | go_num | (congr 1; omega), by unfold Own; rw [marks_len, marks_succ, C_snoc, HM.out]; exact H2.out.1, below_row HO.out.1 HO.out.2 H2.out.2⟩
    · obtain rfl : k = n := by omega
      have q1 : ¬ (f : Int) + (k : Int) < (f : Int) + (k : Int) := by omega
      have HO : Hid _ := And.intro hO hb
      clear hO hb
      go_wp2_with fail
      go_ret
      exact ⟨_, rfl, HO.out.1, HO.out.2⟩
set_option maxRecDepth 100000 in
set_option maxHeartbeats 4000000 in
theorem same_b (va vb : Value) (zs : List El) (w : World) (hn : zs.length ≤ 1000000000000000) (hA : Has w va zs) (hB : Has w vb zs) :
    Calls Tryz.prog 20 #[va, vb] w fun e w' => e = .returned (.bool true) ∧ Below w.heap.size w w' := by
  obtain ⟨ao, cap, rfl, hcA⟩ := hA
  obtain ⟨ao', cap', rfl, hcB⟩ := hB
  obtain ⟨n, hN⟩ : ∃ n, n = zs.length := ⟨_, rfl⟩
  have HH : Hid _ := And.intro hcA (And.intro hcB hN)
  rw [← hN] at hn ⊢
  clear hcA hcB hN
  have q : ((n : Int) != (n : Int)) = false := by simp
  go_enter Tryz.func20, Tryz.ntmps20
  go_wp2
  go_loopg [5] n (fun g i wr => ∃ j m : Nat, g = n - j ∧ j ≤ n ∧ i = .int .i64 j ∧ wr = w.drewN m)
  case atStart => exact ⟨0, 0, rfl, Nat.zero_le _, rfl, rfl⟩
  case round =>
    obtain ⟨j, m, rfl, hj, rfl, rfl⟩ := hrel
    by_cases hlt : j < n
    · obtain ⟨z, hz⟩ : ∃ z, zs[j]? = some z := ⟨zs[j]'(by have := HH.out.2.2; omega), List.getElem?_eq_getElem _⟩
      obtain ⟨a, rfl, c0'⟩ := HH.out.1 (j * 2 + 0) _ ((C_at zs j z hz 0 (by decide)).trans rfl)
      obtain ⟨b, rfl, d0'⟩ := HH.out.2.1 (j * 2 + 0) _ ((C_at zs j z hz 0 (by decide)).trans rfl)
      have c0 : w.cell? (a.add (j * 2)) = some (.int .i64 z.1) := by first | exact c0' | simpa using c0'
      have d0 : w.cell? (b.add (j * 2)) = some (.int .i64 z.1) := by first | exact d0' | simpa using d0'
      clear c0' d0'
      obtain ⟨_, ec1, c1'⟩ := HH.out.1 (j * 2 + 1) _ ((C_at zs j z hz 1 (by decide)).trans rfl)
      cases ec1
      have c1 : w.cell? ⟨(a.add (j * 2)).block, (a.add (j * 2)).off + 1, none⟩ = some (.int .i64 z.2) := by rw [← add_q] at c1'; exact c1'
      clear c1'
      obtain ⟨_, ed1, d1'⟩ := HH.out.2.1 (j * 2 + 1) _ ((C_at zs j z hz 1 (by decide)).trans rfl)
      cases ed1
      have d1 : w.cell? ⟨(b.add (j * 2)).block, (b.add (j * 2)).off + 1, none⟩ = some (.int .i64 z.2) := by rw [← add_q] at d1'; exact d1'
      clear d1'
      have q0 : (0 : Int) ≤ (j : Int) := by omega
      have q1 : (j : Int) < (n : Int) := by omega
      clear hz
      go_wp2_with fail
      go_quiet (fail)
      go_wp2
      go_roundg (n - (j + 1))
      case measure => omega
      case rel => exact ⟨j + 1, _, rfl, by omega, by go_num, by first | rfl | exact World.drewN_drewN _ _ _⟩
    · obtain rfl : j = n := by omega
      have q1 : ¬ (j : Int) < (j : Int) := by omega
      go_wp2
      go_ret
      exact ⟨rfl, below_drewN (Below.refl _ _) _⟩
end Go.Proofs.YtihdpncjgmpboaaGreatDoor.BSteps
