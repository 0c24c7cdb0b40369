/- The book's lists of Lines: what it holds in memory, and contracts of the book's parts over them. (Written by mkby.py.) -/
import Derived.Test.YthcboklkejlifaaGreatDoorBXTokens
import Derived.Test.YthcboklkejlifaaGreatDoorBookApp
import Derived.Deep.AppendLies
import Derived.Deep.RegionLaw
import Derived.Deep.DeepCutAuto
import Derived.Deep.RegionHeld3
import Derived.Test.YthcboklkejlifaaGreatDoorBookNil
import Derived.Deep.QuietTactic
import Derived.BigQuiet
namespace Go.Proofs.YthcboklkejlifaaGreatDoor.BLines
open Go.RowKit Go.Maps
attribute [local go_sem ↓] Go.wp_at_zero Go.wp_at_succ
abbrev El : Type := Option Addr × Nat × Nat
/-- The cells of an element, of a list. -/
def enc (z : El) : List Value := [.slice z.1 z.2.1 z.2.2]
def C (zs : List El) : List Value := zs.flatMap enc
theorem enc_len (z : El) : (enc z).length = 1 := rfl
theorem C_len (zs : List El) : (C zs).length = zs.length * 1 := by
  unfold C
  induction zs with
  | nil => rfl
  | cons z r ih => rw [List.flatMap_cons, List.length_append, ih, enc_len, List.length_cons]; omega
theorem C_app (a b : List El) : C (a ++ b) = C a ++ C b := List.flatMap_append
theorem C_one (zs : List El) : ∀ u ∈ C zs, u.oneCell' = true := fun u hu => by
  obtain ⟨z, _, hz⟩ := List.mem_flatMap.1 hu
  simp only [enc, List.mem_cons, List.not_mem_nil, or_false] at hz
  rcases hz with rfl <;> rfl
theorem C_at : ∀ (zs : List El) (k : Nat) (z : El), zs[k]? = some z → ∀ q, q < 1 → (C zs)[k * 1 + q]? = (enc z)[q]?
  | [], _, _, h, _, _ => by simp at h
  | y :: r, 0, z, h, q, hq => by
    simp at h
    subst h
    show (enc y ++ C r)[0 * 1 + q]? = _
    rw [List.getElem?_append_left (by rw [enc_len]; omega)]
    congr 1
    omega
  | y :: r, k + 1, z, h, q, hq => by
    have ih := C_at r k z (by simpa using h) q hq
    show (enc y ++ C r)[(k + 1) * 1 + q]? = _
    rw [List.getElem?_append_right (by rw [enc_len]; omega), enc_len, ← ih]
    congr 1
    omega
theorem C_set (zs : List El) {k : Nat} (hk : k < zs.length) (x : El) : C (zs.set k x) = ((C zs).set (k) (.slice x.1 x.2.1 x.2.2)) := by
  apply List.ext_getElem?
  intro j
  by_cases hj : j / 1 = k
  · obtain ⟨q, hq, rfl⟩ : ∃ q, q < 1 ∧ j = k * 1 + q := ⟨j % 1, Nat.mod_lt _ (by decide), by omega⟩
    rw [C_at (zs.set k x) k x (List.getElem?_set_self hk) q hq]
    have hl : (C zs).length = zs.length * 1 := C_len zs
    have hq' : q = 0 := by omega
    rcases hq' with rfl <;> simp [List.getElem?_set, hl, enc] <;> omega
  · have e : (C (zs.set k x))[j]? = (C zs)[j]? := by
      rcases Nat.lt_or_ge (j / 1) zs.length with h | h
      · obtain ⟨z, hz⟩ : ∃ z, zs[j / 1]? = some z := ⟨_, List.getElem?_eq_getElem h⟩
        have hz' : (zs.set k x)[j / 1]? = some z := by rw [List.getElem?_set_ne (fun e => hj e.symm)]; exact hz
        have e0 : j = j / 1 * 1 + j % 1 := by omega
        rw [e0, C_at _ _ z hz' _ (Nat.mod_lt _ (by decide)), C_at _ _ z hz _ (Nat.mod_lt _ (by decide))]
      · rw [List.getElem?_eq_none (by rw [C_len, List.length_set]; omega), List.getElem?_eq_none (by rw [C_len]; omega)]
    rw [e]
    rw [List.getElem?_set_ne (by omega)]
/-- Lists of one's own; lists that are read. -/
def Own (w : World) (B : Nat) (v : Value) (zs : List El) : Prop := w.ownsRow B 38 1 v zs.length (C zs)
def Has (w : World) (v : Value) (zs : List El) : Prop := ∃ ao cap, v = .slice ao zs.length cap ∧ ∀ (j : Nat) (u : Value), (C zs)[j]? = some u → ∃ a, ao = some a ∧ w.cell? (a.add j) = some u
theorem Has.below {w w' : World} {v : Value} {zs : List El} (h : Has w v zs) (hb : Below w.heap.size w w') : Has w' v zs := by
  obtain ⟨ao, cap, h1, h2⟩ := h
  refine ⟨ao, cap, h1, fun i p hi => ?_⟩
  obtain ⟨a, ha, c0⟩ := h2 i p hi
  exact ⟨a, ha, (hb.cell (World.block_lt_of_cell? w _ c0)).trans c0⟩
theorem C_nil {zs : List El} (h : zs ≠ []) : ∃ u, (C zs)[0]? = some u := by
  cases zs with
  | nil => exact absurd rfl h
  | cons z r =>
    have h1 := C_at (z :: r) 0 z rfl 0 (by decide)
    have h2 : (enc z)[0]? = some ((enc z)[0]'(by rw [enc_len]; decide)) := List.getElem?_eq_getElem _
    exact ⟨_, h1.trans h2⟩
theorem Has.kept {w w' : World} {F : Nat → Prop} {v : Value} {zs : List El} (h : Has w v zs) (hk : Kept F w w') (hf : zs ≠ [] → ∀ i, v.ownBlock = some i → ¬ F i) : Has w' v zs := by
  obtain ⟨ao, cap, rfl, h2⟩ := h
  refine ⟨ao, cap, rfl, fun i z hi => ?_⟩
  obtain ⟨a, rfl, c⟩ := h2 i z hi
  exact ⟨a, rfl, cell_same (hk.block _ (block_lt3 c) (hf (by rintro rfl; simp [C] at hi) a.block rfl)) c⟩
theorem far {w : World} {v : Value} {zs : List El} (h : Has w v zs) (hz : zs ≠ []) {i : Nat} (hi : v.ownBlock = some i) : i < w.heap.size := by
  obtain ⟨ao, cap, rfl, h2⟩ := h
  obtain ⟨u, hu⟩ := C_nil hz
  obtain ⟨a, rfl, c⟩ := h2 0 u hu
  have := block_lt3 c
  simp only [Value.ownBlock, Option.some.injEq] at hi
  omega
theorem Own.at {w : World} {B g cap n : Nat} {zs : List El} (h : Own w B (.slice (some ⟨g, 0, none⟩) n cap) zs) {j : Nat} {u : Value} (hj : (C zs)[j]? = some u) : w.cell? ⟨g, j, none⟩ = some u := by
  obtain ⟨ao', cap', hv⟩ := row_shape h
  injection hv with _ e _
  subst e
  have h' : w.ownsRow B 38 1 (.slice (some ⟨g, 0, none⟩) zs.length cap) zs.length (C zs) := h
  rw [h'.cellAt j (by rw [← h'.1]; exact (List.getElem?_eq_some_iff.1 hj).1), hj]
theorem Own.has {w : World} {B : Nat} {v : Value} {zs : List El} (h : Own w B v zs) : Has w v zs := by
  obtain ⟨ao, cap, hv⟩ := row_shape h
  refine ⟨ao, cap, hv, fun j u hj => ?_⟩
  have hlt := (List.getElem?_eq_some_iff.1 hj).1
  rw [C_len] at hlt
  obtain ⟨g, c, hf, _, _⟩ := World.ownsRow.form h (by omega)
  rw [hv] at hf
  injection hf with e1 e2 e3
  subst e1; subst e3
  refine ⟨_, rfl, ?_⟩
  rw [addz]
  rw [hv] at h
  exact Own.at h hj
theorem add_q (a : Addr) (m q : Nat) : (a.add m).add q = a.add (m + q) := by
  unfold Addr.add
  by_cases h1 : m = 0 <;> by_cases h2 : q = 0 <;> simp [h1, h2] <;> omega
theorem copy_of {w : World} {ao : Option Addr} {n cap : Nat} {zs : List El} (h : Has w (.slice ao n cap) zs) : (ao = none → n = 0) ∧ ∀ ad, ao = some ad → ∀ j u, (C zs)[j]? = some u → w.cell? (ad.add j) = some u := by
  obtain ⟨ao', cap', hv, h2⟩ := h
  injection hv with e1 e2 e3
  subst e1
  refine ⟨fun e => ?_, fun ad e j u hj => ?_⟩
  · rw [e2]
    by_cases hz : zs = []
    · rw [hz]; rfl
    · obtain ⟨u, hu⟩ := C_nil hz
      obtain ⟨a, ha, _⟩ := h2 0 u hu
      rw [e] at ha; cases ha
  · obtain ⟨a, ha, hc⟩ := h2 j u hj
    rw [e] at ha
    cases ha
    exact hc
/-- An element as a value. -/
def sl (z : El) : Value := .slice z.1 z.2.1 z.2.2
/-- The mark of the list i at the place k: a list in a block of its own, from L on. -/
def Mk (w : World) (L i k : Nat) (z : El) : Prop := ∃ g, L ≤ g ∧ z = (some ⟨g, 0, none⟩, 1, 1) ∧ w.heap[g]? = some (.cells #[.int .i64 (-1 - (i : Int)), .string ⟨#[]⟩, .int .i64 (k : Int), .int .i64 0] 57 (0, 0))
def Mks (w : World) (L i f : Nat) (us : List El) : Prop := ∀ (j : Nat) (z : El), us[j]? = some z → Mk w L i (f + j) z
theorem Mk.has {w : World} {L i k : Nat} {z : El} (h : Mk w L i k z) : BTokens.Has w (sl z) [BTokens.mk1 i k] := by
  obtain ⟨g, _, rfl, hb⟩ := h
  refine ⟨_, _, rfl, fun j u hj => ⟨_, rfl, ?_⟩⟩
  rw [addz]
  refine cell0_of hb ?_
  have e : (#[.int .i64 (-1 - (i : Int)), .string ⟨#[]⟩, .int .i64 (k : Int), .int .i64 0] : Array Value)[j]? = [.int .i64 (-1 - (i : Int)), .string ⟨#[]⟩, .int .i64 (k : Int), .int .i64 0][j]? := by simp
  rw [e]
  exact hj
theorem Mk.up {w w' : World} {F : Nat → Prop} {L i k : Nat} {z : El} (h : Mk w L i k z) (hk : Kept F w w') (hF : ∀ (g : Nat) (cs : Array Value), L ≤ g → w.heap[g]? = some (.cells cs 57 (0, 0)) → ¬ F g) : Mk w' L i k z := by
  obtain ⟨g, hg, hz, hb⟩ := h
  exact ⟨g, hg, hz, (hk.block g (t_lt hb) (hF g _ hg hb)).trans hb⟩
theorem Mks.up {w w' : World} {F : Nat → Prop} {L i k : Nat} {us : List El} (h : Mks w L i k us) (hk : Kept F w w') (hF : ∀ (g : Nat) (cs : Array Value), L ≤ g → w.heap[g]? = some (.cells cs 57 (0, 0)) → ¬ F g) : Mks w' L i k us := fun j z hj => (h j z hj).up hk hF
theorem Mks.below {w w' : World} {L i k : Nat} {us : List El} (h : Mks w L i k us) (hb : Below w.heap.size w w') : Mks w' L i k us := h.up (F := fun _ => False) (Kept.of_below hb) fun _ _ _ _ hf => hf
theorem Mks.base {w : World} {L L' i k : Nat} {us : List El} (h : Mks w L i k us) (hl : L' ≤ L) : Mks w L' i k us := fun j z hj => by
  obtain ⟨g, hg, hz⟩ := h j z hj
  exact ⟨g, by omega, hz⟩
theorem Mks.app {w : World} {L i f : Nat} {us vs : List El} (h : Mks w L i f us) (h2 : Mks w L i (f + us.length) vs) : Mks w L i f (us ++ vs) := fun j z hj => by
  rcases Nat.lt_or_ge j us.length with hl | hl
  · rw [List.getElem?_append_left hl] at hj; exact h j z hj
  · rw [List.getElem?_append_right hl] at hj
    have := h2 _ z hj
    rwa [show f + us.length + (j - us.length) = f + j by omega] at this
theorem Mks.nil (w : World) (L i f : Nat) : Mks w L i f [] := fun j z hj => by simp at hj
/-- Rows of other types turn: the marks stand. -/
theorem Mks.row {w w' : World} {L i k : Nat} {us : List El} (h : Mks w L i k us) {B : Nat} {e : TypeId} {sz : Nat} {v : Value} {n : Nat} {xs : List Value} (ho : w.ownsRow B e sz v n xs) (hk : Kept (fun b => v.ownBlock = some b) w w') (hne : e ≠ 57) : Mks w' L i k us := h.up hk fun _ _ _ hg hf => own_bk ho hg hne hf
theorem Tryz.infoE : (Tryz.prog.info? 38).map (fun i => (i.zero, i.size, i.bytes)) = some (some (.slice none 0 0), 1, 24) := by kernel_rfl
theorem Tryz.infoR : (Tryz.prog.info? 26).map (fun i => (i.zero, i.size, i.bytes)) = some (some (.slice none 0 0), 1, 24) := by kernel_rfl
theorem C_snoc (zs : List El) (z : El) : C (zs ++ [z]) = C zs ++ enc z := by
  rw [C_app]
  show _ ++ (enc z ++ []) = _
  rw [List.append_nil]
theorem below_row {w w2 w4 : World} {x : Obj} {v : Value} {n : Nat} {us : List Value} (h1 : w2.ownsRow w.heap.size 38 1 v n us) (hb : Below w.heap.size w w2) (hg : (w2.alloc x).grownBy w4 v.ownBlock) : Below w.heap.size w w4 :=
  (hb.alloc hb.size x).grown hg (by have := hb.size; simp; omega) (fun k hk => (h1.lt k hk).1)
theorem mks_snoc {w wr w2 : World} {i f : Nat} {v : Value} {us : List El} {x y : Obj} (hO : wr.ownsRow w.heap.size 38 1 v us.length (C us)) (hb : Below w.heap.size w wr) (hM : Mks wr w.heap.size i f us) (k : Nat) (hk : k = f + us.length) (hx : x = .cells #[.int .i64 (-1 - (i : Int)), .string ⟨#[]⟩, .int .i64 (k : Int), .int .i64 0] 57) (hg : ((wr.alloc x).alloc y).grownBy w2 v.ownBlock) :
    Mks w2 w.heap.size i f (us ++ [(some ⟨wr.heap.size, 0, none⟩, 1, 1)]) := by
  subst hk
  have hb2 : Below wr.heap.size wr ((wr.alloc x).alloc y) := ((Below.refl _ _).alloc (Nat.le_refl _) _).alloc (by simp) _
  have hO2 := trow_at (w' := (wr.alloc x).alloc y) hO fun i hi => hb2.block i (hO.lt i hi).2
  have hKg : Kept (fun b => v.ownBlock = some b) ((wr.alloc x).alloc y) w2 := Kept.of_grown hg
  refine Mks.app ((hM.below hb2).row hO2 hKg (by decide)) fun j z hj => ?_
  cases j with
  | succ j => simp at hj
  | zero =>
    simp at hj
    subst hj
    refine ⟨wr.heap.size, hb.size, rfl, ?_⟩
    have h1 : ((wr.alloc x).alloc y).heap[wr.heap.size]? = some x := by
      rw [Below.heap_alloc (wr.alloc x) y wr.heap.size (by simp)]
      exact heap_alloc_new wr x
    rw [hKg.block wr.heap.size (by simp; omega) (fun e => by have := (hO.lt _ e).2; omega), h1, hx]
    rfl
set_option maxRecDepth 100000 in
set_option maxHeartbeats 4000000 in
theorem mark_any (i f n : Nat) (w : World) (hi : i ≤ 1000) (hf : f + n ≤ 1000000000) :
    Calls Tryz.prog 106 #[.int .i64 i, .int .i64 f, .int .i64 n] w fun r w' => ∃ v us, r = .returned v ∧ us.length = n ∧ Own w' w.heap.size v us ∧ Mks w' w.heap.size i f us ∧ Below w.heap.size w w' := by
  obtain ⟨i0, hi0, hz0, hz1, hz2⟩ := info_parts Tryz.infoE
  have e1 : IntKind.i64.wrap ((f : Int) + (n : Int)) = (f : Int) + (n : Int) := by rw [IntKind.wrap_i64]; omega
  have w1 : IntKind.i64.wrap (-1 - (i : Int)) = -1 - (i : Int) := by rw [IntKind.wrap_i64]; omega
  go_enter Tryz.func106, Tryz.ntmps106
  go_wp2_with fail
  go_loopg [7, 8] n (fun q lv kv wr => ∃ (k : Nat) (us : List El), q = n - k ∧ k ≤ n ∧ kv = .int .i64 ((f : Int) + (k : Int)) ∧ us.length = k ∧ Own wr w.heap.size lv us ∧ Mks wr w.heap.size i f us ∧ Below w.heap.size w wr)
  case atStart => exact ⟨0, [], rfl, Nat.zero_le _, by simp, rfl, World.ownsRow_nil _ _ _ _, Mks.nil _ _ _ _, Below.refl _ _⟩
  case round =>
    obtain ⟨k, us, rfl, hk, rfl, hul, hO, hM, hb⟩ := hrel
    by_cases hlt : k < n
    · have q1 : (f : Int) + (k : Int) < (f : Int) + (n : Int) := by omega
      obtain ⟨al, cl, rfl⟩ := row_shape hO
      have hO' : wr.ownsRow w.heap.size 38 1 (.slice al k cl) k (C us) := by have h1 := hO; unfold Own at h1; rw [hul] at h1; exact h1
      rw [hul]
      have hml : k + 1 ≤ maxLen := by unfold maxLen; omega
      have hby : (k + 1) * 24 ≤ 140737488355328 := by omega
      have hle : w.heap.size ≤ ((wr.alloc (.cells #[.int .i64 (-1 - (i : Int)), .string ⟨#[]⟩, .int .i64 ((f : Int) + (k : Int)), .int .i64 0] 57)).alloc (.cells #[.slice (some ⟨wr.heap.size, 0, none⟩) 1 1] 38)).heap.size := by have := hb.size; simp; omega
      have HO : Hid _ := And.intro hO' (And.intro hb (And.intro hM hul))
      clear hO hO' hul hb hM
      go_wp2_with (at_builtin; refine wpList_append_own_at _ rfl _ _ 26 rfl w.heap.size 38 i0 (.slice none 0 0) 1 24 Tryz.underlying26 hi0 hz0 hz1 hz2 rfl (by decide) (.slice al k cl) k (C us) rfl ((HO.out.1.alloc _).alloc _) ⟨wr.heap.size + 1, 0, none⟩ 1 1 [.slice (some ⟨wr.heap.size, 0, none⟩) 1 1] rfl rfl (World.news_of_block (cs := #[.slice (some ⟨wr.heap.size, 0, none⟩) 1 1]) (t := 38) (fr := (0, 0)) (two_alloc wr _ _)) (one_list _ ⟨_, _, _, rfl⟩) hml hby hle ?_; intro v2 w2 hown2 hgrow2 hnil2 hat2; have H2 : Hid _ := And.intro hown2 hgrow2; clear hown2 hgrow2 hnil2 hat2)
      go_roundg (n - (k + 1))
      case measure => omega
      case rel => exact ⟨k + 1, us ++ [(some ⟨wr.heap.size, 0, none⟩, 1, 1)], rfl, by omega, by first | go_num | (congr 1; omega), by rw [List.length_append, HO.out.2.2.2]; rfl, by unfold Own; rw [C_snoc, List.length_append, HO.out.2.2.2]; exact H2.out.1, mks_snoc (by rw [HO.out.2.2.2]; exact HO.out.1) HO.out.2.1 HO.out.2.2.1 (f + k) (by rw [HO.out.2.2.2]) (by simp) H2.out.2, below_row (HO.out.1.alloc _) (HO.out.2.1.alloc HO.out.2.1.size _) H2.out.2⟩
    · obtain rfl : k = n := by omega
      have q1 : ¬ (f : Int) + (k : Int) < (f : Int) + (k : Int) := by omega
      have HO : Hid _ := And.intro hO (And.intro hM (And.intro hb hul))
      clear hO hb hM hul
      go_wp2_with fail
      go_ret
      exact ⟨_, rfl, us, HO.out.2.2.2, HO.out.1, HO.out.2.1, HO.out.2.2.1⟩
set_option maxRecDepth 100000 in
set_option maxHeartbeats 4000000 in
theorem same_b (va vb : Value) (us vs : List El) (w : World) (hn : us.length ≤ 1000000000000000) (he : us.length = vs.length) (hA : Has w va us) (hB : Has w vb vs) (hR : ∀ (j : Nat) (x y : El), us[j]? = some x → vs[j]? = some y → ∃ zs, zs.length ≤ 1000000 ∧ BTokens.Has w (sl x) zs ∧ BTokens.Has w (sl y) zs) :
    Calls Tryz.prog 95 #[va, vb] w fun e w' => e = .returned (.bool true) ∧ Below w.heap.size w w' := by
  obtain ⟨ao, cap, rfl, hcA⟩ := hA
  obtain ⟨ao', cap', rfl, hcB⟩ := hB
  obtain ⟨n, hN⟩ : ∃ n, n = us.length := ⟨_, rfl⟩
  have HH : Hid _ := And.intro hcA (And.intro hcB (And.intro hN (And.intro he hR)))
  rw [← he, ← hN]
  rw [← hN] at hn
  clear hcA hcB hN he hR
  have q : ((n : Int) != (n : Int)) = false := by simp
  go_enter Tryz.func95, Tryz.ntmps95
  go_wp2
  go_loopg [5] n (fun g i wr => ∃ j : Nat, g = n - j ∧ j ≤ n ∧ i = .int .i64 j ∧ Below w.heap.size w wr)
  case atStart => exact ⟨0, rfl, Nat.zero_le _, rfl, Below.refl _ _⟩
  case round =>
    obtain ⟨j, rfl, hj, rfl, hb⟩ := hrel
    by_cases hlt : j < n
    · obtain ⟨x, hx⟩ : ∃ x, us[j]? = some x := ⟨us[j]'(by have := HH.out.2.2.1; omega), List.getElem?_eq_getElem _⟩
      obtain ⟨y, hy⟩ : ∃ y, vs[j]? = some y := ⟨vs[j]'(by have := HH.out.2.2.1; have := HH.out.2.2.2.1; omega), List.getElem?_eq_getElem _⟩
      obtain ⟨a, rfl, c0'⟩ := HH.out.1 (j * 1 + 0) _ ((C_at us j x hx 0 (by decide)).trans rfl)
      obtain ⟨b, rfl, d0'⟩ := HH.out.2.1 (j * 1 + 0) _ ((C_at vs j y hy 0 (by decide)).trans rfl)
      obtain ⟨zs, hzl, hzA, hzB⟩ := HH.out.2.2.2.2 j x y hx hy
      have c0 : wr.cell? (a.add j) = some (.slice x.1 x.2.1 x.2.2) := by
        have h1 : w.cell? (a.add j) = some (.slice x.1 x.2.1 x.2.2) := by simpa using c0'
        exact (hb.cell (World.block_lt_of_cell? w _ h1)).trans h1
      have d0 : wr.cell? (b.add j) = some (.slice y.1 y.2.1 y.2.2) := by
        have h1 : w.cell? (b.add j) = some (.slice y.1 y.2.1 y.2.2) := by simpa using d0'
        exact (hb.cell (World.block_lt_of_cell? w _ h1)).trans h1
      have hSm := fun W (hw : Below wr.heap.size wr W) => BTokens.same_b (sl x) (sl y) zs W (by omega) ((hzA.below hb).below hw) ((hzB.below hb).below hw)
      unfold sl at hSm
      have HS : Hid _ := hSm
      have HBl : Hid _ := hb
      clear c0' d0' hx hy hzA hzB hSm hb
      have q0 : (0 : Int) ≤ (j : Int) := by omega
      have q1 : (j : Int) < (n : Int) := by omega
      go_upto_region 6 with fail
      go_cut [26] (fun s26 wx => s26 = .bool false ∧ Below w.heap.size w wx)
      case first =>
        go_region_held3 (fun w' => w'.cell? (a.add j) = some (.slice x.1 x.2.1 x.2.2) ∧ w'.cell? (b.add j) = some (.slice y.1 y.2.1 y.2.2)) (go_keep)
          ((first
            | (go_at_call 10; refine (HS.out _ (by repeat (first | exact Below.refl _ _ | assumption | refine Below.drew ?_ | refine Below.setCell ?_ (by simp) _ | refine Below.alloc ?_ (by simp) _))).mono ?_; rintro r8 w8 ⟨rfl, hb8'⟩; have hb8 := below_of_drew3 hb8'; have c0 := (hb8.cell (World.block_lt_of_cell? _ _ c0)).trans c0; have d0 := (hb8.cell (World.block_lt_of_cell? _ _ d0)).trans d0; have H8 : Hid _ := HBl.out.trans (hb8.mono HBl.out.size); clear hb8 hb8' HS)
            | fail))
        all_goals (refine Met.intro ?_; apply_assumption; refine Met.intro ?_; apply_assumption; (repeat apply Exists.intro); refine ⟨?rel, rfl⟩; case rel => exact ⟨rfl, by first | exact H8.out | exact below_drewN H8.out _⟩)
      case rest =>
        obtain ⟨rfl, hb9⟩ := hcut
        have H9 : Hid _ := hb9
        clear hb9 HS c0 d0
        go_wp2_with fail
        go_roundg (n - (j + 1))
        case measure => omega
        case rel => exact ⟨j + 1, rfl, by omega, by go_num, H9.out⟩
    · obtain rfl : j = n := by omega
      have q1 : ¬ (j : Int) < (j : Int) := by omega
      have HBl : Hid _ := hb
      clear hb
      go_wp2
      go_ret
      exact ⟨rfl, HBl.out⟩
end Go.Proofs.YthcboklkejlifaaGreatDoor.BLines
