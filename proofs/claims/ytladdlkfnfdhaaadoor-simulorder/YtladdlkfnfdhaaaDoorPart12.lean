/- Texts of this claim, joined: SyNum, BSame, SyEq, SyCls, SmCls, SmAl, SmLw0, SmLw1. -/
import Derived.Test.YtladdlkfnfdhaaaDoorPart3
import Derived.Test.YtladdlkfnfdhaaaDoorPart11
import Derived.Maps.OwnSet
import Derived.WalkSmall
import Derived.Test.YtladdlkfnfdhaaaDoorPart0
import Derived.Deep.QuietTactic
import Derived.BigQuiet
import Derived.Deep.LoopGhost
import Derived.Test.YtladdlkfnfdhaaaDoorPart4
namespace Go.Proofs.YtladdlkfnfdhaaaDoor
section
open Go.RowKit Go.Maps
attribute [local go_sem ↓] Go.wp_at_zero Go.wp_at_succ
/-- The map tells each class's place among those that were seen. -/
structure MapI (D : DataW Unit) (ns : List Int) : Prop where
  yes : ∀ (i : Nat) (z : Int), ns[i]? = some z → Maps.has D (.int .i64 z) = true ∧ D.atKey (.int .i64 z) (.lit (.int .i64 0)) = .lit (.int .i64 i)
  no : ∀ z : Int, z ∉ ns → Maps.has D (.int .i64 z) = false
  size : Maps.size D = ns.length
theorem MapI.nil : MapI (.map []) [] := ⟨fun i s h => by simp at h, fun s _ => rfl, rfl⟩
theorem ikey_inj {a b : Int} (h : Lit.int .i64 a = Lit.int .i64 b) : a = b := by injection h
theorem MapI.snoc {D : DataW Unit} {ns : List Int} (h : MapI D ns) (hD : IsMap D) (hT : Tidy D) (s : Int) (hs : s ∉ ns) : MapI (D.put (.int .i64 s) (.lit (.int .i64 ns.length))) (ns ++ [s]) := by
  refine ⟨fun i t ht => ?_, fun t ht => ?_, ?_⟩
  · rcases Nat.lt_or_ge i ns.length with hi | hi
    · rw [List.getElem?_append_left hi] at ht
      have hne : Lit.int .i64 t ≠ Lit.int .i64 s := fun e => hs (ikey_inj e ▸ List.mem_of_getElem? ht)
      rw [has_put_other hne, atKey_put_other hne]
      exact h.yes i t ht
    · rw [List.getElem?_append_right hi] at ht
      have hi0 : i - ns.length = 0 := by
        have := (List.getElem?_eq_some_iff.1 ht).1
        simp at this; omega
      rw [hi0] at ht
      simp at ht
      subst ht
      have : i = ns.length := by omega
      subst this
      have hk : WideAt.IsKeyLit (.int .i64 s) := trivial
      exact ⟨has_put_same hD hk _, atKey_put_same hD hk _ _⟩
  · have hne : Lit.int .i64 t ≠ Lit.int .i64 s := fun e => ht (by rw [ikey_inj e]; simp)
    rw [has_put_other hne]
    exact h.no t fun hm => ht (by simp [hm])
  · rw [size_put hT, h.no s hs]
    simp [h.size]
theorem Sy.place_mem {z : Int} {l : List Int} : Sy.place z l < l.length ↔ z ∈ l := by
  induction l with
  | nil => simp [Sy.place]
  | cons a r ih =>
    unfold Sy.place
    by_cases h : a = z
    · simp [h]
    · have h2 : z ≠ a := fun e => h e.symm
      simp [h, h2, ← ih]
theorem Sy.place_no {z : Int} {l : List Int} (h : z ∉ l) : Sy.place z l = l.length := by
  have h1 := Sy.place_le z l
  have h2 : ¬ Sy.place z l < l.length := fun e => h (Sy.place_mem.1 e)
  omega
theorem Tryd.lawI7 : Keyed Tryd.prog 3 := int_keyed Tryd.underlying3
theorem Tryd.zeroI7 (w : World) : (zeroValue 3).run Tryd.prog w = .ok (.int .i64 0) w := by kernel_rfl
/-- The list being made, and the map, in memory. -/
structure NumAt (w wr : World) (zs : List Int) (n i : Nat) (D : DataW Unit) (seen : List Int) : Prop where
  arr : Arr 3 w wr (w.heap.size + 1) (natC (Sy.canonG [] (zs.take i)) ++ List.replicate (n - i) (.int .i64 0))
  own : wr.ownsMap (H := Unit) Tryd.prog 3 (plainElem Tryd.prog 3) w.heap.size seen.length D
  map : MapI D seen
theorem Sy.top_canonG (l : List Int) : ∀ seen : List Int, max seen.length (Sy.top (Sy.canonG seen l)) = (Sy.seenG seen l).length := by
  induction l with
  | nil => intro seen; simp [Sy.canonG, Sy.top, Sy.seenG]
  | cons c r ih =>
    intro seen
    simp only [Sy.canonG, Sy.top, Sy.seenG]
    rw [← ih]
    have h1 := Sy.place_le c seen
    split <;> (try simp) <;> omega
theorem Sy.together_eq (zs : List Int) : Sy.together zs = (Sy.seenG [] zs).length := by
  rw [← Sy.top_canonG zs []]
  simp [Sy.together, Sy.canon]
theorem arr_mapTurn {w wr w3 : World} {gi : Nat} {vs : List Value} {bm : Nat} (h : Arr 3 w wr gi vs) (hg : wr.grownBy w3 (some bm)) (hb : w.heap.size ≤ bm) (hne : bm ≠ gi) : Arr 3 w w3 gi vs :=
  h.kept (Kept.of_grown hg) fun b e => by injection e with e; subst e; exact ⟨hb, hne⟩
theorem num_step {w w3 w4 : World} {zs : List Int} {n i k : Nat} {D2 : DataW Unit} {seen s2 : List Int} {z : Int} (hz : zs[i]? = some z) (hi : i < n) (hn : n = zs.length) (hs : seen = Sy.seenG [] (zs.take i)) (hA : Arr 3 w w3 (w.heap.size + 1) (natC (Sy.canonG [] (zs.take i)) ++ List.replicate (n - i) (.int .i64 0)))
    (hk : k = Sy.place z seen) (h4 : w4 = w3.setCell ⟨w.heap.size + 1, i, none⟩ (.int .i64 (k : Int))) (ho : w3.ownsMap (H := Unit) Tryd.prog 3 (plainElem Tryd.prog 3) w.heap.size s2.length D2) (hm : MapI D2 s2) :
    NumAt w w4 zs n (i + 1) D2 s2 := by
  subst h4
  have hC : (Sy.canonG [] (zs.take i)).length = i := by rw [Sy.canonG_len, List.length_take]; omega
  have hAs := hA.set i (.int .i64 (k : Int))
  rw [natC_step _ n i k hC hi] at hAs
  refine ⟨?_, ho.setCell (by simp) _, hm⟩
  rw [Sy.canon_step hz, ← hs, ← hk]
  exact hAs
set_option maxRecDepth 100000 in
set_option maxHeartbeats 8000000 in
theorem numbered_any (v : Value) (zs : List Int) (w : World) (hv : HasI w v zs) (hn : zs.length ≤ 100000) (hw : I64s zs) :
    Calls Tryd.prog 35 #[v] w fun e w' => ∃ u, e = .returned (.tuple #[u, .int .i64 (Sy.together zs : Nat)]) ∧ OwnI w' w.heap.size u (natI (Sy.canon zs)) ∧ Below w.heap.size w w' := by
  obtain ⟨ao, cap, rfl, hcs⟩ := hv
  obtain ⟨n, hN⟩ : ∃ n, n = zs.length := ⟨_, rfl⟩
  have HH : Hid _ := And.intro hcs (And.intro hN hw)
  rw [← hN] at hn ⊢
  clear hcs hN hw
  have hmm := @run_makeMap Tryd.prog
  have hmk := makeI n (by omega) (w.alloc (.map #[] 0))
  go_enter Tryd.func35, Tryd.ntmps35
  go_wp2_with fail
  clear hmk hmm
  go_loopg [16] n (fun q iv wr => ∃ (i : Nat) (D : DataW Unit) (seen : List Int), q = n - i ∧ i ≤ n ∧ iv = .int .i64 i ∧ seen = Sy.seenG [] (zs.take i) ∧ NumAt w wr zs n i D seen)
  case atStart =>
    refine ⟨0, .map [], [], rfl, Nat.zero_le _, rfl, by simp [Sy.seenG], ?_, ?_, MapI.nil⟩
    · have h1 := arr_new 3 (.int .i64 0) rfl n (w.alloc (.map #[] 0))
      have h2 := h1.back ((Below.refl _ w).alloc (Nat.le_refl _) _)
      simpa [Sy.canonG, natC] using h2
    · have := World.ownsMap_made (H := Unit) w Tryd.prog 3 (plainElem Tryd.prog 3)
      exact this.alloc _
  case round =>
    obtain ⟨i, D, seen, rfl, hi, rfl, hseen, hM⟩ := hrel
    by_cases hlt : i < n
    · obtain ⟨z, hz⟩ : ∃ z, zs[i]? = some z := ⟨zs[i]'(by have := HH.out.2.1; omega), List.getElem?_eq_getElem _⟩
      obtain ⟨a, rfl, c0⟩ := HH.out.1 i z hz
      have cz : wr.cell? (a.add i) = some (.int .i64 z) := (hM.arr.bl.cell (World.block_lt_of_cell? w _ c0)).trans c0
      have hzw : (Lit.int .i64 z).wf = true := HH.out.2.2 z (List.mem_of_getElem? hz)
      have hkey : keyOf Tryd.prog 3 (.int .i64 z) = some (.int .i64 z) := keyOf_int_mk Tryd.underlying3 hzw
      have q0 : (0 : Int) ≤ (i : Int) := by omega
      have q1 : (i : Int) < (n : Int) := by omega
      have hsl : seen.length ≤ i := by
        have := Sy.seenG_len (zs.take i) []
        rw [← hseen, List.length_take] at this
        simp at this; omega
      have hix : (natC (Sy.canonG [] (zs.take i)) ++ List.replicate (n - i) (Value.int .i64 0))[i]? = some (.int .i64 0) := by
        rw [List.getElem?_append_right (by rw [natC_len, Sy.canonG_len, List.length_take]; omega), natC_len, Sy.canonG_len, List.length_take, List.getElem?_replicate, if_pos (by have := HH.out.2.1; omega)]
      have hst := Sy.seen_step hz
      rw [← hseen] at hst
      by_cases hin : z ∈ seen
      · obtain ⟨hy1, hy2⟩ := hM.map.yes _ z (Sy.place_at hin)
        have cx := hM.arr.cell hix
        have cf := hM.arr.free i
        rw [if_pos (Sy.place_mem.2 hin)] at hst
        have HO : Hid (wr.ownsMap (H := Unit) Tryd.prog 3 (plainElem Tryd.prog 3) w.heap.size seen.length D) := hM.own
        have HY : Hid (D.atKey (.int .i64 z) (.lit (.int .i64 0)) = .lit (.int .i64 (Sy.place z seen : Nat))) := hy2
        have HM : Hid _ := And.intro hM (And.intro hseen (And.intro hz hst))
        clear hM hseen hz hst hy2 hix c0 hin hzw
        obtain ⟨k, hk⟩ : ∃ k, k = Sy.place z seen := ⟨_, rfl⟩
        rw [← hk] at HY
        have HK : Hid (k = Sy.place z seen) := hk
        clear hk
        go_wp2_with (at_lookup; refine wpList_lookup_own_ok_int _ rfl _ _ 109 rfl 3 3 .i64 Tryd.lawI7 Tryd.underlying109 Tryd.underlying3 (Tryd.zeroI7 _) w.heap.size seen.length D rfl HO.out _ _ rfl hkey ?_; rw [hy1]; intro c hat hwc; obtain rfl : c = (k : Int) := (by rw [HY.out] at hat; injection hat with hat; injection hat with _ hat; exact hat.symm); clear hat hwc)
        go_roundg (n - (i + 1))
        case measure => omega
        case rel =>
          exact ⟨i + 1, D, seen, rfl, by omega, by go_num, HM.out.2.2.2.symm, num_step HM.out.2.2.1 hlt HH.out.2.1 HM.out.2.1 HM.out.1.arr HK.out rfl HO.out HM.out.1.map⟩
      · have hy1 := hM.map.no z hin
        rw [if_neg fun e => hin (Sy.place_mem.1 e)] at hst
        have HO : Hid (wr.ownsMap (H := Unit) Tryd.prog 3 (plainElem Tryd.prog 3) w.heap.size seen.length D) := hM.own
        have hml : seen.length < maxLen := by unfold maxLen; omega
        have hsz : Maps.size D = seen.length := hM.map.size
        obtain ⟨m, hm⟩ : ∃ m, m = seen.length := ⟨_, rfl⟩
        have HM : Hid _ := And.intro hM (And.intro hseen (And.intro hz (And.intro hst (And.intro hin (And.intro hix hm)))))
        rw [← hm] at HO hml hsz hsl
        have hwf : (Lit.int .i64 (m : Int)).wf = true := WalkArith.wf_i64 (by omega)
        have HS : Hid _ := hsz
        clear hM hseen hz hst hix c0 hin hzw hm hsz
        go_wp2_with (first
          | (at_lookup; refine wpList_lookup_own_ok_int _ rfl _ _ 109 rfl 3 3 .i64 Tryd.lawI7 Tryd.underlying109 Tryd.underlying3 (Tryd.zeroI7 _) w.heap.size m D rfl HO.out _ _ rfl hkey ?_; rw [hy1]; intro c hat hwc; clear hat hwc)
          | (at_len; refine wpList_len_own _ rfl _ 109 rfl 3 3 Tryd.underlying109 _ w.heap.size m D rfl HO.out ?_; rw [HS.out])
          | (at_mapUpdate; refine wpList_mapUpdate_own _ rfl _ _ _ 109 rfl 3 3 Tryd.lawI7 Tryd.underlying109 _ w.heap.size m D rfl HO.out hml _ _ _ rfl rfl hkey _ [] (plainElem_int Tryd.underlying3 hwf) ?_; intro w3 hown3 hgrow3; have hA3 := arr_mapTurn HM.out.1.arr hgrow3 (Nat.le_refl _) (by omega); have cx := hA3.cell HM.out.2.2.2.2.2.1; have cf := hA3.free i; have H3 : Hid _ := And.intro hA3 hown3; clear hA3 hown3 hgrow3))
        go_roundg (n - (i + 1))
        case measure => omega
        case rel =>
          have hm := HM.out.2.2.2.2.2.2
          have h3 := H3.out.2
          have hmp := HM.out.1.map.snoc HM.out.1.own.isMap (HM.out.1.own.tidy Tryd.lawI7) z HM.out.2.2.2.2.1
          rw [← hm] at hmp
          have el : m + 1 = (seen ++ [z]).length := by simp [hm]
          rw [el] at h3
          exact ⟨i + 1, _, seen ++ [z], rfl, by omega, by go_num, HM.out.2.2.2.1.symm, num_step HM.out.2.2.1 hlt HH.out.2.1 HM.out.2.1 H3.out.1 (by rw [Sy.place_no HM.out.2.2.2.2.1, hm]) rfl h3 hmp⟩
    · obtain rfl : i = n := by omega
      have hsz : Maps.size D = seen.length := hM.map.size
      have HO : Hid (wr.ownsMap (H := Unit) Tryd.prog 3 (plainElem Tryd.prog 3) w.heap.size seen.length D) := hM.own
      have HM : Hid _ := And.intro hM (And.intro hseen hsz)
      obtain ⟨m, hm⟩ : ∃ m, m = seen.length := ⟨_, rfl⟩
      rw [← hm] at HO
      have HS : Hid (Maps.size D = m) := hsz.trans hm.symm
      have HN : Hid _ := hm
      clear hM hseen hsz hm
      go_wp2_with (at_len; refine wpList_len_own _ rfl _ 109 rfl 3 3 Tryd.underlying109 _ w.heap.size m D rfl HO.out ?_; rw [HS.out])
      go_ret2
      have hA := HM.out.1.arr
      have hl : i = zs.length := HH.out.2.1
      rw [hl, Nat.sub_self, List.replicate_zero, List.append_nil, List.take_length] at hA
      have how := (hA.own (by rw [natC_len, Sy.canonG_len]; unfold maxLen; omega))
      rw [natC_len, Sy.canonG_len] at how
      refine ⟨.slice (some ⟨w.heap.size + 1, 0, none⟩) zs.length zs.length, by rw [HN.out, HM.out.2.1, hl, List.take_length, ← Sy.together_eq]; rfl, ?_, HM.out.1.arr.bl⟩
      unfold OwnI
      rw [iC_nat, show (natI (Sy.canon zs)).length = zs.length by simp [natI, Sy.canon, Sy.canonG_len]]
      exact how
end
section
open Go.RowKit Go.Maps
theorem take_both {α : Type} {a b : List α} {j : Nat} {x : α} (ha : a[j]? = some x) (hb : b[j]? = some x) (h : a.take j = b.take j) : a.take (j + 1) = b.take (j + 1) := by
  rw [take_succ_of ha, take_succ_of hb, h]
theorem eq_len {α : Type} {a b : List α} {n : Nat} (ha : a.length = n) (hb : b.length = n) (h : a.take n = b.take n) : a = b := by
  rw [List.take_of_length_le (by omega), List.take_of_length_le (by omega)] at h
  exact h
end
section
open Go.RowKit Go.Maps
theorem take_both5 {α : Type} {a b : List α} {j : Nat} {x : α} (ha : a[j]? = some x) (hb : b[j]? = some x) (h : a.take j = b.take j) : a.take (j + 1) = b.take (j + 1) := by
  rw [take_succ_of ha, take_succ_of hb, h]
theorem eq_len5 {α : Type} {a b : List α} {n : Nat} (ha : a.length = n) (hb : b.length = n) (h : a.take n = b.take n) : a = b := by
  rw [List.take_of_length_le (by omega), List.take_of_length_le (by omega)] at h
  exact h
end
section
open Go.RowKit Go.Maps
namespace Sy
theorem natI_range_len (k : Nat) : (natI (List.range k)).length = k := by simp [natI]
theorem place_range (k : Nat) (c : Int) (h0 : 0 ≤ c) (h1 : c ≤ k) : ((place c (natI (List.range k)) : Nat) : Int) = c := by
  obtain ⟨m, rfl⟩ : ∃ m : Nat, c = (m : Int) := ⟨c.toNat, by omega⟩
  by_cases h : m < k
  · have hm : (m : Int) ∈ natI (List.range k) := by
      unfold natI
      exact List.mem_map.2 ⟨m, List.mem_range.2 h, rfl⟩
    have h2 := place_at hm
    obtain ⟨hl, h3⟩ := List.getElem?_eq_some_iff.1 h2
    simp only [natI, List.getElem_map, List.getElem_range] at h3
    exact h3
  · obtain rfl : m = k := by omega
    rw [place_not, natI_range_len]
    intro hm
    unfold natI at hm
    obtain ⟨x, hx, e⟩ := List.mem_map.1 hm
    have := List.mem_range.1 hx
    omega
theorem formG_own (l : List Int) : ∀ k : Nat, formG k l = true → natI (canonG (natI (List.range k)) l) = l := by
  induction l with
  | nil => intro k _; rfl
  | cons c r ih =>
    intro k h
    simp only [formG, Bool.and_eq_true, decide_eq_true_eq] at h
    obtain ⟨⟨h0, h1⟩, h2⟩ := h
    have hp := place_range k c h0 h1
    show ((place c (natI (List.range k)) : Nat) : Int) :: natI (canonG (if place c (natI (List.range k)) < (natI (List.range k)).length then natI (List.range k) else natI (List.range k) ++ [c]) r) = c :: r
    rw [hp]
    congr 1
    rw [natI_range_len]
    by_cases e : c = (k : Int)
    · rw [if_pos e] at h2
      rw [if_neg (by omega)]
      have h3 := ih (k + 1) h2
      rw [List.range_succ] at h3
      subst e
      simpa [natI] using h3
    · rw [if_neg e] at h2
      rw [if_pos (by omega)]
      exact ih k h2
theorem formG_iff (l : List Int) : formG 0 l = (l == natI (canon l)) := by
  cases h : formG 0 l with
  | true =>
    have h1 := formG_own l 0 h
    symm
    rw [beq_iff_eq]
    exact h1.symm
  | false =>
    symm
    rw [beq_eq_false_iff_ne]
    intro e
    have h1 := formG_canon l []
    rw [show canonG [] l = canon l from rfl, ← e] at h1
    rw [show ([] : List Int).length = 0 from rfl, h] at h1
    cases h1
end Sy
set_option maxRecDepth 100000 in
theorem pCanon : PCanon := fun v zs W hv hn hw => by
  have hC := numbered_any v zs W hv hn hw
  go_enter Tryd.func18, Tryd.ntmps18
  go_wp2_with (go_at_call 35; refine hC.mono ?_; rintro r w1 ⟨u, rfl, hO, hb⟩; have HO : Hid _ := And.intro hO hb; clear hO hb)
  go_ret
  exact ⟨u, rfl, HO.out.1, HO.out.2⟩
end
section
open Go.RowKit Go.Maps
attribute [local go_sem ↓] Go.wp_at_zero Go.wp_at_succ
theorem lea_spec {A : Nat → Nat → Bool} {n p : Nat} (hp : p < n) (hpp : A p p = true) : leaS A n p < n ∧ A p (leaS A n p) = true ∧ A (leaS A n p) p = true ∧ ∀ z, z < leaS A n p → ¬ (A p z = true ∧ A z p = true) := by
  cases h : (Br.els (A p) n).find? fun q => A q p with
  | none =>
    have := List.find?_eq_none.1 h p (Br.els_mem.2 ⟨hp, hpp⟩)
    exact absurd hpp this
  | some x =>
    have e : leaS A n p = x := by unfold leaS; rw [h]; rfl
    rw [e]
    have h1 := List.find?_some h
    have h2 := Br.els_mem.1 (List.mem_of_find?_eq_some h)
    refine ⟨h2.1, h2.2, h1, fun z hz h3 => ?_⟩
    obtain ⟨xs, ys, h4, h5⟩ := List.find?_eq_some_iff_append.1 h |>.2
    have h6 : z ∈ Br.els (A p) n := Br.els_mem.2 ⟨by omega, h3.1⟩
    have hsrt : (Br.els (A p) n).Pairwise fun a b => a < b := by
      unfold Br.els
      exact List.Pairwise.filter _ (List.pairwise_lt_range)
    rw [h4] at h6 hsrt
    rcases List.mem_append.1 h6 with h7 | h7
    · have := h5 z h7
      rw [h3.2] at this
      simp at this
    · rcases List.mem_cons.1 h7 with rfl | h8
      · omega
      · have h9 := (List.pairwise_append.1 hsrt).2.1
        have := (List.pairwise_cons.1 h9).1 z h8
        omega
theorem lea_lt {A : Nat → Nat → Bool} {n p : Nat} (hp : p < n) : leaS A n p < n := by
  cases h : (Br.els (A p) n).find? fun q => A q p with
  | none => unfold leaS; rw [h]; exact hp
  | some x => unfold leaS; rw [h]; exact (Br.els_mem.1 (List.mem_of_find?_eq_some h)).1
/-- Two states have one least just if they simulate one another. -/
theorem lea_iff {E : Nat → Nat → Nat → Prop} {A : Nat → Nat → Bool} {n p q : Nat} (hA : ∀ p q, p < n → q < n → (A p q = true ↔ Sm.Sims E p q)) (hp : p < n) (hq : q < n) : leaS A n p = leaS A n q ↔ Sm.Sims E p q ∧ Sm.Sims E q p := by
  have rf : ∀ x, x < n → A x x = true := fun x hx => (hA x x hx hx).2 (Sm.sims_refl E x)
  obtain ⟨p1, p2, p3, p4⟩ := lea_spec hp (rf p hp)
  obtain ⟨q1, q2, q3, q4⟩ := lea_spec hq (rf q hq)
  constructor
  · intro e
    rw [← e] at q1 q2 q3
    have a1 := (hA _ _ hp p1).1 p2
    have a2 := (hA _ _ p1 hp).1 p3
    have b1 := (hA _ _ hq q1).1 q2
    have b2 := (hA _ _ q1 hq).1 q3
    exact ⟨Sm.sims_trans a1 b2, Sm.sims_trans b1 a2⟩
  · rintro ⟨h1, h2⟩
    have a1 := (hA _ _ hp p1).1 p2
    have a2 := (hA _ _ p1 hp).1 p3
    have b1 := (hA _ _ hq q1).1 q2
    have b2 := (hA _ _ q1 hq).1 q3
    rcases Nat.lt_trichotomy (leaS A n p) (leaS A n q) with h | h | h
    · exact absurd ⟨(hA _ _ hq p1).2 (Sm.sims_trans h2 a1), (hA _ _ p1 hq).2 (Sm.sims_trans a2 h1)⟩ (q4 _ h)
    · exact h
    · exact absurd ⟨(hA _ _ hp q1).2 (Sm.sims_trans h1 b1), (hA _ _ q1 hp).2 (Sm.sims_trans b2 h2)⟩ (p4 _ h)
/-- The classes, before they are brought into the one form. -/
def leaL (A : Nat → Nat → Bool) (n : Nat) : List Int := (List.range n).map fun p => ((leaS A n p : Nat) : Int)
theorem leaL_len (A : Nat → Nat → Bool) (n : Nat) : (leaL A n).length = n := by simp [leaL]
theorem leaL_at {A : Nat → Nat → Bool} {n p : Nat} (hp : p < n) : (leaL A n)[p]? = some ((leaS A n p : Nat) : Int) := by
  unfold leaL
  rw [List.getElem?_map, List.getElem?_range hp]
  rfl
theorem AbAt.other9 {ty : TypeId} {w w5 : World} {n d g m p : Nat} {es : List Sy.Ed} {ga : Nat} {ra : Nat → Lc} {A : Nat → Nat → Bool} {f : Nat → Value} {u : Value} (h : AbAt w w5 n d es ga ra A) (k : ListAt ty w5 g m f) (t1 : ty ≠ 99) (t2 : ty ≠ 72) (hg : w.heap.size ≤ g) : AbAt w (w5.setCell ⟨g, p, none⟩ u) n d es ga ra A :=
  ⟨h.r.other k t1 (list_list_ne h.r.lst k t2), h.sim, h.bd, h.bl.trans ((Kept.setCell w5 g p u).below h.bl.size fun i hi => by omega)⟩
set_option linter.unusedSimpArgs false in
set_option maxRecDepth 100000 in
set_option maxHeartbeats 8000000 in
theorem mclasses_ok (hS : SortOk 1000000) (m kk : Nat) (s : Int) (v : Value) (es : List Sy.Ed) (a : Addr) (w : World) (hA : Sent w 0 a) (hT : TabW w) (hv : BEdges.Has w v es) (hm : es.length ≤ 100000) (hq : Sy.right m kk s es = true) (hn : m ≤ 300) :
    Calls Tryd.prog 8 #[sysV m kk s v] w fun r w' => ∃ u A, r = .returned (.tuple #[u, .nilIface]) ∧ OwnI w' w.heap.size u (natI (Sy.canon (leaL A m))) ∧ (∀ p q, p < m → q < m → (A p q = true ↔ Sm.Sims (EE es) p q)) ∧ Below w.heap.size w w' := by
  have hv0 := hv
  obtain ⟨ao, cap, rfl, _⟩ := hv0
  obtain ⟨L, hL⟩ : ∃ L, L = es.length := ⟨_, rfl⟩
  obtain ⟨w1, hw1⟩ : ∃ w1, w1 = w.alloc (.cells #[.int .i64 m, .int .i64 kk, .int .i64 s, .slice ao L cap] 24) := ⟨_, rfl⟩
  have hb1 : Below w.heap.size w w1 := by rw [hw1]; exact (Below.refl _ _).alloc (Nat.le_refl _) _
  have hg1 : w1.heap[w.heap.size]? = some (.cells #[.int .i64 m, .int .i64 kk, .int .i64 s, .slice ao L cap] 24 (0, 0)) := by rw [hw1]; exact heap_alloc_new w _
  have hN := aboveOf_ok hS m kk s _ es a w1 (hA.below hb1) (hT.below hT.lt hb1) (hv.below hb1) hm hq hn
  rw [← hL] at hN ⊢
  unfold sysV at hN ⊢
  obtain ⟨x0, x1, x2, x3⟩ := four_cells9 hg1
  have H1 : Hid _ := And.intro hN (And.intro hb1 (And.intro hw1 hT))
  have mk := fun W => makeI m (by omega) W
  clear hA hT hv hm hq hN hb1 hw1 hL
  go_enter Tryd.func8, Tryd.ntmps8
  go_upto_region 1 with fail
  rw [← H1.out.2.2.1]
  go_upto_region 5 with (go_at_call 15; refine Calls.mono H1.out.1 ?_; rintro r2 w2 ⟨ga, ra, A, rfl, hAb⟩; have H2 : Hid (AbAt w1 w2 m (Br.wds m) es ga ra A) := hAb; have y0 := cell_up x0 hAb.bl; clear hAb)
  clear mk x0 x1 x2 x3 hg1 y0
  obtain ⟨w3, hw3⟩ : ∃ w3, w3 = w2.alloc (.cells (madeV (.int .i64 0) m) 3) := ⟨_, rfl⟩
  have hb3 : Below w2.heap.size w2 w3 := by rw [hw3]; exact (Below.refl _ _).alloc (Nat.le_refl _) _
  have hb02 := H1.out.2.1.trans (H2.out.bl.mono H1.out.2.1.size)
  rw [← hw3]
  have H3 : Hid (ListAt 3 w3 w2.heap.size m (fun _ => .int .i64 0) ∧ AbAt w1 w3 m (Br.wds m) es ga ra A ∧ Below w.heap.size w w3 ∧ Below w.heap.size w w2) := ⟨by rw [hw3]; exact listAt_new 3 (.int .i64 0) rfl w2 m, H2.out.below hb3, hb02.trans (hb3.mono hb02.size), hb02⟩
  clear hw3 hb3 hb02
  go_wp2_with fail
  go_loopg [22] m (fun q iv wr => ∃ p : Nat, q = m - p ∧ p ≤ m ∧ iv = .int .i64 p ∧ ListAt 3 wr w2.heap.size m (fun i => .int .i64 (if i < p then ((leaS A m i : Nat) : Int) else 0)) ∧ AbAt w1 wr m (Br.wds m) es ga ra A ∧ Below w.heap.size w wr)
  case atStart => exact ⟨0, rfl, Nat.zero_le _, rfl, H3.out.1.congr fun i _ => by simp, H3.out.2.1, H3.out.2.2.1⟩
  case round =>
    obtain ⟨p, rfl, hp, rfl, hL, hB, hb⟩ := hrel
    obtain ⟨wo, rfl⟩ : ∃ wo, wo = wr := ⟨_, rfl⟩
    by_cases hlt : p < m
    · have q0 : (0 : Int) ≤ (p : Int) := by omega
      have q1 : (p : Int) < (m : Int) := by omega
      have hLe := leastOf_any rfl (by omega) hB (H1.out.2.2.2.below H1.out.2.2.2.lt hb) hlt
      have HP : Hid _ := And.intro hLe (And.intro hL (And.intro hB hb))
      clear hLe hL hB hb
      go_wp2_with (go_at_call 17; refine Calls.mono HP.out.1 ?_; rintro r3 w4 ⟨rfl, hb4⟩; have d0 := (HP.out.2.1.below hb4).cell hlt; have d1 := (HP.out.2.1.below hb4).free p; have H4 : Hid _ := hb4; clear hb4)
      have hl4 := HP.out.2.1.below H4.out
      have hg2 : w1.heap.size ≤ w2.heap.size := H2.out.bl.size
      have hn := (HP.out.2.2.1.below H4.out).other9 (p := p) (u := .int .i64 (leaS A m p : Nat)) hl4 (by decide) (by decide) hg2
      have hl5 : ListAt 3 (w4.setCell ⟨w2.heap.size, p, none⟩ (.int .i64 (leaS A m p : Nat))) w2.heap.size m (fun i => .int .i64 (if i < p + 1 then ((leaS A m i : Nat) : Int) else 0)) := (hl4.put _).congr fun i _ => by
        by_cases e : i = p
        · subst e; rw [if_pos rfl, if_pos (by omega)]
        · rw [if_neg e]
          by_cases e2 : i < p
          · rw [if_pos e2, if_pos (by omega)]
          · rw [if_neg e2, if_neg (by omega)]
      have hb5 := (HP.out.2.2.2.trans (H4.out.mono HP.out.2.2.2.size)).trans ((Kept.setCell w4 w2.heap.size p (.int .i64 (leaS A m p : Nat))).below (Nat.le_trans HP.out.2.2.2.size H4.out.size) fun i hi => by have := H3.out.2.2.2.size; omega)
      have HF : Hid _ := And.intro hl5 (And.intro hn hb5)
      clear hl4 hn hl5 hb5
      go_roundg (m - (p + 1))
      case measure => omega
      case rel => exact ⟨p + 1, rfl, by omega, by go_num, HF.out.1, HF.out.2.1, HF.out.2.2⟩
    · obtain rfl : m = p := by omega
      have q1 : ¬ (m : Int) < (m : Int) := by omega
      have hH : HasI wo (.slice (some ⟨w2.heap.size, 0, none⟩) m m) (leaL A m) := ⟨_, m, by rw [leaL_len], fun i z hz => ⟨_, rfl, by
        have hl := (List.getElem?_eq_some_iff.1 hz).1
        rw [leaL_len] at hl
        rw [leaL_at hl] at hz
        injection hz with hz
        subst hz
        rw [addz]
        have := hL.cell hl
        rw [if_pos hl] at this
        exact this⟩⟩
      have hCa := pCanon _ _ wo hH (by rw [leaL_len]; omega) (fun z hz => by
        unfold leaL at hz
        obtain ⟨x, hx, rfl⟩ := List.mem_map.1 hz
        have := lea_lt (A := A) (List.mem_range.1 hx)
        simp only [Lit.wf, IntKind.min, IntKind.max, IntKind.signed, IntKind.bits]
        simp
        omega)
      have HP : Hid _ := And.intro hCa (And.intro hB hb)
      clear hCa hL hB hb hH
      go_wp2_with (go_at_call 18; refine Calls.mono HP.out.1 ?_; rintro r4 w4 ⟨u, rfl, hO, hb4⟩; obtain ⟨au, cu, hu⟩ := row_shape hO; subst hu; have H4 : Hid _ := And.intro hO hb4; clear hO hb4)
      go_ret2
      exact ⟨_, A, rfl, row_base H4.out.1 HP.out.2.2.size, fun p q hp hq => HP.out.2.1.sim p q hp hq, HP.out.2.2.trans (H4.out.2.mono HP.out.2.2.size)⟩
end
section
open Go.RowKit Go.Maps
attribute [local go_sem ↓] Go.wp_at_zero Go.wp_at_succ
def esT17 : List Sy.Ed := [(0, 1, 1)]
theorem esT17_right : Sy.right ((3 : Nat) : Int) ((2 : Nat) : Int) 0 esT17 = true := by decide
theorem esT17_ee (p a t : Nat) : EE esT17 p a t ↔ p = 0 ∧ a = 1 ∧ t = 1 := by
  unfold EE esT17
  simp only [List.mem_singleton, Prod.mk.injEq]
  omega
theorem esT17_10 : Sm.Sims (EE esT17) 1 0 := (Sm.sims_iff _ 1 0).2 fun a t h => by
  have := (esT17_ee 1 a t).1 h
  omega
theorem esT17_01 : ¬ Sm.Sims (EE esT17) 0 1 := fun h => by
  obtain ⟨u, hu, _⟩ := (Sm.sims_iff _ 0 1).1 h 1 1 ((esT17_ee 0 1 1).2 ⟨rfl, rfl, rfl⟩)
  have := (esT17_ee 1 1 u).1 hu
  omega
theorem esT17_12 : Sm.Sims (EE esT17) 1 2 ∧ Sm.Sims (EE esT17) 2 1 := by
  refine ⟨(Sm.sims_iff _ 1 2).2 fun a t h => ?_, (Sm.sims_iff _ 2 1).2 fun a t h => ?_⟩
  · have := (esT17_ee 1 a t).1 h; omega
  · have := (esT17_ee 2 a t).1 h; omega
theorem esT17_cls {A : Nat → Nat → Bool} (hA : ∀ p q, p < 3 → q < 3 → (A p q = true ↔ Sm.Sims (EE esT17) p q)) : natI (Sy.canon (leaL A 3)) = [0, 1, 1] := by
  have h01 : leaS A 3 0 ≠ leaS A 3 1 := fun e => esT17_01 ((lea_iff hA (by decide) (by decide)).1 e).1
  have h12 : leaS A 3 1 = leaS A 3 2 := (lea_iff hA (by decide) (by decide)).2 esT17_12
  have e : leaL A 3 = [((leaS A 3 0 : Nat) : Int), ((leaS A 3 1 : Nat) : Int), ((leaS A 3 1 : Nat) : Int)] := by
    unfold leaL
    rw [show List.range 3 = [0, 1, 2] from rfl]
    simp only [List.map_cons, List.map_nil, ← h12]
  rw [e]
  generalize leaS A 3 0 = x at h01
  generalize leaS A 3 1 = y at h01
  have h : ¬ (x : Int) = (y : Int) := by omega
  simp [natI, Sy.canon, Sy.canonG, Sy.place, h]
theorem esT17_has (w : World) : BEdges.Has (w.alloc (.cells #[.int .i64 0, .int .i64 1, .int .i64 1] 46)) (.slice (some ⟨w.heap.size, 0, none⟩) 1 1) esT17 := by
  refine ⟨some ⟨w.heap.size, 0, none⟩, 1, rfl, fun j u hj => ⟨_, rfl, ?_⟩⟩
  rw [addz]
  refine cell0_of (heap_alloc_new w _) ?_
  rw [← Array.getElem?_toList]
  exact hj
/-- What the calls ask of the world. -/
structure EnvM (w : World) (aS : Addr) : Prop where
  sy : Sent w 0 aS
  tab : TabW w
theorem EnvM.below {w w' : World} {aS : Addr} (h : EnvM w aS) (hb : Below w.heap.size w w') : EnvM w' aS := ⟨h.sy.below hb, h.tab.below h.tab.lt hb⟩
set_option maxRecDepth 100000 in
set_option maxHeartbeats 4000000 in
theorem alive17_any (hS : SortOk 1000000) (aS : Addr) (W : World) (hE : EnvM W aS) : Calls Tryd.prog 6 #[] W fun r w' => r = .returned (.bool true) ∧ Below W.heap.size W w' := by
  obtain ⟨w1, hw1⟩ : ∃ w1, w1 = W.alloc (.cells #[.int .i64 0, .int .i64 1, .int .i64 1] 46) := ⟨_, rfl⟩
  have hb1 : Below W.heap.size W w1 := by rw [hw1]; exact (Below.refl _ _).alloc (Nat.le_refl _) _
  have hv := esT17_has W
  rw [← hw1] at hv
  obtain ⟨w2, hw2⟩ : ∃ w2, w2 = w1.alloc (.cells #[.int .i64 3, .int .i64 2, .int .i64 0, .slice (some ⟨W.heap.size, 0, none⟩) 1 1] 24) := ⟨_, rfl⟩
  have hb2 : Below w1.heap.size w1 w2 := by rw [hw2]; exact (Below.refl _ _).alloc (Nat.le_refl _) _
  have hg2 : w2.heap[w1.heap.size]? = some (.cells #[.int .i64 3, .int .i64 2, .int .i64 0, .slice (some ⟨W.heap.size, 0, none⟩) 1 1] 24 (0, 0)) := by rw [hw2]; exact heap_alloc_new w1 _
  have hbW : Below W.heap.size W w2 := hb1.trans (hb2.mono hb1.size)
  have hBl := fun W4 (p q : Nat) (hp : p < 3) (hq : q < 3) (h4 : Below w2.heap.size w2 W4) => mbelow_ok hS 3 2 p q 0 (.slice (some ⟨W.heap.size, 0, none⟩) 1 1) esT17 aS W4 ((hE.below hbW).below h4).sy ((hE.below hbW).below h4).tab ((hv.below hb2).below h4) (by decide) esT17_right (by decide) hp hq
  have hCl := fun W4 (h4 : Below w2.heap.size w2 W4) => mclasses_ok hS 3 2 0 (.slice (some ⟨W.heap.size, 0, none⟩) 1 1) esT17 aS W4 ((hE.below hbW).below h4).sy ((hE.below hbW).below h4).tab ((hv.below hb2).below h4) (by decide) esT17_right (by decide)
  unfold sysV at hCl hBl
  have hsz : w1.heap.size = W.heap.size + 1 := by rw [hw1]; simp
  have h10 := hBl w2 1 0 (by decide) (by decide) (Below.refl _ _)
  have H1 : Hid _ := And.intro hw2 (And.intro hw1 (And.intro hg2 (And.intro hCl (And.intro hbW (And.intro hBl h10)))))
  obtain ⟨x0, x1, x2, x3⟩ := four_cells9 hg2
  clear hw1 hb1 hv hw2 hb2 hg2 hbW hCl hE hBl h10
  go_enter Tryd.func6, Tryd.ntmps6
  go_upto_region 2 with fail
  rw [← H1.out.2.1, ← H1.out.1]
  rw [hsz] at x0 x1 x2 x3
  go_upto_region 3 with (go_at_call 13; refine Calls.mono H1.out.2.2.2.2.2.2 ?_; rintro r w3 ⟨b3, rfl, hb3, hbl3⟩; obtain rfl : true = b3 := (hb3.2 esT17_10).symm; have H3 : Hid _ := hbl3; clear hb3 hbl3)
  have hg3 := (H3.out.block _ (t_lt H1.out.2.2.1)).trans H1.out.2.2.1
  rw [hsz] at hg3
  have h01 := H1.out.2.2.2.2.2.1 w3 0 1 (by decide) (by decide) H3.out
  have H01 : Hid _ := h01
  clear x0 x1 x2 x3 h01
  obtain ⟨x0, x1, x2, x3⟩ := four_cells9 hg3
  go_upto_region 4 with (go_at_call 13; refine Calls.mono H01.out ?_; rintro r w4 ⟨b4, rfl, hb4, hbl4⟩; obtain rfl : false = b4 := (by cases b4 with | false => rfl | true => exact absurd (hb4.1 rfl) esT17_01); have H4 : Hid _ := hbl4; clear hb4 hbl4)
  have hg4 := (H4.out.block _ (t_lt hg3)).trans hg3
  have hcl := H1.out.2.2.2.1 w4 (H3.out.trans (H4.out.mono H3.out.size))
  have HC : Hid _ := hcl
  clear x0 x1 x2 x3 hcl hg3
  obtain ⟨x0, x1, x2, x3⟩ := four_cells9 hg4
  clear hg4
  go_upto_region 5 with (go_at_call 8; refine Calls.mono HC.out ?_; rintro r w5 ⟨u5, A5, rfl, hO5, hA5, hb5⟩; rw [esT17_cls hA5] at hO5; obtain ⟨a5, c5, hu5⟩ := row_shape hO5; simp only [List.length_cons, List.length_nil] at hu5; subst hu5; obtain ⟨gs5, hga5, hl5⟩ := own_num hO5 (j := 2) (z := 1) rfl; subst hga5; have H5 : Hid _ := hb5; clear hO5 hA5 hb5)
  clear x0 x1 x2 x3
  go_wp2_with fail
  go_ret
  have h6 : Below W.heap.size W w3 := H1.out.2.2.2.2.1.trans (H3.out.mono H1.out.2.2.2.2.1.size)
  have h7 := h6.trans (H4.out.mono h6.size)
  exact ⟨rfl, h7.trans (H5.out.mono h7.size)⟩
end
section
open Go.RowKit Go.Maps
attribute [local go_sem ↓] Go.wp_at_zero Go.wp_at_succ
/-- Is the system small, and is it one? -/
def smallB (n k s : Int) (es : List Sy.Ed) : Bool := decide (n ≤ 25) && decide (es.length ≤ 150) && Sy.right n k s es
set_option linter.unusedSimpArgs false in
set_option maxRecDepth 100000 in
set_option maxHeartbeats 4000000 in
theorem small_any17 (n k s : Int) (v : Value) (es : List Sy.Ed) (a : Addr) (w : World) (hA : Sent w 0 a) (hv : BEdges.Has w v es) :
    Calls Tryd.prog 5 #[sysV n k s v] w fun r w' => r = .returned (.bool (smallB n k s es)) ∧ Below w.heap.size w w' := by
  have hv0 := hv
  obtain ⟨ao, cap, rfl, _⟩ := hv0
  obtain ⟨L, hL⟩ : ∃ L, L = es.length := ⟨_, rfl⟩
  obtain ⟨w1, hw1⟩ : ∃ w1, w1 = w.alloc (.cells #[.int .i64 n, .int .i64 k, .int .i64 s, .slice ao L cap] 24) := ⟨_, rfl⟩
  have hb1 : Below w.heap.size w w1 := by rw [hw1]; exact (Below.refl _ _).alloc (Nat.le_refl _) _
  have hg1 : w1.heap[w.heap.size]? = some (.cells #[.int .i64 n, .int .i64 k, .int .i64 s, .slice ao L cap] 24 (0, 0)) := by rw [hw1]; exact heap_alloc_new w _
  have hC := check_any n k s _ es a w1 (hA.below hb1) (hv.below hb1)
  unfold smallB
  rw [← hL] at hC ⊢
  unfold sysV at hC ⊢
  obtain ⟨x0, x1, x2, x3⟩ := four_cells9 hg1
  have H1 : Hid _ := And.intro hC (And.intro hb1 hw1)
  obtain ⟨rt, hrt⟩ : ∃ rt, rt = Sy.right n k s es := ⟨_, rfl⟩
  rw [← hrt] at H1 ⊢
  clear hA hv hC hb1 hw1 hL hg1 hrt
  by_cases h1 : n ≤ 25
  · by_cases h2 : L ≤ 150
    · have h3 : (L : Int) ≤ 150 := by omega
      rw [decide_eq_true h1, decide_eq_true h2, Bool.true_and, Bool.true_and]
      go_enter Tryd.func5, Tryd.ntmps5
      go_upto_region 1 with fail
      rw [← H1.out.2.2]
      go_wp2_with fail
      refine Calls.mono H1.out.1 ?_
      rintro r w2 ⟨x, rfl, hx, hb2⟩
      have H2 : Hid _ := And.intro hb2 trivial
      clear hb2
      cases rt
      · obtain ⟨b, u, rfl, _, _⟩ := hx
        go_wp2_with fail
        go_ret
        exact ⟨rfl, H1.out.2.1.trans (H2.out.1.mono H1.out.2.1.size)⟩
      · have hx2 : x = .nilIface := hx
        subst hx2
        clear hx
        go_wp2_with fail
        go_ret
        exact ⟨rfl, H1.out.2.1.trans (H2.out.1.mono H1.out.2.1.size)⟩
    · have h3 : ¬ (L : Int) ≤ 150 := by omega
      rw [decide_eq_true h1, decide_eq_false h2]
      go_enter Tryd.func5, Tryd.ntmps5
      go_upto_region 1 with fail
      rw [← H1.out.2.2]
      go_wp2_with fail
      go_ret
      exact ⟨rfl, H1.out.2.1⟩
  · rw [decide_eq_false h1]
    go_enter Tryd.func5, Tryd.ntmps5
    go_upto_region 1 with fail
    rw [← H1.out.2.2]
    go_wp2_with fail
    go_ret
    exact ⟨rfl, H1.out.2.1⟩
open Classical in
/-- Does the second one simulate the first one? -/
noncomputable def simB (E : Nat → Nat → Nat → Prop) (p q : Nat) : Bool := decide (Sm.Sims E p q)
theorem simB_iff (E : Nat → Nat → Nat → Prop) (p q : Nat) : simB E p q = true ↔ Sm.Sims E p q := by simp [simB]
end
section
open Go.RowKit Go.Maps
attribute [local go_sem ↓] Go.wp_at_zero Go.wp_at_succ
/-- Rows of bools in memory: the first i of them. -/
structure MxAt (w w' : World) (n g : Nat) (b : Nat → Nat) (X : Nat → Nat → Bool) (i : Nat) : Prop where
  lst : ListAt 35 w' g n fun p => if p < i then .slice (some ⟨b p, 0, none⟩) n n else .slice none 0 0
  row : ∀ p, p < i → ListAt 4 w' (b p) n fun q => .bool (X p q)
  ug : w.heap.size ≤ g
  ur : ∀ p, p < i → w.heap.size ≤ b p
  inj : ∀ p q, p < i → q < i → p ≠ q → b p ≠ b q
  bl : Below w.heap.size w w'
theorem MxAt.below {w w' w2 : World} {n g : Nat} {b : Nat → Nat} {X : Nat → Nat → Bool} {i : Nat} (h : MxAt w w' n g b X i) (hb : Below w'.heap.size w' w2) : MxAt w w2 n g b X i := ⟨h.lst.below hb, fun p hp => (h.row p hp).below hb, h.ug, h.ur, h.inj, h.bl.trans (hb.mono h.bl.size)⟩
theorem MxAt.congr {w w' : World} {n g : Nat} {b : Nat → Nat} {X Y : Nat → Nat → Bool} {i : Nat} (h : MxAt w w' n g b X i) (hX : ∀ p q, p < i → q < n → X p q = Y p q) : MxAt w w' n g b Y i := ⟨h.lst, fun p hp => (h.row p hp).congr fun q hq => by rw [hX p q hp hq], h.ug, h.ur, h.inj, h.bl⟩
/-- One more row. -/
theorem MxAt.more {w wo wa : World} {n g p : Nat} {b : Nat → Nat} {X : Nat → Nat → Bool} (h : MxAt w wo n g b X p) (hwa : wa = wo.alloc (.cells (madeV (.bool false) n) 4)) : MxAt w (wa.setCell ⟨g, p, none⟩ (.slice (some ⟨wo.heap.size, 0, none⟩) n n)) n g (upd b p wo.heap.size) (upd X p fun _ => false) (p + 1) := by
  have hb : Below wo.heap.size wo wa := by rw [hwa]; exact (Below.refl _ _).alloc (Nat.le_refl _) _
  have ha := h.below hb
  have hn : ListAt 4 wa wo.heap.size n fun _ => .bool false := by rw [hwa]; exact listAt_new 4 (.bool false) rfl wo n
  have hne : ∀ {x m : Nat} {f : Nat → Value}, ListAt 4 wa x m f → x ≠ g := fun k => list_list_ne k ha.lst (by decide)
  refine ⟨(ha.lst.put _).congr fun q _ => ?_, fun q hq => ?_, h.ug, fun q hq => ?_, fun q r hq hr hqr => ?_, ha.bl.trans ((Kept.setCell wa g p _).below ha.bl.size fun i hi => by have := h.ug; omega)⟩
  · show (if q = p then _ else _) = _
    by_cases e : q = p
    · subst e; rw [if_pos rfl, if_pos (by omega), upd_same]
    · rw [if_neg e, upd_ne _ _ e]
      by_cases e2 : q < p
      · rw [if_pos e2, if_pos (by omega)]
      · rw [if_neg e2, if_neg (by omega)]
  · by_cases e : q = p
    · subst e; rw [upd_same, upd_same]; exact hn.other (hne hn)
    · rw [upd_ne _ _ e, upd_ne _ _ e]; exact (ha.row q (by omega)).other (hne (ha.row q (by omega)))
  · by_cases e : q = p
    · subst e; rw [upd_same]; exact h.bl.size
    · rw [upd_ne _ _ e]; exact h.ur q (by omega)
  · have lt : ∀ x, x < p → b x < wo.heap.size := fun x hx => (h.row x hx).lt
    by_cases e : q = p
    · subst e; rw [upd_same, upd_ne _ _ fun e => hqr e.symm]; have := lt r (by omega); omega
    · rw [upd_ne _ _ e]
      by_cases e2 : r = p
      · subst e2; rw [upd_same]; have := lt q (by omega); omega
      · rw [upd_ne _ _ e2]; exact h.inj q r (by omega) (by omega) hqr
/-- A place is marked. -/
theorem MxAt.put {w wr : World} {n g p q i : Nat} {b : Nat → Nat} {X : Nat → Nat → Bool} (h : MxAt w wr n g b X i) (hp : p < i) : MxAt w (wr.setCell ⟨b p, q, none⟩ (.bool true)) n g b (upd X p fun z => X p z || decide (z = q)) i := by
  have hr := h.row p hp
  refine ⟨h.lst.other (fun e => list_list_ne hr h.lst (by decide) e.symm), fun x hx => ?_, h.ug, h.ur, h.inj, h.bl.trans ((Kept.setCell wr (b p) q _).below h.bl.size fun i hi => by have := h.ur p hp; omega)⟩
  by_cases e : x = p
  · subst e
    rw [upd_same]
    refine (hr.put _).congr fun z _ => ?_
    show (if z = q then _ else _) = _
    by_cases e2 : z = q <;> simp [e2]
  · rw [upd_ne _ _ e]
    exact (h.row x hx).other (h.inj x p hx hp e)
theorem AlAt.below {w w' w2 : World} {n g i : Nat} {es : List Sy.Ed} {f : Nat → Value} (h : AlAt w w' n es g f i) (hb : Below w'.heap.size w' w2) : AlAt w w2 n es g f i := ⟨h.lst.below hb, fun p hp => by
  obtain ⟨S, h1, h2⟩ := h.own p hp
  exact ⟨S, trow_at h1 fun b hx => hb.block b (h1.lt b hx).2, h2⟩, h.ug, h.bl.trans (hb.mono h.bl.size)⟩
theorem AlAt.other {ty : TypeId} {w w' : World} {n g i x y m : Nat} {es : List Sy.Ed} {f k : Nat → Value} {v : Value} (h : AlAt w w' n es g f i) (hk : ListAt ty w' x m k) (t1 : ty ≠ 3) (t2 : ty ≠ 30) (hx : w.heap.size ≤ x) : AlAt w (w'.setCell ⟨x, y, none⟩ v) n es g f i :=
  ⟨h.lst.other (list_list_ne h.lst hk t2), fun p hp => by
    obtain ⟨S, h1, h2⟩ := h.own p hp
    refine ⟨S, trow_at h1 fun b hb => set_other w' x y b v fun e => ?_, h2⟩
    obtain ⟨c, hc⟩ := row_cells h1 hb
    obtain ⟨c2, hc2, _⟩ := hk
    rw [e, hc2] at hc
    injection hc with e2
    injection e2 with _ e3
    exact t1 e3, h.ug, h.bl.trans ((Kept.setCell w' x y v).below h.bl.size fun i hi => by omega)⟩
theorem AlAt.base {w0 w w' : World} {n g i : Nat} {es : List Sy.Ed} {f : Nat → Value} (h : AlAt w w' n es g f i) (hb : Below w0.heap.size w0 w) : AlAt w0 w' n es g f i := ⟨h.lst, fun p hp => by
  obtain ⟨S, h1, h2⟩ := h.own p hp
  exact ⟨S, row_base h1 hb.size, h2⟩, Nat.le_trans hb.size h.ug, hb.trans (h.bl.mono hb.size)⟩
theorem els_has {S : Nat → Bool} {n q : Nat} (hq : q < n) : (Br.els S n).contains q = S q := by
  rw [Bool.eq_iff_iff, List.contains_iff_mem, Br.els_mem]
  exact ⟨fun h => h.2, fun h => ⟨hq, h⟩⟩
theorem els_put {l : List Nat} {j q : Nat} (h : l[j]? = some q) (z : Nat) : ((l.take j).contains z || decide (z = q)) = (l.take (j + 1)).contains z := by
  rw [take_succ9 h, Bool.eq_iff_iff, Bool.or_eq_true, List.contains_iff_mem, List.contains_iff_mem, List.mem_append, List.mem_singleton, decide_eq_true_eq]
theorem own_other {ty : TypeId} {w : World} {B g m p : Nat} {u v : Value} {zs : List Int} {f : Nat → Value} (h : OwnI w B u zs) (k : ListAt ty w g m f) (t1 : ty ≠ 3) : OwnI (w.setCell ⟨g, p, none⟩ v) B u zs := trow_at h fun b hb => set_other w g p b v fun e => by
  obtain ⟨c, hc⟩ := row_cells h hb
  obtain ⟨c2, hc2, _⟩ := k
  rw [e, hc2] at hc
  injection hc with e2
  injection e2 with _ e3
  exact t1 e3
theorem Tryd.infoBB : (Tryd.prog.info? 35).map (fun i => (i.zero, i.size, i.bytes)) = some (some (.slice none 0 0), 1, 24) := by kernel_rfl
theorem makeBB (n : Nat) (hn : n ≤ 1000000) (w : World) : (Instr.makeSlice 27 (.int .i64 (n : Int)) (.int .i64 (n : Int))).run Tryd.prog w = .ok (.slice (some ⟨w.heap.size, 0, none⟩) n n) (w.alloc (.cells (madeV (.slice none 0 0) n) 35)) := make_of _ _ _ 24 Tryd.underlying27 Tryd.infoBB n hn (by decide) w
set_option linter.unusedSimpArgs false in
set_option maxRecDepth 100000 in
set_option maxHeartbeats 8000000 in
theorem labove_ok (hS : SortOk 1000000) (m kk : Nat) (s : Int) (v : Value) (es : List Sy.Ed) (a : Addr) (w : World) (hE : EnvM w a) (hv : BEdges.Has w v es) (hm : es.length ≤ 100000) (hq : Sy.right m kk s es = true) (hn : m ≤ 300) :
    Calls Tryd.prog 7 #[sysV m kk s v] w fun r w' => ∃ g b, r = .returned (.tuple #[.slice (some ⟨g, 0, none⟩) m m, .bool true]) ∧ MxAt w w' m g b (simB (EE es)) m := by
  have hv0 := hv
  obtain ⟨ao, cap, rfl, _⟩ := hv0
  obtain ⟨L, hL⟩ : ∃ L, L = es.length := ⟨_, rfl⟩
  obtain ⟨w1, hw1⟩ : ∃ w1, w1 = w.alloc (.cells #[.int .i64 m, .int .i64 kk, .int .i64 s, .slice ao L cap] 24) := ⟨_, rfl⟩
  have hb1 : Below w.heap.size w w1 := by rw [hw1]; exact (Below.refl _ _).alloc (Nat.le_refl _) _
  have hg1 : w1.heap[w.heap.size]? = some (.cells #[.int .i64 m, .int .i64 kk, .int .i64 s, .slice ao L cap] 24 (0, 0)) := by rw [hw1]; exact heap_alloc_new w _
  have hN := above_ok hS m kk s _ es a w1 (hE.below hb1).sy (hE.below hb1).tab (hv.below hb1) hm hq hn
  rw [← hL] at hN ⊢
  unfold sysV at hN ⊢
  obtain ⟨x0, x1, x2, x3⟩ := four_cells9 hg1
  have H1 : Hid _ := And.intro hN (And.intro hb1 (And.intro hw1 hg1))
  have mk := fun W => makeBB m (by omega) W
  clear hE hv hm hq hN hb1 hw1 hL hg1
  go_enter Tryd.func7, Tryd.ntmps7
  go_upto_region 1 with fail
  rw [← H1.out.2.2.1]
  go_upto_region 5 with (go_at_call 14; refine Calls.mono H1.out.1 ?_; rintro r2 w2 ⟨gl, f, rfl, hAl⟩; have H2 : Hid (AlAt w1 w2 m es gl f m) := hAl; have y0 := cell_up x0 hAl.bl; clear hAl)
  clear mk x0 x1 x2 x3 y0
  obtain ⟨w3, hw3⟩ : ∃ w3, w3 = w2.alloc (.cells (madeV (.slice none 0 0) m) 35) := ⟨_, rfl⟩
  have hb3 : Below w2.heap.size w2 w3 := by rw [hw3]; exact (Below.refl _ _).alloc (Nat.le_refl _) _
  have hb02 := H1.out.2.1.trans (H2.out.bl.mono H1.out.2.1.size)
  have hM0 : MxAt w2 w3 m w2.heap.size (fun _ => 0) (simB (EE es)) 0 := ⟨by rw [hw3]; exact (listAt_new 35 (.slice none 0 0) rfl w2 m).congr fun p _ => by simp, fun p hp => by omega, Nat.le_refl _, fun p hp => by omega, fun p q hp => by omega, hb3⟩
  rw [← hw3]
  have hb13 := H2.out.bl.trans (hb3.mono H2.out.bl.size)
  have H3 : Hid (MxAt w2 w3 m w2.heap.size (fun _ => 0) (simB (EE es)) 0 ∧ AlAt w1 w3 m es gl f m) := ⟨hM0, H2.out.below hb3⟩
  clear hw3 hb3 hM0 hb13
  have hsz : w1.heap.size = w.heap.size + 1 := by rw [H1.out.2.2.1]; simp
  have hsz2 : w1.heap.size ≤ w2.heap.size := H2.out.bl.size
  go_wp2_with fail
  go_loopg [7] m (fun q iv wr => ∃ (p : Nat) (b : Nat → Nat), q = m - p ∧ p ≤ m ∧ iv = .int .i64 p ∧ MxAt w2 wr m w2.heap.size b (simB (EE es)) p ∧ AlAt w1 wr m es gl f m)
  case atStart => exact ⟨0, _, rfl, Nat.zero_le _, rfl, H3.out.1, H3.out.2⟩
  case round =>
    obtain ⟨p, b, rfl, hp, rfl, hM, hAl⟩ := hrel
    obtain ⟨wo, rfl⟩ : ∃ wo, wo = wr := ⟨_, rfl⟩
    have hgo := (hAl.bl.block _ (by omega)).trans H1.out.2.2.2
    obtain ⟨x0, _, _, _⟩ := four_cells9 hgo
    by_cases hlt : p < m
    · have q0 : (0 : Int) ≤ (p : Int) := by omega
      have q1 : (p : Int) < (m : Int) := by omega
      have mkb := makeB m (by omega) wo
      obtain ⟨wa, hwa⟩ : ∃ wa, wa = wo.alloc (.cells (madeV (.bool false) m) 4) := ⟨_, rfl⟩
      have hba : Below wo.heap.size wo wa := by rw [hwa]; exact (Below.refl _ _).alloc (Nat.le_refl _) _
      have hla := hM.lst.below hba
      have d0 := hla.cell hlt
      simp only [Nat.lt_irrefl, if_false] at d0
      have d1 := hla.free p
      obtain ⟨wb, hwb⟩ : ∃ wb, wb = wa.setCell ⟨w2.heap.size, p, none⟩ (.slice (some ⟨wo.heap.size, 0, none⟩) m m) := ⟨_, rfl⟩
      have hMb := hM.more hwa
      have hAb := (hAl.below hba).other (y := p) (v := .slice (some ⟨wo.heap.size, 0, none⟩) m m) hla (by decide) (by decide) hsz2
      rw [← hwb] at hMb hAb
      obtain ⟨S, hO, hSi⟩ := hAb.own p hlt
      have c0 := hAb.lst.cell hlt
      rw [if_pos hlt] at c0
      obtain ⟨au, cu, hu⟩ := row_shape hO
      obtain ⟨N, hN⟩ : ∃ N, N = (natI (Br.els S m)).length := ⟨_, rfl⟩
      rw [← hN] at hu
      rw [hu] at c0 hO
      have hNm : N ≤ m := by rw [hN]; have := Br.els_len S m; simp [natI]; exact this
      rw [← hwa] at mkb
      have HP : Hid _ := And.intro hwb (And.intro hMb (And.intro hAb (And.intro hO (And.intro hSi hN))))
      clear hM hAl hwa hba hla hwb hMb hAb hO hSi hN hu hgo
      go_upto_region 9 with fail
      rw [← HP.out.1]
      clear mkb d0 d1
      go_wp2_with fail
      go_loopg [44] N (fun q iv wr => ∃ j : Nat, q = N - j ∧ j ≤ N ∧ iv = .int .i64 j ∧ MxAt w2 wr m w2.heap.size (upd b p wo.heap.size) (upd (simB (EE es)) p fun z => ((Br.els S m).take j).contains z) (p + 1) ∧ AlAt w1 wr m es gl f m ∧ OwnI wr w1.heap.size (.slice au N cu) (natI (Br.els S m)))
      case atStart => exact ⟨0, rfl, Nat.zero_le _, rfl, HP.out.2.1.congr fun x y _ _ => by
        unfold upd
        split <;> simp, HP.out.2.2.1, HP.out.2.2.2.1⟩
      case round =>
        obtain ⟨j, rfl, hj, rfl, hM, hAl, hO⟩ := hrel
        have hgo := (hAl.bl.block _ (by omega)).trans H1.out.2.2.2
        obtain ⟨x0, _, _, _⟩ := four_cells9 hgo
        by_cases hjN : j < N
        · obtain ⟨q, hq⟩ : ∃ q, (Br.els S m)[j]? = some q := ⟨_, List.getElem?_eq_getElem (by have := HP.out.2.2.2.2.2; simp [natI] at this; omega)⟩
          have hqm := (Br.els_mem.1 (List.mem_of_getElem? hq)).1
          obtain ⟨gs, rfl, e0⟩ := own_num hO (j := j) (z := (q : Int)) (by unfold natI; rw [List.getElem?_map, hq]; rfl)
          have c1 := hM.lst.cell hlt
          rw [if_pos (Nat.lt_succ_self p), upd_same] at c1
          have hr := hM.row p (Nat.lt_succ_self p)
          rw [upd_same] at hr
          have c2 := hr.cell hqm
          have c3 := hr.free q
          have hMp := hM.put (q := q) (Nat.lt_succ_self p)
          rw [upd_same] at hMp
          have hle : w1.heap.size ≤ wo.heap.size := by have := hM.ur p (Nat.lt_succ_self p); rw [upd_same] at this; omega
          have hA2 := hAl.other (y := q) (v := .bool true) hr (by decide) (by decide) hle
          have hO2 := own_other (p := q) (v := .bool true) hO hr (by decide)
          have HJ : Hid _ := And.intro hMp (And.intro hA2 (And.intro hO2 hq))
          have r0 : (0 : Int) ≤ (j : Int) := by omega
          have r1 : (j : Int) < (N : Int) := by omega
          have r2 : (0 : Int) ≤ (q : Int) := by omega
          have r3 : (q : Int) < (m : Int) := by omega
          have r4 : ¬ (q : Int) < 0 := by omega
          have r5 : ¬ (m : Int) ≤ (q : Int) := by omega
          clear hM hAl hO hr hMp hA2 hO2 hgo hq
          go_wp2_with fail
          go_roundg (N - (j + 1))
          case measure => omega
          case rel =>
            refine ⟨j + 1, rfl, by omega, by go_num, HJ.out.1.congr fun x y _ _ => ?_, HJ.out.2.1, HJ.out.2.2.1⟩
            by_cases e : x = p
            · subst e
              simp only [upd_same]
              exact els_put HJ.out.2.2.2 y
            · simp only [upd_ne _ _ e]
        · obtain rfl : N = j := by omega
          have r1 : ¬ (N : Int) < (N : Int) := by omega
          have HJ : Hid _ := And.intro hM hAl
          clear hM hAl hO hgo
          go_wp2_with fail
          go_roundg (m - (p + 1))
          case measure => omega
          case rel =>
            refine ⟨p + 1, _, rfl, by omega, by go_num, HJ.out.1.congr fun x y hx hy => ?_, HJ.out.2⟩
            by_cases e : x = p
            · subst e
              rw [upd_same, List.take_of_length_le (by have := HP.out.2.2.2.2.2; simp [natI] at this; omega), els_has hy, Bool.eq_iff_iff, simB_iff]
              exact HP.out.2.2.2.2.1 y hy
            · rw [upd_ne _ _ e]
    · obtain rfl : m = p := by omega
      have q1 : ¬ (m : Int) < (m : Int) := by omega
      have HP : Hid _ := And.intro hM hAl
      clear hM hAl hgo
      go_wp2_with fail
      go_ret2
      refine ⟨w2.heap.size, rfl, b, ⟨HP.out.1.lst, HP.out.1.row, ?_, fun p hp => ?_, HP.out.1.inj, ?_⟩⟩
      · have := H1.out.2.1.size; omega
      · have h1 := HP.out.1.ur p hp; omega
      · exact hb02.trans (HP.out.1.bl.mono hb02.size)
end
end Go.Proofs.YtladdlkfnfdhaaaDoor
