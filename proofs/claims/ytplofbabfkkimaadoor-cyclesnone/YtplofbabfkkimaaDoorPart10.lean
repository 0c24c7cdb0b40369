/- Texts of this claim, joined: SyNum, BSame, SyEq, SyCls, TsCyc2, TsBtw, TsCol0, TsOrd0, Shelf2. -/
import Derived.Test.YtplofbabfkkimaaDoorPart7
import Derived.Test.YtplofbabfkkimaaDoorPart9
import Derived.Maps.OwnSet
import Derived.WalkSmall
import Derived.Test.YtplofbabfkkimaaDoorPart0
import Derived.Deep.QuietTactic
import Derived.BigQuiet
import Derived.Deep.LoopGhost
import Derived.Test.YtplofbabfkkimaaDoorTsCyc1
import Derived.Test.YtplofbabfkkimaaDoorPart6
import Derived.Deep.AppendLies
import Derived.Ground.Names2Prog
import Derived.Shelf.Slices.SearchI
import Derived.Shelf.Slices.Empties
import Derived.Shelf.Spec.SlicesInsert
import Derived.Shelf.Spec.SlicesInsertGrow
import Derived.Test.YtplofbabfkkimaaDoorProg
/- Contracts of the program's numbered, Canon, Together and Classes. -/
namespace Go.Proofs.YtplofbabfkkimaaDoor
open Go.RowKit Go.Maps
attribute [local go_sem ↓] Go.wp_at_zero Go.wp_at_succ
/-- The map tells each class's place among those that were seen. -/
structure MapI (D : DataW Unit) (ns : List Int) : Prop where
  yes : ∀ (i : Nat) (z : Int), ns[i]? = some z → Maps.has D (.int .i64 z) = true ∧ D.atKey (.int .i64 z) (.lit (.int .i64 0)) = .lit (.int .i64 i)
  no : ∀ z : Int, z ∉ ns → Maps.has D (.int .i64 z) = false
  size : Maps.size D = ns.length
theorem MapI.nil : MapI (.map []) [] := ⟨fun i s h => by simp at h, fun s _ => rfl, rfl⟩
theorem ikey_inj {a b : Int} (h : Lit.int .i64 a = Lit.int .i64 b) : a = b := by injection h
theorem MapI.snoc {D : DataW Unit} {ns : List Int} (h : MapI D ns) (hD : IsMap D) (hT : Tidy D) (s : Int) (hs : s ∉ ns) : MapI (D.put (.int .i64 s) (.lit (.int .i64 ns.length))) (ns ++ [s]) := by
  refine ⟨fun i t ht => ?_, fun t ht => ?_, ?_⟩
  · rcases Nat.lt_or_ge i ns.length with hi | hi
    · rw [List.getElem?_append_left hi] at ht
      have hne : Lit.int .i64 t ≠ Lit.int .i64 s := fun e => hs (ikey_inj e ▸ List.mem_of_getElem? ht)
      rw [has_put_other hne, atKey_put_other hne]
      exact h.yes i t ht
    · rw [List.getElem?_append_right hi] at ht
      have hi0 : i - ns.length = 0 := by
        have := (List.getElem?_eq_some_iff.1 ht).1
        simp at this; omega
      rw [hi0] at ht
      simp at ht
      subst ht
      have : i = ns.length := by omega
      subst this
      have hk : WideAt.IsKeyLit (.int .i64 s) := trivial
      exact ⟨has_put_same hD hk _, atKey_put_same hD hk _ _⟩
  · have hne : Lit.int .i64 t ≠ Lit.int .i64 s := fun e => ht (by rw [ikey_inj e]; simp)
    rw [has_put_other hne]
    exact h.no t fun hm => ht (by simp [hm])
  · rw [size_put hT, h.no s hs]
    simp [h.size]
theorem Sy.place_mem {z : Int} {l : List Int} : Sy.place z l < l.length ↔ z ∈ l := by
  induction l with
  | nil => simp [Sy.place]
  | cons a r ih =>
    unfold Sy.place
    by_cases h : a = z
    · simp [h]
    · have h2 : z ≠ a := fun e => h e.symm
      simp [h, h2, ← ih]
theorem Sy.place_no {z : Int} {l : List Int} (h : z ∉ l) : Sy.place z l = l.length := by
  have h1 := Sy.place_le z l
  have h2 : ¬ Sy.place z l < l.length := fun e => h (Sy.place_mem.1 e)
  omega
theorem Tryd.lawI7 : Keyed Tryd.prog 3 := int_keyed Tryd.underlying3
theorem Tryd.zeroI7 (w : World) : (zeroValue 3).run Tryd.prog w = .ok (.int .i64 0) w := by kernel_rfl
/-- The list being made, and the map, in memory. -/
structure NumAt (w wr : World) (zs : List Int) (n i : Nat) (D : DataW Unit) (seen : List Int) : Prop where
  arr : Arr 3 w wr (w.heap.size + 1) (natC (Sy.canonG [] (zs.take i)) ++ List.replicate (n - i) (.int .i64 0))
  own : wr.ownsMap (H := Unit) Tryd.prog 3 (plainElem Tryd.prog 3) w.heap.size seen.length D
  map : MapI D seen
theorem Sy.top_canonG (l : List Int) : ∀ seen : List Int, max seen.length (Sy.top (Sy.canonG seen l)) = (Sy.seenG seen l).length := by
  induction l with
  | nil => intro seen; simp [Sy.canonG, Sy.top, Sy.seenG]
  | cons c r ih =>
    intro seen
    simp only [Sy.canonG, Sy.top, Sy.seenG]
    rw [← ih]
    have h1 := Sy.place_le c seen
    split <;> (try simp) <;> omega
theorem Sy.together_eq (zs : List Int) : Sy.together zs = (Sy.seenG [] zs).length := by
  rw [← Sy.top_canonG zs []]
  simp [Sy.together, Sy.canon]
theorem arr_mapTurn {w wr w3 : World} {gi : Nat} {vs : List Value} {bm : Nat} (h : Arr 3 w wr gi vs) (hg : wr.grownBy w3 (some bm)) (hb : w.heap.size ≤ bm) (hne : bm ≠ gi) : Arr 3 w w3 gi vs :=
  h.kept (Kept.of_grown hg) fun b e => by injection e with e; subst e; exact ⟨hb, hne⟩
theorem num_step {w w3 w4 : World} {zs : List Int} {n i k : Nat} {D2 : DataW Unit} {seen s2 : List Int} {z : Int} (hz : zs[i]? = some z) (hi : i < n) (hn : n = zs.length) (hs : seen = Sy.seenG [] (zs.take i)) (hA : Arr 3 w w3 (w.heap.size + 1) (natC (Sy.canonG [] (zs.take i)) ++ List.replicate (n - i) (.int .i64 0)))
    (hk : k = Sy.place z seen) (h4 : w4 = w3.setCell ⟨w.heap.size + 1, i, none⟩ (.int .i64 (k : Int))) (ho : w3.ownsMap (H := Unit) Tryd.prog 3 (plainElem Tryd.prog 3) w.heap.size s2.length D2) (hm : MapI D2 s2) :
    NumAt w w4 zs n (i + 1) D2 s2 := by
  subst h4
  have hC : (Sy.canonG [] (zs.take i)).length = i := by rw [Sy.canonG_len, List.length_take]; omega
  have hAs := hA.set i (.int .i64 (k : Int))
  rw [natC_step _ n i k hC hi] at hAs
  refine ⟨?_, ho.setCell (by simp) _, hm⟩
  rw [Sy.canon_step hz, ← hs, ← hk]
  exact hAs
set_option maxRecDepth 100000 in
set_option maxHeartbeats 8000000 in
theorem numbered_any (v : Value) (zs : List Int) (w : World) (hv : HasI w v zs) (hn : zs.length ≤ 100000) (hw : I64s zs) :
    Calls Tryd.prog 38 #[v] w fun e w' => ∃ u, e = .returned (.tuple #[u, .int .i64 (Sy.together zs : Nat)]) ∧ OwnI w' w.heap.size u (natI (Sy.canon zs)) ∧ Below w.heap.size w w' := by
  obtain ⟨ao, cap, rfl, hcs⟩ := hv
  obtain ⟨n, hN⟩ : ∃ n, n = zs.length := ⟨_, rfl⟩
  have HH : Hid _ := And.intro hcs (And.intro hN hw)
  rw [← hN] at hn ⊢
  clear hcs hN hw
  have hmm := @run_makeMap Tryd.prog
  have hmk := makeI n (by omega) (w.alloc (.map #[] 0))
  go_enter Tryd.func38, Tryd.ntmps38
  go_wp2_with fail
  clear hmk hmm
  go_loopg [16] n (fun q iv wr => ∃ (i : Nat) (D : DataW Unit) (seen : List Int), q = n - i ∧ i ≤ n ∧ iv = .int .i64 i ∧ seen = Sy.seenG [] (zs.take i) ∧ NumAt w wr zs n i D seen)
  case atStart =>
    refine ⟨0, .map [], [], rfl, Nat.zero_le _, rfl, by simp [Sy.seenG], ?_, ?_, MapI.nil⟩
    · have h1 := arr_new 3 (.int .i64 0) rfl n (w.alloc (.map #[] 0))
      have h2 := h1.back ((Below.refl _ w).alloc (Nat.le_refl _) _)
      simpa [Sy.canonG, natC] using h2
    · have := World.ownsMap_made (H := Unit) w Tryd.prog 3 (plainElem Tryd.prog 3)
      exact this.alloc _
  case round =>
    obtain ⟨i, D, seen, rfl, hi, rfl, hseen, hM⟩ := hrel
    by_cases hlt : i < n
    · obtain ⟨z, hz⟩ : ∃ z, zs[i]? = some z := ⟨zs[i]'(by have := HH.out.2.1; omega), List.getElem?_eq_getElem _⟩
      obtain ⟨a, rfl, c0⟩ := HH.out.1 i z hz
      have cz : wr.cell? (a.add i) = some (.int .i64 z) := (hM.arr.bl.cell (World.block_lt_of_cell? w _ c0)).trans c0
      have hzw : (Lit.int .i64 z).wf = true := HH.out.2.2 z (List.mem_of_getElem? hz)
      have hkey : keyOf Tryd.prog 3 (.int .i64 z) = some (.int .i64 z) := keyOf_int_mk Tryd.underlying3 hzw
      have q0 : (0 : Int) ≤ (i : Int) := by omega
      have q1 : (i : Int) < (n : Int) := by omega
      have hsl : seen.length ≤ i := by
        have := Sy.seenG_len (zs.take i) []
        rw [← hseen, List.length_take] at this
        simp at this; omega
      have hix : (natC (Sy.canonG [] (zs.take i)) ++ List.replicate (n - i) (Value.int .i64 0))[i]? = some (.int .i64 0) := by
        rw [List.getElem?_append_right (by rw [natC_len, Sy.canonG_len, List.length_take]; omega), natC_len, Sy.canonG_len, List.length_take, List.getElem?_replicate, if_pos (by have := HH.out.2.1; omega)]
      have hst := Sy.seen_step hz
      rw [← hseen] at hst
      by_cases hin : z ∈ seen
      · obtain ⟨hy1, hy2⟩ := hM.map.yes _ z (Sy.place_at hin)
        have cx := hM.arr.cell hix
        have cf := hM.arr.free i
        rw [if_pos (Sy.place_mem.2 hin)] at hst
        have HO : Hid (wr.ownsMap (H := Unit) Tryd.prog 3 (plainElem Tryd.prog 3) w.heap.size seen.length D) := hM.own
        have HY : Hid (D.atKey (.int .i64 z) (.lit (.int .i64 0)) = .lit (.int .i64 (Sy.place z seen : Nat))) := hy2
        have HM : Hid _ := And.intro hM (And.intro hseen (And.intro hz hst))
        clear hM hseen hz hst hy2 hix c0 hin hzw
        obtain ⟨k, hk⟩ : ∃ k, k = Sy.place z seen := ⟨_, rfl⟩
        rw [← hk] at HY
        have HK : Hid (k = Sy.place z seen) := hk
        clear hk
        go_wp2_with (at_lookup; refine wpList_lookup_own_ok_int _ rfl _ _ 112 rfl 3 3 .i64 Tryd.lawI7 Tryd.underlying112 Tryd.underlying3 (Tryd.zeroI7 _) w.heap.size seen.length D rfl HO.out _ _ rfl hkey ?_; rw [hy1]; intro c hat hwc; obtain rfl : c = (k : Int) := (by rw [HY.out] at hat; injection hat with hat; injection hat with _ hat; exact hat.symm); clear hat hwc)
        go_roundg (n - (i + 1))
        case measure => omega
        case rel =>
          exact ⟨i + 1, D, seen, rfl, by omega, by go_num, HM.out.2.2.2.symm, num_step HM.out.2.2.1 hlt HH.out.2.1 HM.out.2.1 HM.out.1.arr HK.out rfl HO.out HM.out.1.map⟩
      · have hy1 := hM.map.no z hin
        rw [if_neg fun e => hin (Sy.place_mem.1 e)] at hst
        have HO : Hid (wr.ownsMap (H := Unit) Tryd.prog 3 (plainElem Tryd.prog 3) w.heap.size seen.length D) := hM.own
        have hml : seen.length < maxLen := by unfold maxLen; omega
        have hsz : Maps.size D = seen.length := hM.map.size
        obtain ⟨m, hm⟩ : ∃ m, m = seen.length := ⟨_, rfl⟩
        have HM : Hid _ := And.intro hM (And.intro hseen (And.intro hz (And.intro hst (And.intro hin (And.intro hix hm)))))
        rw [← hm] at HO hml hsz hsl
        have hwf : (Lit.int .i64 (m : Int)).wf = true := WalkArith.wf_i64 (by omega)
        have HS : Hid _ := hsz
        clear hM hseen hz hst hix c0 hin hzw hm hsz
        go_wp2_with (first
          | (at_lookup; refine wpList_lookup_own_ok_int _ rfl _ _ 112 rfl 3 3 .i64 Tryd.lawI7 Tryd.underlying112 Tryd.underlying3 (Tryd.zeroI7 _) w.heap.size m D rfl HO.out _ _ rfl hkey ?_; rw [hy1]; intro c hat hwc; clear hat hwc)
          | (at_len; refine wpList_len_own _ rfl _ 112 rfl 3 3 Tryd.underlying112 _ w.heap.size m D rfl HO.out ?_; rw [HS.out])
          | (at_mapUpdate; refine wpList_mapUpdate_own _ rfl _ _ _ 112 rfl 3 3 Tryd.lawI7 Tryd.underlying112 _ w.heap.size m D rfl HO.out hml _ _ _ rfl rfl hkey _ [] (plainElem_int Tryd.underlying3 hwf) ?_; intro w3 hown3 hgrow3; have hA3 := arr_mapTurn HM.out.1.arr hgrow3 (Nat.le_refl _) (by omega); have cx := hA3.cell HM.out.2.2.2.2.2.1; have cf := hA3.free i; have H3 : Hid _ := And.intro hA3 hown3; clear hA3 hown3 hgrow3))
        go_roundg (n - (i + 1))
        case measure => omega
        case rel =>
          have hm := HM.out.2.2.2.2.2.2
          have h3 := H3.out.2
          have hmp := HM.out.1.map.snoc HM.out.1.own.isMap (HM.out.1.own.tidy Tryd.lawI7) z HM.out.2.2.2.2.1
          rw [← hm] at hmp
          have el : m + 1 = (seen ++ [z]).length := by simp [hm]
          rw [el] at h3
          exact ⟨i + 1, _, seen ++ [z], rfl, by omega, by go_num, HM.out.2.2.2.1.symm, num_step HM.out.2.2.1 hlt HH.out.2.1 HM.out.2.1 H3.out.1 (by rw [Sy.place_no HM.out.2.2.2.2.1, hm]) rfl h3 hmp⟩
    · obtain rfl : i = n := by omega
      have hsz : Maps.size D = seen.length := hM.map.size
      have HO : Hid (wr.ownsMap (H := Unit) Tryd.prog 3 (plainElem Tryd.prog 3) w.heap.size seen.length D) := hM.own
      have HM : Hid _ := And.intro hM (And.intro hseen hsz)
      obtain ⟨m, hm⟩ : ∃ m, m = seen.length := ⟨_, rfl⟩
      rw [← hm] at HO
      have HS : Hid (Maps.size D = m) := hsz.trans hm.symm
      have HN : Hid _ := hm
      clear hM hseen hsz hm
      go_wp2_with (at_len; refine wpList_len_own _ rfl _ 112 rfl 3 3 Tryd.underlying112 _ w.heap.size m D rfl HO.out ?_; rw [HS.out])
      go_ret2
      have hA := HM.out.1.arr
      have hl : i = zs.length := HH.out.2.1
      rw [hl, Nat.sub_self, List.replicate_zero, List.append_nil, List.take_length] at hA
      have how := (hA.own (by rw [natC_len, Sy.canonG_len]; unfold maxLen; omega))
      rw [natC_len, Sy.canonG_len] at how
      refine ⟨.slice (some ⟨w.heap.size + 1, 0, none⟩) zs.length zs.length, by rw [HN.out, HM.out.2.1, hl, List.take_length, ← Sy.together_eq]; rfl, ?_, HM.out.1.arr.bl⟩
      unfold OwnI
      rw [iC_nat, show (natI (Sy.canon zs)).length = zs.length by simp [natI, Sy.canon, Sy.canonG_len]]
      exact how
end Go.Proofs.YtplofbabfkkimaaDoor
/- Contract of the book's SameInts. -/
namespace Go.Proofs.YtplofbabfkkimaaDoor
open Go.RowKit Go.Maps
theorem take_both {α : Type} {a b : List α} {j : Nat} {x : α} (ha : a[j]? = some x) (hb : b[j]? = some x) (h : a.take j = b.take j) : a.take (j + 1) = b.take (j + 1) := by
  rw [take_succ_of ha, take_succ_of hb, h]
theorem eq_len {α : Type} {a b : List α} {n : Nat} (ha : a.length = n) (hb : b.length = n) (h : a.take n = b.take n) : a = b := by
  rw [List.take_of_length_le (by omega), List.take_of_length_le (by omega)] at h
  exact h
end Go.Proofs.YtplofbabfkkimaaDoor
/- Contract of slices.Equal of numbers. -/
namespace Go.Proofs.YtplofbabfkkimaaDoor
open Go.RowKit Go.Maps
theorem take_both5 {α : Type} {a b : List α} {j : Nat} {x : α} (ha : a[j]? = some x) (hb : b[j]? = some x) (h : a.take j = b.take j) : a.take (j + 1) = b.take (j + 1) := by
  rw [take_succ_of ha, take_succ_of hb, h]
theorem eq_len5 {α : Type} {a b : List α} {n : Nat} (ha : a.length = n) (hb : b.length = n) (h : a.take n = b.take n) : a = b := by
  rw [List.take_of_length_le (by omega), List.take_of_length_le (by omega)] at h
  exact h
end Go.Proofs.YtplofbabfkkimaaDoor
/- Contracts of slices.Equal of numbers, and of the program's Canon, Together and Classes. -/
namespace Go.Proofs.YtplofbabfkkimaaDoor
open Go.RowKit Go.Maps
namespace Sy
theorem natI_range_len (k : Nat) : (natI (List.range k)).length = k := by simp [natI]
theorem place_range (k : Nat) (c : Int) (h0 : 0 ≤ c) (h1 : c ≤ k) : ((place c (natI (List.range k)) : Nat) : Int) = c := by
  obtain ⟨m, rfl⟩ : ∃ m : Nat, c = (m : Int) := ⟨c.toNat, by omega⟩
  by_cases h : m < k
  · have hm : (m : Int) ∈ natI (List.range k) := by
      unfold natI
      exact List.mem_map.2 ⟨m, List.mem_range.2 h, rfl⟩
    have h2 := place_at hm
    obtain ⟨hl, h3⟩ := List.getElem?_eq_some_iff.1 h2
    simp only [natI, List.getElem_map, List.getElem_range] at h3
    exact h3
  · obtain rfl : m = k := by omega
    rw [place_not, natI_range_len]
    intro hm
    unfold natI at hm
    obtain ⟨x, hx, e⟩ := List.mem_map.1 hm
    have := List.mem_range.1 hx
    omega
theorem formG_own (l : List Int) : ∀ k : Nat, formG k l = true → natI (canonG (natI (List.range k)) l) = l := by
  induction l with
  | nil => intro k _; rfl
  | cons c r ih =>
    intro k h
    simp only [formG, Bool.and_eq_true, decide_eq_true_eq] at h
    obtain ⟨⟨h0, h1⟩, h2⟩ := h
    have hp := place_range k c h0 h1
    show ((place c (natI (List.range k)) : Nat) : Int) :: natI (canonG (if place c (natI (List.range k)) < (natI (List.range k)).length then natI (List.range k) else natI (List.range k) ++ [c]) r) = c :: r
    rw [hp]
    congr 1
    rw [natI_range_len]
    by_cases e : c = (k : Int)
    · rw [if_pos e] at h2
      rw [if_neg (by omega)]
      have h3 := ih (k + 1) h2
      rw [List.range_succ] at h3
      subst e
      simpa [natI] using h3
    · rw [if_neg e] at h2
      rw [if_pos (by omega)]
      exact ih k h2
theorem formG_iff (l : List Int) : formG 0 l = (l == natI (canon l)) := by
  cases h : formG 0 l with
  | true =>
    have h1 := formG_own l 0 h
    symm
    rw [beq_iff_eq]
    exact h1.symm
  | false =>
    symm
    rw [beq_eq_false_iff_ne]
    intro e
    have h1 := formG_canon l []
    rw [show canonG [] l = canon l from rfl, ← e] at h1
    rw [show ([] : List Int).length = 0 from rfl, h] at h1
    cases h1
end Sy
set_option maxRecDepth 100000 in
theorem pCanon : PCanon := fun v zs W hv hn hw => by
  have hC := numbered_any v zs W hv hn hw
  go_enter Tryd.func37, Tryd.ntmps37
  go_wp2_with (go_at_call 38; refine hC.mono ?_; rintro r w1 ⟨u, rfl, hO, hb⟩; have HO : Hid _ := And.intro hO hb; clear hO hb)
  go_ret
  exact ⟨u, rfl, HO.out.1, HO.out.2⟩
set_option maxRecDepth 100000 in
theorem pTogether : PTogether := fun v zs W hv hn hw => by
  have hC := numbered_any v zs W hv hn hw
  go_enter Tryd.func23, Tryd.ntmps23
  go_wp2_with (go_at_call 38; refine hC.mono ?_; rintro r w1 ⟨u, rfl, hO, hb⟩; have HO : Hid _ := And.intro hO hb; clear hO hb)
  go_ret
  exact ⟨rfl, HO.out.2⟩
end Go.Proofs.YtplofbabfkkimaaDoor
/- tauscc: the contract of cyclesOf. -/
namespace Go.Proofs.YtplofbabfkkimaaDoor.Ts
open Go.RowKit Go.Maps
attribute [local go_sem ↓] Go.wp_at_zero Go.wp_at_succ
/-- Where a state's silent steps lead. -/
def sil (n : Nat) (es : List Sy.Ed) (q : Nat) : List Nat := (Sy.ends (Sy.rowOf n (Sy.nf es) q) 0).map Int.toNat
theorem row_in {n : Nat} {es : List Sy.Ed} {i : Int} {z : BSteps.El} (hi : 0 ≤ i ∧ i < (n : Int)) : z ∈ Sy.rowOf n (Sy.nf es) i ↔ (i, z.1, z.2) ∈ es := by
  unfold Sy.rowOf
  rw [if_pos hi]
  unfold Sy.steps
  rw [List.mem_map]
  constructor
  · rintro ⟨e, he, rfl⟩
    obtain ⟨h1, h2⟩ := List.mem_filter.1 he
    have h3 : e.1 = i := by simpa using h2
    rw [← h3]
    exact (Sy.nf_mem es e).1 h1
  · intro h
    exact ⟨_, List.mem_filter.2 ⟨(Sy.nf_mem es _).2 h, by simp⟩, rfl⟩
theorem ends_in {l : List BSteps.El} {b z : Int} : z ∈ Sy.ends l b ↔ (b, z) ∈ l := by
  unfold Sy.ends
  rw [List.mem_map]
  constructor
  · rintro ⟨e, he, rfl⟩
    obtain ⟨h1, h2⟩ := List.mem_filter.1 he
    have h3 : e.1 = b := by simpa using h2
    rw [← h3]
    exact h1
  · intro h
    exact ⟨_, List.mem_filter.2 ⟨h, by simp⟩, rfl⟩
theorem ends_short (l : List BSteps.El) (b : Int) : (Sy.ends l b).length ≤ l.length := by
  unfold Sy.ends
  rw [List.length_map]
  exact List.length_filter_le _ _
theorem cast_toNat {l : List Int} (h : ∀ z ∈ l, 0 ≤ z) : cast (l.map Int.toNat) = l := by
  unfold cast
  rw [List.map_map]
  exact (List.map_congr_left (fun z hz => Int.toNat_of_nonneg (h z hz))).trans (List.map_id _)
/-- Silent steps are the edges with label 0. -/
theorem sil_mem {n : Nat} {k s : Int} {es : List Sy.Ed} (hr : Sy.right n k s es = true) {q t : Nat} (hq : q < n) : t ∈ sil n es q ↔ ((q : Int), (0 : Int), (t : Int)) ∈ es := by
  unfold sil
  rw [List.mem_map]
  constructor
  · rintro ⟨z, hz, rfl⟩
    have h1 := (row_in (n := n) (es := es) ⟨Int.natCast_nonneg q, by omega⟩).1 (ends_in.1 hz)
    have h2 := (right_parts hr).2.2.2.2.2 _ h1
    simp only at h1 h2
    rw [Int.toNat_of_nonneg h2.2.2.1]
    exact h1
  · intro h
    exact ⟨(t : Int), ends_in.2 ((row_in (n := n) (es := es) ⟨Int.natCast_nonneg q, by omega⟩).2 h), by simp⟩
theorem sil_row {n : Nat} {k s : Int} {es : List Sy.Ed} (hr : Sy.right n k s es = true) (hl : (Sy.nf es).length ≤ 10000) {q : Nat} (hq : q < n) : cast (sil n es q) = Sy.ends (Sy.rowOf n (Sy.nf es) q) 0 ∧ (∀ t ∈ sil n es q, t < n) ∧ (sil n es q).length ≤ 100000 := by
  refine ⟨cast_toNat fun z hz => ?_, fun t ht => ?_, ?_⟩
  · have h1 := (row_in (n := n) (es := es) ⟨Int.natCast_nonneg q, by omega⟩).1 (ends_in.1 hz)
    exact ((right_parts hr).2.2.2.2.2 _ h1).2.2.1
  · have h2 := (right_parts hr).2.2.2.2.2 _ ((sil_mem hr hq).1 ht)
    simp only at h2
    omega
  · unfold sil
    rw [List.length_map]
    have h1 := ends_short (Sy.rowOf n (Sy.nf es) q) 0
    have h2 := rowOf_len n (Sy.nf es) (q : Int)
    omega
theorem own_lower {w : World} {B B' : Nat} {v : Value} {zs : List Int} (h : OwnI w B v zs) (hB : B' ≤ B) : OwnI w B' v zs := by
  obtain ⟨h1, h2⟩ := h
  refine ⟨h1, ?_⟩
  rcases h2 with h2 | ⟨g, cap, cur, h3, h4, h5⟩
  · exact .inl h2
  · exact .inr ⟨g, cap, cur, h3, Nat.le_trans hB h4, h5⟩
theorem cyc_i64 {n : Nat} {out : Nat → List Nat} {zs : List Int} (h : Cyc n out zs) (hn : n ≤ 1000) : I64s zs := fun z hz => by
  have h1 := h.rng z hz
  simp only [Lit.wf, IntKind.min, IntKind.max, IntKind.signed, IntKind.bits]
  simp
  omega
theorem que_hasI {w : World} {B : Nat} {v : Value} {zs : List Int} (h : Que w B v zs) : HasI w v zs := by
  rcases h.shape with ⟨ao, cap, rfl, hl⟩
  refine ⟨ao, cap, rfl, fun i z hz => ?_⟩
  obtain ⟨g, off, cap', e, _, hc, _⟩ := que_cell h hz
  injection e with e1 e2 e3
  exact ⟨⟨g, off, none⟩, e1, by
    have e9 : (⟨g, off, none⟩ : Addr).add i = ⟨g, off + i, none⟩ := by simp only [Addr.add]; split <;> simp_all
    rw [e9]; exact hc⟩
set_option linter.unusedSimpArgs false in
set_option maxRecDepth 100000 in
set_option maxHeartbeats 4000000 in
theorem cyclesOf_any {B g bs bb cs cb n : Nat} {k s : Int} {es : List Sy.Ed} (w : World) (hG : Gr w B g bs bb cs cb n k s es) :
    Calls Tryd.prog 22 #[.pointer (some ⟨g, 0, none⟩)] w fun e w' => ∃ u zs, e = .returned u ∧ Cyc n (sil n es) zs ∧ OwnI w' w.heap.size u (natI (Sy.canon zs)) ∧ Below w.heap.size w w' := by
  have hS := states_any w hG
  have hsz := hG.sizes
  have hn : n ≤ 1000000 := by omega
  have hrow := fun q (hq : q < n) => sil_row hG.right hsz.2 hq
  have H : Hid _ := And.intro hS (And.intro hG (And.intro hn (And.intro hsz.1 hrow)))
  clear hS hG hsz hn hrow
  go_enter Tryd.func22, Tryd.ntmps22
  go_upto_region 2 with (go_at_call 13; refine Calls.mono H.out.1 ?_; rintro r1 w1 ⟨rfl, hw⟩; obtain rfl := hw.symm; clear hw)
  go_cut [4] (fun s4 wx => ∃ r gs gn gl gc : Nat, s4 = .pointer (some ⟨r, 0, none⟩) ∧ CyL w wx r gs gn gl gc n 0 (sil n es))
  case first =>
    refine reg2_any (g := g) (n := n) (out := sil n es) (by kernel_rfl) H.out.2.2.1 ⟨?_, fun d _ _ _ _ h => (by cases d <;> exact h)⟩ _ _ _ _ ⟨rfl, rfl, rfl, rfl⟩
    rintro v10 v11 v13 v15 v16 v18 v19 W r ⟨gs, gn, gl, gc, hL⟩
    unfold fr2
    refine Met.intro ?_
    apply_assumption
    refine Met.intro ?_
    apply_assumption
    (repeat apply Exists.intro)
    refine ⟨?rel, rfl⟩
    exact ⟨r, gs, gn, gl, gc, rfl, hL⟩
  case rest =>
    obtain ⟨r, gs, gn, gl, gc, rfl, hL⟩ := hcut
    have HL : Hid _ := hL
    clear hL
    go_wp2_with fail
    go_loopg [22] n (fun g i wr => ∃ m : Nat, g = n - m ∧ m ≤ n ∧ i = .int .i64 m ∧ CyL w wr r gs gn gl gc n m (sil n es))
    case atStart => exact ⟨0, rfl, Nat.zero_le _, rfl, HL.out⟩
    case round =>
      obtain ⟨m, rfl, hm, rfl, hL⟩ := hrel
      by_cases hmn : m < n
      · have q1 : (m : Int) < (n : Int) := by omega
        have p0 : (0 : Int) ≤ (m : Int) := by omega
        have p1 : IntKind.i64.wrap ((m : Int) + 1) = (m : Int) + 1 := by rw [IntKind.wrap_i64]; have := H.out.2.2.1; omega
        obtain ⟨c0, _⟩ := seven_cells hL.mm.box
        obtain ⟨cs9, hcs, hsz⟩ := hL.row
        have hB := fun W (hb : Below wr.heap.size wr W) => (by_any (m : Int) 0 W (H.out.2.1.below (hL.bl.trans (hb.mono hL.bl.size))))
        have HL : Hid _ := And.intro hL trivial
        obtain ⟨v9, hv9⟩ : ∃ v9, cs9[m]? = some v9 := ⟨_, Array.getElem?_eq_getElem (by omega)⟩
        have HC : Hid _ := And.intro hcs (And.intro hsz hv9)
        have HB : Hid _ := hB
        have hS5 : ∀ (W : World) (u : Value), W.cell? ⟨r, 0, none⟩ = some (.slice (some ⟨gs, 0, none⟩) n n) → (W.setCell ⟨gs, m, none⟩ u).cell? ⟨r, 0, none⟩ = some (.slice (some ⟨gs, 0, none⟩) n n) := fun W u h => (World.cell?_of_block (a := ⟨r, 0, none⟩) (set_other _ _ _ _ _ (fun e => hL.far.1 e.symm))).trans h
        have HS5 : Hid _ := hS5
        have HC0 : Hid _ := c0
        have hoo := (H.out.2.2.2.2 m hmn).1
        have HO5 : Hid _ := hoo
        clear hL hcs hsz hB hm hv9 hS5 hoo
        go_upto_region 6 with fail
        refine wp_region_held_drew (S := (fun w' => w'.cell? ⟨r, 0, none⟩ = some (.slice (some ⟨gs, 0, none⟩) n n))) (by kernel_rfl) ?_ (fun hHeld => ?_)
        · exact c0
        refine wpAnyH_take (i := 0) (oi := _) (v := ?_) rfl (by kernel_rfl) (by kernel_rfl) (by kernel_rfl) (fun _ _ _ h => h) (Or.inl ⟨by rfl, ?_⟩) (by assumption) ?_
        rotate_left
        · (intro w hSw; (try dsimp only at hSw); go_simp; (try with_reducible rfl))
        (try simp only [List.getElem_toArray, List.getElem_cons_succ, List.getElem_cons_zero, Act.put, List.setIfInBounds_toArray, List.set_cons_zero, List.set_cons_succ])
        refine wpAnyH_take (i := 1) (oi := _) (v := ?_) rfl (by kernel_rfl) (by kernel_rfl) (by kernel_rfl) (fun _ _ _ h => h) (Or.inl ⟨by rfl, ?_⟩) (by assumption) ?_
        rotate_left
        · (intro w hSw; (try dsimp only at hSw); go_simp; (try with_reducible rfl))
        (try simp only [List.getElem_toArray, List.getElem_cons_succ, List.getElem_cons_zero, Act.put, List.setIfInBounds_toArray, List.set_cons_zero, List.set_cons_succ])
        refine wpAnyH_take (i := 2) (oi := _) (v := ?_) rfl (by kernel_rfl) (by kernel_rfl) (by kernel_rfl) (fun _ _ _ h => h) (Or.inl ⟨by rfl, ?_⟩) (by assumption) ?_
        rotate_left
        · (intro w hSw; (try dsimp only at hSw); go_simp; (try with_reducible rfl))
        (try simp only [List.getElem_toArray, List.getElem_cons_succ, List.getElem_cons_zero, Act.put, List.setIfInBounds_toArray, List.set_cons_zero, List.set_cons_succ])
        refine wpAnyH_take (i := 3) (oi := _) (v := ?_) rfl (by kernel_rfl) (by kernel_rfl) (by kernel_rfl) (fun _ _ _ h => h) (Or.inl ⟨by rfl, ?_⟩) (by assumption) ?_
        rotate_left
        · (intro w hSw; (try dsimp only at hSw); go_simp; (try with_reducible rfl))
        (try simp only [List.getElem_toArray, List.getElem_cons_succ, List.getElem_cons_zero, Act.put, List.setIfInBounds_toArray, List.set_cons_zero, List.set_cons_succ])
        refine wpAnyH_take (i := 4) (oi := _) (v := ?_) rfl (by kernel_rfl) (by kernel_rfl) (by kernel_rfl) (fun _ _ _ h => h) (Or.inl ⟨by rfl, ?_⟩) (by assumption) ?_
        rotate_left
        · (intro w hSw; (try dsimp only at hSw); go_simp; (try with_reducible rfl))
        (try simp only [List.getElem_toArray, List.getElem_cons_succ, List.getElem_cons_zero, Act.put, List.setIfInBounds_toArray, List.set_cons_zero, List.set_cons_succ])
        refine wpAnyH_take (i := 5) (oi := _) (v := ?_) rfl (by kernel_rfl) (by kernel_rfl) (by kernel_rfl) (fun _ _ _ h => h) (Or.inl ⟨by rfl, ?_⟩) (by assumption) ?_
        rotate_left
        · (intro w hSw; (try dsimp only at hSw); go_simp; (try with_reducible rfl))
        (try simp only [List.getElem_toArray, List.getElem_cons_succ, List.getElem_cons_zero, Act.put, List.setIfInBounds_toArray, List.set_cons_zero, List.set_cons_succ])
        refine wpAnyH_take (i := 6) (oi := _) (v := ?_) rfl (by kernel_rfl) (by kernel_rfl) (by kernel_rfl) (fun _ _ _ h => h) (Or.inl ⟨by rfl, ?_⟩) (by assumption) ?_
        rotate_left
        · (intro w hSw; (try dsimp only at hSw); go_simp; (try with_reducible rfl))
        (try simp only [List.getElem_toArray, List.getElem_cons_succ, List.getElem_cons_zero, Act.put, List.setIfInBounds_toArray, List.set_cons_zero, List.set_cons_succ])
        refine wpAnyH_ready (rs := [7]) (by kernel_rfl) (by simp) ?_
        refine AllReadyH.cons (o := _) rfl (fun K hK => ?_) ?_
        · (go_simp; go_at_call 26; refine Calls.mono (HB.out _ (by repeat (first | exact Below.refl _ _ | refine Below.drew ?_))) ?_; rintro r5 w5 ⟨u, rfl, hO4, hb4⟩; have hb5 : Below wr.heap.size wr w5 := ((Below.refl _ _).drew).trans hb4; have hO5 : OwnI w5 wr.heap.size u (cast (sil n es m)) := (by rw [HO5.out]; exact hO4); clear hO4 hb4; obtain ⟨au, cu, hu⟩ := row_shape hO5; obtain ⟨lu, hlu⟩ : ∃ l, l = (cast (sil n es m)).length := ⟨_, rfl⟩; rw [← hlu] at hu; subst hu; have hbk := (hb5.block gs (t_lt HC.out.1)).trans HC.out.1; have bf := blk_free hbk m; have bc := cell0_of hbk HC.out.2.2; have H5 : Hid _ := And.intro hO5 hb5; clear hO5 hb5 hbk hlu)
          (try go_wp2_with fail)
          refine hK.out _ _ ?_ (fun hHeld => ?_)
          · exact cell_up HC0.out H5.out.2
          clear hK K
          (try simp only [List.getElem_toArray, List.getElem_cons_succ, List.getElem_cons_zero, Act.put, List.setIfInBounds_toArray, List.set_cons_zero, List.set_cons_succ])
          refine wpAnyH_take (i := 8) (oi := _) (v := ?_) rfl (by kernel_rfl) (by kernel_rfl) (by kernel_rfl) (fun _ _ _ h => h) (Or.inl ⟨by rfl, ?_⟩) (by assumption) ?_
          rotate_left
          · (intro w hSw; (try dsimp only at hSw); go_simp; (try with_reducible rfl))
          (try simp only [List.getElem_toArray, List.getElem_cons_succ, List.getElem_cons_zero, Act.put, List.setIfInBounds_toArray, List.set_cons_zero, List.set_cons_succ])
          refine wpAnyH_ready (rs := [9]) (by kernel_rfl) (by simp) ?_
          refine AllReadyH.cons (o := _) rfl (fun K hK => ?_) ?_
          · (go_simp)
            (try go_wp2_with fail)
            refine hK.out _ _ ?_ (fun hHeld => ?_)
            · exact HS5.out w5 _ hHeld
            clear hK K
            (try simp only [List.getElem_toArray, List.getElem_cons_succ, List.getElem_cons_zero, Act.put, List.setIfInBounds_toArray, List.set_cons_zero, List.set_cons_succ])
            refine wpAnyH_done (by kernel_rfl) ?_ _
            (try go_simp)
            go_wp2_with fail
            go_roundg (n - (m + 1))
            case measure => omega
            case rel => exact ⟨m + 1, rfl, by omega, by go_num, (HL.out.1.next hmn H5.out.2 H5.out.1)⟩
          exact AllReadyH.nil
        exact AllReadyH.nil
      · obtain rfl : n = m := by omega
        have q1 : ¬ (n : Int) < (n : Int) := by omega
        have hM := hL.done
        have HM : Hid _ := hM
        clear hL hM HL
        go_wp2_with fail
        go_loopg [36] n (fun g i wr => ∃ (m : Nat) (x : Wk), g = n - m ∧ m ≤ n ∧ i = .int .i64 m ∧ CyM w wr r gs n m (sil n es) x)
        case atStart => exact ⟨0, _, rfl, Nat.zero_le _, rfl, HM.out⟩
        case round =>
          obtain ⟨m, x, rfl, hm, rfl, hA⟩ := hrel
          obtain ⟨_, _, _, _, c4, _, c6⟩ := seven_cells hA.mm.box
          obtain ⟨os, pd, hW⟩ := hA.wi
          by_cases hmn : m < n
          · have q1 : (m : Int) < (n : Int) := by omega
            have p0 : (0 : Int) ≤ (m : Int) := by omega
            have p1 : IntKind.i64.wrap ((m : Int) + 1) = (m : Int) + 1 := by rw [IntKind.wrap_i64]; have := H.out.2.2.1; omega
            obtain ⟨z, hz⟩ : ∃ z, x.ns[m]? = some z := ⟨_, List.getElem?_eq_getElem (by rw [hW.ns]; exact hmn)⟩
            obtain ⟨gN, oN, cN, hvn, _, hcN, _⟩ := que_cell (hA.mm.q.q 1 (x.vn, x.ns) rfl) hz
            simp only at hvn
            rw [hW.ns] at hvn
            rw [hvn] at c4
            by_cases hz1 : z = -1
            · subst hz1
              have hC := from_any w.heap.size r n gs 0 n x (sil n es) m os pd wr hA.mm hA.sl hW hA.ps hmn hz H.out.2.2.2.1 (fun q hq => (H.out.2.2.2.2 q hq).2.1) (fun q hq => (H.out.2.2.2.2 q hq).2.2) hA.ct
              have HA : Hid _ := And.intro hA hC
              clear hA hC hW hz hvn hm c6
              go_wp2_with (go_at_call 36; refine Calls.mono HA.out.2 ?_; rintro r2 w2 ⟨rfl, x2, hF, hnd⟩; have HF : Hid _ := And.intro hF hnd; clear hF hnd)
              go_roundg (n - (m + 1))
              case measure => omega
              case rel => exact ⟨m + 1, x2, rfl, by omega, by go_num, HA.out.1.next HF.out.1 HF.out.2⟩
            · have hz2 : (z == -1) = false := by simp [hz1]
              have hA1 := hA.skip ⟨z, hz, hz1⟩
              have HA : Hid _ := And.intro hA1 trivial
              clear hA hA1 hW hz hvn hm c6
              go_wp2_with fail
              go_roundg (n - (m + 1))
              case measure => omega
              case rel => exact ⟨m + 1, x, rfl, by omega, by go_num, HA.out.1⟩
          · obtain rfl : n = m := by omega
            have q1 : ¬ (n : Int) < (n : Int) := by omega
            have hE := hA.end
            have hC := pCanon x.vc x.cs wr (que_hasI (hA.mm.q.q 3 (x.vc, x.cs) rfl)) (by rw [hE.len]; have := H.out.2.2.2.1; omega) (cyc_i64 hE H.out.2.2.2.1)
            have HA : Hid _ := And.intro hA (And.intro hE hC)
            clear hA hE hC hW c4 hm
            go_wp2_with (go_at_call 37; refine Calls.mono HA.out.2.2 ?_; rintro r2 w2 ⟨u, rfl, hO, hb⟩; have HO : Hid _ := And.intro hO hb; clear hO hb)
            go_ret
            exact ⟨u, x.cs, rfl, HA.out.2.1, own_lower HO.out.1 HA.out.1.bl.size, HA.out.1.bl.trans (HO.out.2.mono HA.out.1.bl.size)⟩
end Go.Proofs.YtplofbabfkkimaaDoor.Ts
/- tauscc: the contract of between. -/
namespace Go.Proofs.YtplofbabfkkimaaDoor.Ts
open Go.RowKit Go.Maps
attribute [local go_sem ↓] Go.wp_at_zero Go.wp_at_succ
/-- The class of a state. -/
def cla (cl : List Nat) (z : Int) : Int := ((cl[z.toNat]?.getD 0 : Nat) : Int)
theorem cla_at {cl : List Nat} {p x : Nat} (h : cl[p]? = some x) : cla cl (p : Int) = (x : Int) := by unfold cla; rw [Int.toNat_natCast, h]; rfl
/-- The edges between classes. -/
def keep (cl : List Nat) (e : Sy.Ed) : Bool := !(decide (e.2.1 = 0) && decide (cla cl e.1 = cla cl e.2.2))
def onto (cl : List Nat) (e : Sy.Ed) : Sy.Ed := (cla cl e.1, e.2.1, cla cl e.2.2)
def btw (cl : List Nat) (es : List Sy.Ed) : List Sy.Ed := (es.filter (keep cl)).map (onto cl)
theorem btw_snoc (cl : List Nat) (es : List Sy.Ed) (e : Sy.Ed) : btw cl (es ++ [e]) = if keep cl e = true then btw cl es ++ [onto cl e] else btw cl es := by
  unfold btw
  rw [List.filter_append, List.map_append]
  by_cases h : keep cl e = true <;> simp [h]
theorem btw_len (cl : List Nat) (es : List Sy.Ed) : (btw cl es).length ≤ es.length := by
  unfold btw
  rw [List.length_map]
  exact List.length_filter_le _ _
theorem hasI_cell {w : World} {vc : Value} {cl : List Nat} (hv : HasI w vc (natI cl)) {t x : Nat} (h : cl[t]? = some x) : ∃ a cap, vc = .slice (some a) cl.length cap ∧ w.cell? (a.add t) = some (.int .i64 x) := by
  obtain ⟨ao, cap, rfl, h2⟩ := hv
  obtain ⟨a, rfl, hc⟩ := h2 t (x : Int) (by simp [natI, h])
  exact ⟨a, cap, by simp [natI], hc⟩
theorem cell_al {w : World} {a : Addr} {v : Value} (c : w.cell? a = some v) (o : Obj) : (w.alloc o).cell? a = some v := (World.cell?_of_block (a := a) (((Below.refl _ w).alloc (Nat.le_refl _) o).block _ (World.block_lt_of_cell? w _ c))).trans c
theorem edges_grow {w wr w4 : World} {au : Option Addr} {N cu : Nat} {u : Value} {L : List Sy.Ed} (hbl : Below w.heap.size w wr) (hO : BEdges.Own wr w.heap.size (.slice au N cu) L) (hN : N = L.length) (z : Sy.Ed) (hown : w4.ownsRow w.heap.size 36 3 u (N + 1) (BEdges.C L ++ [.int .i64 z.1, .int .i64 z.2.1, .int .i64 z.2.2])) (hk : Kept (fun b => (Value.slice au N cu).ownBlock = some b) wr w4) : Below w.heap.size w w4 ∧ BEdges.Own w4 w.heap.size u (L ++ [z]) := by
  refine ⟨hbl.trans (hk.below hbl.size fun b hb => (hO.lt b hb).1), ?_⟩
  unfold BEdges.Own
  have e1 : (L ++ [z]).length = N + 1 := by rw [List.length_append, hN]; rfl
  rw [e1, BEdges.C_app]
  exact hown
set_option linter.unusedSimpArgs false in
set_option maxRecDepth 100000 in
set_option maxHeartbeats 4000000 in
theorem between_any (v vc : Value) (es : List Sy.Ed) (cl : List Nat) (w : World) (hv : BEdges.Has w v es) (hc : HasI w vc (natI cl)) (hm : es.length ≤ 100000) (hin : ∀ e ∈ es, 0 ≤ e.1 ∧ e.1 < (cl.length : Int) ∧ 0 ≤ e.2.2 ∧ e.2.2 < (cl.length : Int)) :
    Calls Tryd.prog 24 #[v, vc] w fun e w' => ∃ u, e = .returned u ∧ BEdges.Own w' w.heap.size u (btw cl es) ∧ Below w.heap.size w w' := by
  obtain ⟨i0, hi0, hz0, hz1, hz2⟩ := info_parts BEdges.Tryd.infoE
  have hv0 := hv
  obtain ⟨ao, cap, rfl, _⟩ := hv0
  have hc0 := hc
  obtain ⟨aco, capc, rfl, _⟩ := hc0
  rw [show (natI cl).length = cl.length by simp [natI]] at hc ⊢
  obtain ⟨m, hmm⟩ : ∃ m, m = es.length := ⟨_, rfl⟩
  obtain ⟨n, hnn⟩ : ∃ n, n = cl.length := ⟨_, rfl⟩
  rw [← hmm] at hv hm ⊢
  rw [← hnn] at hc hin ⊢
  have H : Hid _ := And.intro hv (And.intro hc (And.intro hin (And.intro hmm hnn)))
  clear hv hc hin hmm hnn
  go_enter Tryd.func24, Tryd.ntmps24
  go_wp2_with fail
  go_loopg [5, 12] m (fun q u jv wr => ∃ j : Nat, q = m - j ∧ j ≤ m ∧ jv = .int .i64 j ∧ BEdges.Own wr w.heap.size u (btw cl (es.take j)) ∧ Below w.heap.size w wr)
  case atStart => exact ⟨0, rfl, Nat.zero_le _, rfl, World.ownsRow_nil _ _ _ _, Below.refl _ _⟩
  case round =>
    obtain ⟨j, rfl, hj, rfl, hO, hbl⟩ := hrel
    by_cases hlt : j < m
    · obtain ⟨e, he⟩ : ∃ e, es[j]? = some e := ⟨es[j]'(by have := H.out.2.2.2.1; omega), List.getElem?_eq_getElem _⟩
      obtain ⟨a0, ha0, e0, e1, e2⟩ := edge_at (H.out.1.below hbl) he
      have hr := H.out.2.2.1 e (List.mem_of_getElem? he)
      obtain ⟨p, hp⟩ : ∃ p : Nat, e.1 = (p : Int) := ⟨e.1.toNat, by omega⟩
      obtain ⟨q, hq⟩ : ∃ q : Nat, e.2.2 = (q : Int) := ⟨e.2.2.toNat, by omega⟩
      obtain ⟨x, hx⟩ : ∃ x, cl[p]? = some x := ⟨_, List.getElem?_eq_getElem (by have := H.out.2.2.2.2; omega)⟩
      obtain ⟨y, hy⟩ : ∃ y, cl[q]? = some y := ⟨_, List.getElem?_eq_getElem (by have := H.out.2.2.2.2; omega)⟩
      obtain ⟨ac, capc1, hs1, d0⟩ := hasI_cell (H.out.2.1.below hbl) hx
      obtain ⟨ac2, capc2, hs2, d1⟩ := hasI_cell (H.out.2.1.below hbl) hy
      injection hs1 with s1 s2 s3
      injection hs2 with s4 s5 s6
      rw [s1] at s4
      obtain rfl := Option.some.inj s4
      subst ha0
      subst s1
      have x0 : ∀ o, (wr.alloc o).cell? (ac.add p) = some (.int .i64 x) := fun o => cell_al d0 o
      have x1 : ∀ o, (wr.alloc o).cell? (ac.add q) = some (.int .i64 y) := fun o => cell_al d1 o
      have p0 : (0 : Int) ≤ (p : Int) := by omega
      have p1 : (p : Int) < (n : Int) := by omega
      have p2 : (0 : Int) ≤ (q : Int) := by omega
      have p3 : (q : Int) < (n : Int) := by omega
      have p4 : IntKind.i64.wrap ((j : Int) + 1) = (j : Int) + 1 := by rw [IntKind.wrap_i64]; omega
      have q0 : (0 : Int) ≤ (j : Int) := by omega
      have q1 : (j : Int) < (m : Int) := by omega
      obtain ⟨l, hl⟩ : ∃ l, l = e.2.1 := ⟨_, rfl⟩
      rw [hp] at e0
      rw [hq] at e2
      rw [← hl] at e1
      obtain ⟨au, cu, hu⟩ := row_shape hO
      obtain ⟨N, hN⟩ : ∃ N, N = (btw cl (es.take j)).length := ⟨_, rfl⟩
      rw [← hN] at hu
      subst hu
      have HA : Hid _ := And.intro hO (And.intro hbl (And.intro he (And.intro hp (And.intro hq (And.intro hl (And.intro hx (And.intro hy hN)))))))
      clear hO hbl he hr hp hq hl hx hy hN s2 s3 s4 s5 s6 d0 d1 hj
      go_upto_region 5 with fail
      go_region
      obtain ⟨w1, hw1⟩ : ∃ w1, w1 = (wr.alloc (.cells #[.int .i64 p, .int .i64 l, .int .i64 q] 36)).drew := ⟨_, rfl⟩
      rw [← hw1]
      have hb1 : Below wr.heap.size wr w1 := by rw [hw1]; exact ((Below.refl _ _).alloc (Nat.le_refl _) _).drew
      have f1 : w1.cell? ⟨wr.heap.size, 1, none⟩ = some (.int .i64 l) := by
        have h1 : w1.heap[wr.heap.size]? = some (.cells #[.int .i64 p, .int .i64 l, .int .i64 q] 36 (0, 0)) := by rw [hw1]; exact heap_alloc_new wr _
        exact cell0_of h1 rfl
      have hO1 : w1.ownsRow w.heap.size 36 3 (.slice au N cu) N (BEdges.C (btw cl (es.take j))) := by
        have h1 := HA.out.1
        unfold BEdges.Own at h1
        rw [← HA.out.2.2.2.2.2.2.2.2] at h1
        exact trow_at h1 fun b hb => hb1.block b (h1.lt b hb).2
      have hl1 : w.heap.size ≤ w1.heap.size := Nat.le_trans HA.out.2.1.size hb1.size
      have HW : Hid _ := And.intro hb1 (And.intro hO1 hl1)
      clear hw1 hb1 hO1 hl1 x0 x1 e0 e1 e2
      have hN1 : N ≤ j := by
        have h1 := btw_len cl (es.take j)
        rw [List.length_take] at h1
        have := HA.out.2.2.2.2.2.2.2.2
        omega
      have hml : N + 1 ≤ maxLen := by unfold maxLen; omega
      have hby : (N + 1) * 24 ≤ 140737488355328 := by omega
      have hle : w.heap.size ≤ (w1.alloc (.cells #[.int .i64 x, .int .i64 l, .int .i64 y] 36)).heap.size := by have := HW.out.2.2; rw [World.size_alloc]; omega
      have htk : es.take (j + 1) = es.take j ++ [e] := by rw [List.take_add_one, HA.out.2.2.1]; rfl
      have hon : onto cl e = ((x : Int), l, (y : Int)) := by unfold onto; rw [HA.out.2.2.2.1, HA.out.2.2.2.2.1, cla_at HA.out.2.2.2.2.2.2.1, cla_at HA.out.2.2.2.2.2.2.2.1, HA.out.2.2.2.2.2.1]
      have hke : keep cl e = !(decide (l = 0) && decide ((x : Int) = (y : Int))) := by unfold keep; rw [HA.out.2.2.2.1, HA.out.2.2.2.2.1, cla_at HA.out.2.2.2.2.2.2.1, cla_at HA.out.2.2.2.2.2.2.2.1, HA.out.2.2.2.2.2.1]
      have HT : Hid _ := And.intro htk (And.intro hon hke)
      clear htk hon hke hN1
      by_cases hl0 : l = 0
      · subst hl0
        by_cases hxy : (x : Int) = (y : Int)
        · rw [hxy]
          have e9 : ((y : Int) != (y : Int)) = false := by simp
          have HK : Hid _ := (by rw [HT.out.2.2, hxy]; simp : keep cl e = false)
          have HX : Hid _ := hxy
          clear hxy
          go_wp2_with fail
          go_roundg (m - (j + 1))
          case measure => omega
          case rel =>
            refine ⟨j + 1, rfl, by omega, by go_num, ?_, HA.out.2.1.trans (HW.out.1.mono HA.out.2.1.size)⟩
            rw [HT.out.1, btw_snoc, if_neg (by rw [HK.out]; simp)]
            unfold BEdges.Own
            rw [← HA.out.2.2.2.2.2.2.2.2]
            exact HW.out.2.1
        · have e9 : ((x : Int) != (y : Int)) = true := by simp [hxy]
          have HK : Hid _ := (by rw [HT.out.2.2]; simp [hxy] : keep cl e = true)
          go_wp2_with (at_builtin; refine wpList_append_own_at _ rfl _ _ 22 rfl w.heap.size 36 i0 (.agg #[.int .i64 0, .int .i64 0, .int .i64 0]) 3 24 Tryd.underlying22 hi0 hz0 hz1 hz2 rfl (by decide) (.slice au N cu) N (BEdges.C (btw cl (es.take j))) rfl (HW.out.2.1.alloc _) ⟨w1.heap.size, 0, none⟩ 1 1 [.int .i64 x, .int .i64 0, .int .i64 y] rfl rfl (World.news_of_block (cs := #[.int .i64 x, .int .i64 0, .int .i64 y]) (t := 36) (fr := (0, 0)) (heap_alloc_new w1 _)) (by simp [Value.oneCell']) hml hby hle ?_; intro v7 w7 hO7 hg7 hnil7 hat7; have hk7 := grown_alloc hg7; have H7 : Hid _ := And.intro hO7 hk7; clear hO7 hg7 hk7 hnil7 hat7)
          go_roundg (m - (j + 1))
          case measure => omega
          case rel =>
            have h1 := edges_grow (HA.out.2.1.trans (HW.out.1.mono HA.out.2.1.size)) (L := btw cl (es.take j)) (by unfold BEdges.Own; rw [← HA.out.2.2.2.2.2.2.2.2]; exact HW.out.2.1) HA.out.2.2.2.2.2.2.2.2 ((x : Int), 0, (y : Int)) H7.out.1 H7.out.2
            refine ⟨j + 1, rfl, by omega, by go_num, ?_, h1.1⟩
            rw [HT.out.1, btw_snoc, if_pos HK.out, HT.out.2.1]
            exact h1.2
      · have e9 : (l != 0) = true := by simp [hl0]
        have HK : Hid _ := (by rw [HT.out.2.2]; simp [hl0] : keep cl e = true)
        go_wp2_with (at_builtin; refine wpList_append_own_at _ rfl _ _ 22 rfl w.heap.size 36 i0 (.agg #[.int .i64 0, .int .i64 0, .int .i64 0]) 3 24 Tryd.underlying22 hi0 hz0 hz1 hz2 rfl (by decide) (.slice au N cu) N (BEdges.C (btw cl (es.take j))) rfl (HW.out.2.1.alloc _) ⟨w1.heap.size, 0, none⟩ 1 1 [.int .i64 x, .int .i64 l, .int .i64 y] rfl rfl (World.news_of_block (cs := #[.int .i64 x, .int .i64 l, .int .i64 y]) (t := 36) (fr := (0, 0)) (heap_alloc_new w1 _)) (by simp [Value.oneCell']) hml hby hle ?_; intro v7 w7 hO7 hg7 hnil7 hat7; have hk7 := grown_alloc hg7; have H7 : Hid _ := And.intro hO7 hk7; clear hO7 hg7 hk7 hnil7 hat7)
        go_roundg (m - (j + 1))
        case measure => omega
        case rel =>
          have h1 := edges_grow (HA.out.2.1.trans (HW.out.1.mono HA.out.2.1.size)) (L := btw cl (es.take j)) (by unfold BEdges.Own; rw [← HA.out.2.2.2.2.2.2.2.2]; exact HW.out.2.1) HA.out.2.2.2.2.2.2.2.2 ((x : Int), l, (y : Int)) H7.out.1 H7.out.2
          refine ⟨j + 1, rfl, by omega, by go_num, ?_, h1.1⟩
          rw [HT.out.1, btw_snoc, if_pos HK.out, HT.out.2.1]
          exact h1.2
    · obtain rfl : m = j := by omega
      have q1 : ¬ (m : Int) < (m : Int) := by omega
      have hO1 := hO
      rw [List.take_of_length_le (by have := H.out.2.2.2.1; omega)] at hO1
      have HA : Hid _ := And.intro hO1 hbl
      clear hO hO1 hbl
      go_wp2_with fail
      go_ret
      exact ⟨_, rfl, HA.out.1, HA.out.2⟩
end Go.Proofs.YtplofbabfkkimaaDoor.Ts
/- tauscc: the collapsed system: plain facts. -/
namespace Go.Proofs.YtplofbabfkkimaaDoor.Ts
open Go.RowKit Go.Maps
/-- The classes of the cycles of silent steps, in their one form. -/
structure Cl (n : Nat) (es : List Sy.Ed) (cl : List Nat) : Prop where
  len : cl.length = n
  form : Sy.canon (natI cl) = cl
  iff : ∀ u v, u < n → v < n → (cl[u]? = cl[v]? ↔ Rt (sil n es) u v ∧ Rt (sil n es) v u)
/-- How many classes there are. -/
def tog (cl : List Nat) : Nat := Sy.together (natI cl)
theorem Cl.of {n : Nat} {es : List Sy.Ed} {zs : List Int} (h : Cyc n (sil n es) zs) : Cl n es (Sy.canon zs) := by
  have hl : (Sy.canon zs).length = n := by unfold Sy.canon; rw [Sy.canonG_len]; exact h.len
  refine ⟨hl, Sy.canon_idem zs, fun u v hu hv => ?_⟩
  rw [← h.iff u v hu hv]
  have lu : u < zs.length := by rw [h.len]; exact hu
  have lv : v < zs.length := by rw [h.len]; exact hv
  have gu : u < (Sy.canon zs).length := by rw [hl]; exact hu
  have gv : v < (Sy.canon zs).length := by rw [hl]; exact hv
  have e := Sy.canon_eq (l := zs) (i := u) (k := v) (List.getElem?_eq_getElem lu) (List.getElem?_eq_getElem lv) (u := (((Sy.canon zs)[u] : Nat) : Int)) (v := (((Sy.canon zs)[v] : Nat) : Int)) (by simp [natI, gu]) (by simp [natI, gv])
  rw [List.getElem?_eq_getElem lu, List.getElem?_eq_getElem lv, List.getElem?_eq_getElem gu, List.getElem?_eq_getElem gv, Option.some.injEq, Option.some.injEq, ← e]
  omega
theorem tog_eq (cl : List Nat) : tog cl = (Sy.seenG [] (natI cl)).length := Sy.together_eq _
theorem tog_le (cl : List Nat) : tog cl ≤ cl.length := by
  rw [tog_eq]
  have := Sy.seenG_len (natI cl) []
  simpa [natI] using this
theorem Cl.lt {n : Nat} {es : List Sy.Ed} {cl : List Nat} (h : Cl n es cl) {u x : Nat} (hx : cl[u]? = some x) : x < tog cl := by
  rw [tog_eq]
  have h1 : (Sy.canon (natI cl))[u]? = some x := by rw [h.form]; exact hx
  rw [Sy.canon_map, List.getElem?_map] at h1
  have h2 : (natI cl)[u]? = some (x : Int) := by simp [natI, hx]
  rw [h2] at h1
  have h3 := Option.some.inj h1
  simp only at h3
  rw [← h3]
  exact Sy.place_lt.2 (Sy.seenG_mem _ _ _ (List.mem_of_getElem? h2))
theorem Cl.cla {n : Nat} {es : List Sy.Ed} {cl : List Nat} (h : Cl n es cl) {z : Int} (h0 : 0 ≤ z) (h1 : z < n) : 0 ≤ cla cl z ∧ cla cl z < (tog cl : Int) := by
  obtain ⟨p, rfl⟩ : ∃ p : Nat, z = (p : Int) := ⟨z.toNat, by omega⟩
  have hp : p < cl.length := by rw [h.len]; omega
  have hx := List.getElem?_eq_getElem hp
  have h2 := h.lt hx
  rw [cla_at hx]
  omega
theorem nat_i64 {n : Nat} {es : List Sy.Ed} {cl : List Nat} (h : Cl n es cl) (hn : n ≤ 1000) : I64s (natI cl) := fun z hz => by
  unfold natI at hz
  obtain ⟨x, hx, rfl⟩ := List.mem_map.1 hz
  obtain ⟨u, hu⟩ := List.mem_iff_getElem?.1 hx
  have h1 := h.lt hu
  have h2 := tog_le cl
  rw [h.len] at h2
  simp only [Lit.wf, IntKind.min, IntKind.max, IntKind.signed, IntKind.bits]
  simp
  omega
/-- Where the collapsed system begins. -/
def sta (n : Nat) (cl : List Nat) (s : Int) : Int := if 0 < n then cla cl s else 0
theorem small_right {n : Nat} {k s : Int} {es : List Sy.Ed} {cl : List Nat} (h : Cl n es cl) (hr : Sy.right n k s es = true) : Sy.right (tog cl) k (sta n cl s) (btw cl es) = true := by
  obtain ⟨⟨h1, h2⟩, ⟨h3, h4⟩, h5, h6, h7, h8⟩ := right_parts hr
  have ht := tog_le cl
  rw [h.len] at ht
  have hl := btw_len cl es
  have hmem : ∀ e ∈ btw cl es, ∃ d ∈ es, e = onto cl d := fun e he => by
    unfold btw at he
    obtain ⟨d, hd, rfl⟩ := List.mem_map.1 he
    exact ⟨d, (List.mem_filter.1 hd).1, rfl⟩
  unfold Sy.right
  simp only [Bool.and_eq_true, decide_eq_true_eq, List.all_eq_true]
  have hst : ((tog cl : Int) = 0 → sta n cl s = 0) ∧ (0 < (tog cl : Int) → 0 ≤ sta n cl s ∧ sta n cl s < (tog cl : Int)) := by
    unfold sta
    by_cases hn : 0 < n
    · rw [if_pos hn]
      have h9 := h7 (by omega)
      have h10 := h.cla h9.1 h9.2
      exact ⟨fun e => by omega, fun _ => h10⟩
    · rw [if_neg hn]
      exact ⟨fun _ => rfl, fun e => by omega⟩
  refine ⟨⟨⟨by omega, by omega, by omega, by omega, by omega⟩, hst⟩, fun e he => ?_⟩
  obtain ⟨d, hd, rfl⟩ := hmem e he
  have h9 := h8 d hd
  have h10 := h.cla h9.1 h9.2.1
  have h11 := h.cla h9.2.2.1 h9.2.2.2.1
  exact ⟨h10.1, h10.2, h11.1, h11.2, h9.2.2.2.2.1, h9.2.2.2.2.2⟩
theorem Gr.lower {w : World} {B B' g bs bb cs cb n : Nat} {k s : Int} {es : List Sy.Ed} (h : Gr w B g bs bb cs cb n k s es) (hB : B' ≤ B) : Gr w B' g bs bb cs cb n k s es :=
  ⟨h.box, Nat.le_trans hB h.up, ⟨Blk.base h.out.steps hB, Blk.base h.out.nums hB⟩, ⟨Blk.base h.inn.steps hB, Blk.base h.inn.nums hB⟩, h.right⟩
end Go.Proofs.YtplofbabfkkimaaDoor.Ts
/- tauscc: the members of classes: plain facts. -/
namespace Go.Proofs.YtplofbabfkkimaaDoor.Ts
theorem canonG_onto (l : List Int) : ∀ (seen : List Int) (x : Nat), seen.length ≤ x → x < (Sy.seenG seen l).length → ∃ u : Nat, (Sy.canonG seen l)[u]? = some x := by
  induction l with
  | nil => intro seen x h1 h2; simp only [Sy.seenG] at h2; omega
  | cons c r ih =>
    intro seen x h1 h2
    simp only [Sy.seenG] at h2
    simp only [Sy.canonG]
    by_cases hp : Sy.place c seen < seen.length
    · rw [if_pos hp] at h2 ⊢
      obtain ⟨u, hu⟩ := ih seen x h1 h2
      exact ⟨u + 1, by rw [List.getElem?_cons_succ]; exact hu⟩
    · rw [if_neg hp] at h2 ⊢
      by_cases e : x = seen.length
      · have h3 : c ∉ seen := fun h3 => hp (Sy.place_lt.2 h3)
        exact ⟨0, by rw [List.getElem?_cons_zero, Sy.place_not h3, e]⟩
      · obtain ⟨u, hu⟩ := ih (seen ++ [c]) x (by rw [List.length_append, List.length_singleton]; omega) h2
        exact ⟨u + 1, by rw [List.getElem?_cons_succ]; exact hu⟩
theorem Cl.onto {n : Nat} {es : List Sy.Ed} {cl : List Nat} (h : Cl n es cl) {x : Nat} (hx : x < tog cl) : ∃ u : Nat, cl[u]? = some x := by
  rw [tog_eq] at hx
  obtain ⟨u, hu⟩ := canonG_onto (natI cl) [] x (Nat.zero_le _) hx
  refine ⟨u, ?_⟩
  have h1 : Sy.canonG [] (natI cl) = cl := h.form
  rw [← h1]
  exact hu
/-- The states of a class, rising. -/
def memI (l : List Nat) (c : Nat) : List Int := (l.zipIdx.filter fun p => p.1 == c).map fun p => (p.2 : Int)
theorem memI_snoc (l : List Nat) (x c : Nat) : memI (l ++ [x]) c = if c = x then memI l c ++ [(l.length : Int)] else memI l c := by
  unfold memI
  rw [List.zipIdx_append, List.filter_append, List.map_append]
  by_cases e : c = x
  · subst e
    simp
  · have e2 : ¬ x = c := fun h => e h.symm
    simp [e, e2]
theorem memI_next {l : List Nat} {i x : Nat} (hx : l[i]? = some x) (c : Nat) : (if c = x then memI (l.take i) x ++ [(i : Int)] else memI (l.take i) c) = memI (l.take (i + 1)) c := by
  obtain ⟨h1, h2⟩ := List.getElem?_eq_some_iff.1 hx
  rw [List.take_succ_eq_append_getElem h1, h2, memI_snoc, List.length_take, Nat.min_eq_left (Nat.le_of_lt h1)]
  by_cases e : c = x
  · subst e; rfl
  · rw [if_neg e, if_neg e]
theorem memI_len (l : List Nat) (c : Nat) : (memI l c).length ≤ l.length := by
  unfold memI
  rw [List.length_map]
  exact Nat.le_trans (List.length_filter_le _ _) (by rw [List.length_zipIdx]; exact Nat.le_refl _)
theorem memI_mem {l : List Nat} {c : Nat} {z : Int} : z ∈ memI l c ↔ ∃ u : Nat, l[u]? = some c ∧ z = (u : Int) := by
  unfold memI
  rw [List.mem_map]
  constructor
  · rintro ⟨p, hp, rfl⟩
    obtain ⟨h1, h2⟩ := List.mem_filter.1 hp
    have h3 : p.1 = c := by simpa using h2
    exact ⟨p.2, by rw [← h3]; exact List.mem_zipIdx_iff_getElem?.1 h1, rfl⟩
  · rintro ⟨u, hu, rfl⟩
    exact ⟨(c, u), List.mem_filter.2 ⟨List.mem_zipIdx_iff_getElem?.2 hu, by simp⟩, rfl⟩
theorem memI_some {n : Nat} {es : List Sy.Ed} {cl : List Nat} (h : Cl n es cl) {x : Nat} (hx : x < tog cl) : 0 < (memI cl x).length := by
  obtain ⟨u, hu⟩ := h.onto hx
  exact List.length_pos_iff_exists_mem.2 ⟨_, memI_mem.2 ⟨u, hu, rfl⟩⟩
end Go.Proofs.YtplofbabfkkimaaDoor.Ts
/- Two functions of Go's library at this program (slices.BinarySearch, slices.Insert), laid by the shelf's own tools in plain words. -/
namespace Go.Proofs
open Go.Shelf
def Tryd.laysQ25_ren : Go.Shelf.Ren := ⟨fun | 25 => 28 | 31 => 41 | 32 => 42 | 37 => 55 | n => n, fun | 22 => 26 | 3 => 3 | 4 => 4 | 40 => 97 | 0 => 0 | n => n, fun | n => n⟩
theorem Tryd.laysQ25 : Go.Proofs.Lays2.n25 Tryd.prog Tryd.laysQ25_ren := {
  mixed := by kernel_rfl
  f25 := Tryd.func28.trans (congrArg some (by kernel_rfl))
  f31 := Tryd.func41.trans (congrArg some (by kernel_rfl))
  f32 := Tryd.func42.trans (congrArg some (by kernel_rfl))
  f37 := Tryd.func55.trans (congrArg some (by kernel_rfl))
  t0 := Tryd.underlying0
  a0 := Tryd.isAgg0
  z0 := Tryd.sizeOf0
  v0 := Tryd.zeroValue0
  t3 := Tryd.underlying3
  a3 := Tryd.isAgg3
  z3 := Tryd.sizeOf3
  v3 := Tryd.zeroValue3
  t4 := Tryd.underlying4
  a4 := Tryd.isAgg4
  z4 := Tryd.sizeOf4
  v4 := Tryd.zeroValue4
  t22 := Tryd.underlying26
  a22 := Tryd.isAgg26
  z22 := Tryd.sizeOf26
  v22 := Tryd.zeroValue26
  t40 := Tryd.underlying97
  a40 := Tryd.isAgg97
  z40 := Tryd.sizeOf97
  v40 := Tryd.zeroValue97 }
def Tryd.laysQ21_ren : Go.Shelf.Ren := ⟨fun | 21 => 29 | 27 => 43 | 28 => 44 | 35 => 56 | 39 => 68 | n => n, fun | 22 => 26 | 3 => 3 | 4 => 4 | 0 => 0 | n => n, fun | n => n⟩
theorem Tryd.laysQ21 : Go.Proofs.Lays2.n21 Tryd.prog Tryd.laysQ21_ren := {
  mixed := by kernel_rfl
  f21 := Tryd.func29.trans (congrArg some (by kernel_rfl))
  f27 := Tryd.func43.trans (congrArg some (by kernel_rfl))
  f28 := Tryd.func44.trans (congrArg some (by kernel_rfl))
  f35 := Tryd.func56.trans (congrArg some (by kernel_rfl))
  f39 := Tryd.func68.trans (congrArg some (by kernel_rfl))
  t0 := Tryd.underlying0
  a0 := Tryd.isAgg0
  z0 := Tryd.sizeOf0
  v0 := Tryd.zeroValue0
  t3 := Tryd.underlying3
  a3 := Tryd.isAgg3
  z3 := Tryd.sizeOf3
  v3 := Tryd.zeroValue3
  t4 := Tryd.underlying4
  a4 := Tryd.isAgg4
  z4 := Tryd.sizeOf4
  v4 := Tryd.zeroValue4
  t22 := Tryd.underlying26
  a22 := Tryd.isAgg26
  z22 := Tryd.sizeOf26
  v22 := Tryd.zeroValue26
  i3 := by kernel_rfl }
end Go.Proofs
