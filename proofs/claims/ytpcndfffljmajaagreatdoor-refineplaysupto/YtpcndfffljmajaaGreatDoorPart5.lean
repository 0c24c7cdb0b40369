/- Texts of this claim, joined: SyNum, BSame, SyCls, RfClasses, RfHalves0, RfDoc2, RfRel, RfDoc3, RfDoc4. -/
import Derived.Test.YtpcndfffljmajaaGreatDoorPart4
import Derived.Maps.OwnSet
import Derived.WalkSmall
import Derived.Test.YtpcndfffljmajaaGreatDoorPart0
import Derived.Deep.QuietTactic
import Derived.BigQuiet
import Derived.Test.YtpcndfffljmajaaGreatDoorPart2
import Derived.Test.YtpcndfffljmajaaGreatDoorPart3
import Derived.Deep.DeepCutAuto
/- Contracts of the program's numbered, Canon, Together and Classes. -/
namespace Go.Proofs.YtpcndfffljmajaaGreatDoor
open Go.RowKit Go.Maps
attribute [local go_sem ↓] Go.wp_at_zero Go.wp_at_succ
/-- The map tells each class's place among those that were seen. -/
structure MapI (D : DataW Unit) (ns : List Int) : Prop where
  yes : ∀ (i : Nat) (z : Int), ns[i]? = some z → Maps.has D (.int .i64 z) = true ∧ D.atKey (.int .i64 z) (.lit (.int .i64 0)) = .lit (.int .i64 i)
  no : ∀ z : Int, z ∉ ns → Maps.has D (.int .i64 z) = false
  size : Maps.size D = ns.length
theorem MapI.nil : MapI (.map []) [] := ⟨fun i s h => by simp at h, fun s _ => rfl, rfl⟩
theorem ikey_inj {a b : Int} (h : Lit.int .i64 a = Lit.int .i64 b) : a = b := by injection h
theorem MapI.snoc {D : DataW Unit} {ns : List Int} (h : MapI D ns) (hD : IsMap D) (hT : Tidy D) (s : Int) (hs : s ∉ ns) : MapI (D.put (.int .i64 s) (.lit (.int .i64 ns.length))) (ns ++ [s]) := by
  refine ⟨fun i t ht => ?_, fun t ht => ?_, ?_⟩
  · rcases Nat.lt_or_ge i ns.length with hi | hi
    · rw [List.getElem?_append_left hi] at ht
      have hne : Lit.int .i64 t ≠ Lit.int .i64 s := fun e => hs (ikey_inj e ▸ List.mem_of_getElem? ht)
      rw [has_put_other hne, atKey_put_other hne]
      exact h.yes i t ht
    · rw [List.getElem?_append_right hi] at ht
      have hi0 : i - ns.length = 0 := by
        have := (List.getElem?_eq_some_iff.1 ht).1
        simp at this; omega
      rw [hi0] at ht
      simp at ht
      subst ht
      have : i = ns.length := by omega
      subst this
      have hk : WideAt.IsKeyLit (.int .i64 s) := trivial
      exact ⟨has_put_same hD hk _, atKey_put_same hD hk _ _⟩
  · have hne : Lit.int .i64 t ≠ Lit.int .i64 s := fun e => ht (by rw [ikey_inj e]; simp)
    rw [has_put_other hne]
    exact h.no t fun hm => ht (by simp [hm])
  · rw [size_put hT, h.no s hs]
    simp [h.size]
theorem Sy.place_mem {z : Int} {l : List Int} : Sy.place z l < l.length ↔ z ∈ l := by
  induction l with
  | nil => simp [Sy.place]
  | cons a r ih =>
    unfold Sy.place
    by_cases h : a = z
    · simp [h]
    · have h2 : z ≠ a := fun e => h e.symm
      simp [h, h2, ← ih]
theorem Sy.place_no {z : Int} {l : List Int} (h : z ∉ l) : Sy.place z l = l.length := by
  have h1 := Sy.place_le z l
  have h2 : ¬ Sy.place z l < l.length := fun e => h (Sy.place_mem.1 e)
  omega
theorem Tryz.lawI7 : Keyed Tryz.prog 3 := int_keyed Tryz.underlying3
theorem Tryz.zeroI7 (w : World) : (zeroValue 3).run Tryz.prog w = .ok (.int .i64 0) w := by kernel_rfl
/-- The list being made, and the map, in memory. -/
structure NumAt (w wr : World) (zs : List Int) (n i : Nat) (D : DataW Unit) (seen : List Int) : Prop where
  arr : Arr 3 w wr (w.heap.size + 1) (natC (Sy.canonG [] (zs.take i)) ++ List.replicate (n - i) (.int .i64 0))
  own : wr.ownsMap (H := Unit) Tryz.prog 3 (plainElem Tryz.prog 3) w.heap.size seen.length D
  map : MapI D seen
theorem Sy.top_canonG (l : List Int) : ∀ seen : List Int, max seen.length (Sy.top (Sy.canonG seen l)) = (Sy.seenG seen l).length := by
  induction l with
  | nil => intro seen; simp [Sy.canonG, Sy.top, Sy.seenG]
  | cons c r ih =>
    intro seen
    simp only [Sy.canonG, Sy.top, Sy.seenG]
    rw [← ih]
    have h1 := Sy.place_le c seen
    split <;> (try simp) <;> omega
theorem Sy.together_eq (zs : List Int) : Sy.together zs = (Sy.seenG [] zs).length := by
  rw [← Sy.top_canonG zs []]
  simp [Sy.together, Sy.canon]
theorem arr_mapTurn {w wr w3 : World} {gi : Nat} {vs : List Value} {bm : Nat} (h : Arr 3 w wr gi vs) (hg : wr.grownBy w3 (some bm)) (hb : w.heap.size ≤ bm) (hne : bm ≠ gi) : Arr 3 w w3 gi vs :=
  h.kept (Kept.of_grown hg) fun b e => by injection e with e; subst e; exact ⟨hb, hne⟩
theorem num_step {w w3 w4 : World} {zs : List Int} {n i k : Nat} {D2 : DataW Unit} {seen s2 : List Int} {z : Int} (hz : zs[i]? = some z) (hi : i < n) (hn : n = zs.length) (hs : seen = Sy.seenG [] (zs.take i)) (hA : Arr 3 w w3 (w.heap.size + 1) (natC (Sy.canonG [] (zs.take i)) ++ List.replicate (n - i) (.int .i64 0)))
    (hk : k = Sy.place z seen) (h4 : w4 = w3.setCell ⟨w.heap.size + 1, i, none⟩ (.int .i64 (k : Int))) (ho : w3.ownsMap (H := Unit) Tryz.prog 3 (plainElem Tryz.prog 3) w.heap.size s2.length D2) (hm : MapI D2 s2) :
    NumAt w w4 zs n (i + 1) D2 s2 := by
  subst h4
  have hC : (Sy.canonG [] (zs.take i)).length = i := by rw [Sy.canonG_len, List.length_take]; omega
  have hAs := hA.set i (.int .i64 (k : Int))
  rw [natC_step _ n i k hC hi] at hAs
  refine ⟨?_, ho.setCell (by simp) _, hm⟩
  rw [Sy.canon_step hz, ← hs, ← hk]
  exact hAs
set_option maxRecDepth 100000 in
set_option maxHeartbeats 8000000 in
theorem numbered_any (v : Value) (zs : List Int) (w : World) (hv : HasI w v zs) (hn : zs.length ≤ 100000) (hw : I64s zs) :
    Calls Tryz.prog 88 #[v] w fun e w' => ∃ u, e = .returned (.tuple #[u, .int .i64 (Sy.together zs : Nat)]) ∧ OwnI w' w.heap.size u (natI (Sy.canon zs)) ∧ Below w.heap.size w w' := by
  obtain ⟨ao, cap, rfl, hcs⟩ := hv
  obtain ⟨n, hN⟩ : ∃ n, n = zs.length := ⟨_, rfl⟩
  have HH : Hid _ := And.intro hcs (And.intro hN hw)
  rw [← hN] at hn ⊢
  clear hcs hN hw
  have hmm := @run_makeMap Tryz.prog
  have hmk := makeI n (by omega) (w.alloc (.map #[] 0))
  go_enter Tryz.func88, Tryz.ntmps88
  go_wp2_with fail
  clear hmk hmm
  go_loopg [16] n (fun q iv wr => ∃ (i : Nat) (D : DataW Unit) (seen : List Int), q = n - i ∧ i ≤ n ∧ iv = .int .i64 i ∧ seen = Sy.seenG [] (zs.take i) ∧ NumAt w wr zs n i D seen)
  case atStart =>
    refine ⟨0, .map [], [], rfl, Nat.zero_le _, rfl, by simp [Sy.seenG], ?_, ?_, MapI.nil⟩
    · have h1 := arr_new 3 (.int .i64 0) rfl n (w.alloc (.map #[] 0))
      have h2 := h1.back ((Below.refl _ w).alloc (Nat.le_refl _) _)
      simpa [Sy.canonG, natC] using h2
    · have := World.ownsMap_made (H := Unit) w Tryz.prog 3 (plainElem Tryz.prog 3)
      exact this.alloc _
  case round =>
    obtain ⟨i, D, seen, rfl, hi, rfl, hseen, hM⟩ := hrel
    by_cases hlt : i < n
    · obtain ⟨z, hz⟩ : ∃ z, zs[i]? = some z := ⟨zs[i]'(by have := HH.out.2.1; omega), List.getElem?_eq_getElem _⟩
      obtain ⟨a, rfl, c0⟩ := HH.out.1 i z hz
      have cz : wr.cell? (a.add i) = some (.int .i64 z) := (hM.arr.bl.cell (World.block_lt_of_cell? w _ c0)).trans c0
      have hzw : (Lit.int .i64 z).wf = true := HH.out.2.2 z (List.mem_of_getElem? hz)
      have hkey : keyOf Tryz.prog 3 (.int .i64 z) = some (.int .i64 z) := keyOf_int_mk Tryz.underlying3 hzw
      have q0 : (0 : Int) ≤ (i : Int) := by omega
      have q1 : (i : Int) < (n : Int) := by omega
      have hsl : seen.length ≤ i := by
        have := Sy.seenG_len (zs.take i) []
        rw [← hseen, List.length_take] at this
        simp at this; omega
      have hix : (natC (Sy.canonG [] (zs.take i)) ++ List.replicate (n - i) (Value.int .i64 0))[i]? = some (.int .i64 0) := by
        rw [List.getElem?_append_right (by rw [natC_len, Sy.canonG_len, List.length_take]; omega), natC_len, Sy.canonG_len, List.length_take, List.getElem?_replicate, if_pos (by have := HH.out.2.1; omega)]
      have hst := Sy.seen_step hz
      rw [← hseen] at hst
      by_cases hin : z ∈ seen
      · obtain ⟨hy1, hy2⟩ := hM.map.yes _ z (Sy.place_at hin)
        have cx := hM.arr.cell hix
        have cf := hM.arr.free i
        rw [if_pos (Sy.place_mem.2 hin)] at hst
        have HO : Hid (wr.ownsMap (H := Unit) Tryz.prog 3 (plainElem Tryz.prog 3) w.heap.size seen.length D) := hM.own
        have HY : Hid (D.atKey (.int .i64 z) (.lit (.int .i64 0)) = .lit (.int .i64 (Sy.place z seen : Nat))) := hy2
        have HM : Hid _ := And.intro hM (And.intro hseen (And.intro hz hst))
        clear hM hseen hz hst hy2 hix c0 hin hzw
        obtain ⟨k, hk⟩ : ∃ k, k = Sy.place z seen := ⟨_, rfl⟩
        rw [← hk] at HY
        have HK : Hid (k = Sy.place z seen) := hk
        clear hk
        go_wp2_with (at_lookup; refine wpList_lookup_own_ok_int _ rfl _ _ 175 rfl 3 3 .i64 Tryz.lawI7 Tryz.underlying175 Tryz.underlying3 (Tryz.zeroI7 _) w.heap.size seen.length D rfl HO.out _ _ rfl hkey ?_; rw [hy1]; intro c hat hwc; obtain rfl : c = (k : Int) := (by rw [HY.out] at hat; injection hat with hat; injection hat with _ hat; exact hat.symm); clear hat hwc)
        go_roundg (n - (i + 1))
        case measure => omega
        case rel =>
          exact ⟨i + 1, D, seen, rfl, by omega, by go_num, HM.out.2.2.2.symm, num_step HM.out.2.2.1 hlt HH.out.2.1 HM.out.2.1 HM.out.1.arr HK.out rfl HO.out HM.out.1.map⟩
      · have hy1 := hM.map.no z hin
        rw [if_neg fun e => hin (Sy.place_mem.1 e)] at hst
        have HO : Hid (wr.ownsMap (H := Unit) Tryz.prog 3 (plainElem Tryz.prog 3) w.heap.size seen.length D) := hM.own
        have hml : seen.length < maxLen := by unfold maxLen; omega
        have hsz : Maps.size D = seen.length := hM.map.size
        obtain ⟨m, hm⟩ : ∃ m, m = seen.length := ⟨_, rfl⟩
        have HM : Hid _ := And.intro hM (And.intro hseen (And.intro hz (And.intro hst (And.intro hin (And.intro hix hm)))))
        rw [← hm] at HO hml hsz hsl
        have hwf : (Lit.int .i64 (m : Int)).wf = true := WalkArith.wf_i64 (by omega)
        have HS : Hid _ := hsz
        clear hM hseen hz hst hix c0 hin hzw hm hsz
        go_wp2_with (first
          | (at_lookup; refine wpList_lookup_own_ok_int _ rfl _ _ 175 rfl 3 3 .i64 Tryz.lawI7 Tryz.underlying175 Tryz.underlying3 (Tryz.zeroI7 _) w.heap.size m D rfl HO.out _ _ rfl hkey ?_; rw [hy1]; intro c hat hwc; clear hat hwc)
          | (at_len; refine wpList_len_own _ rfl _ 175 rfl 3 3 Tryz.underlying175 _ w.heap.size m D rfl HO.out ?_; rw [HS.out])
          | (at_mapUpdate; refine wpList_mapUpdate_own _ rfl _ _ _ 175 rfl 3 3 Tryz.lawI7 Tryz.underlying175 _ w.heap.size m D rfl HO.out hml _ _ _ rfl rfl hkey _ [] (plainElem_int Tryz.underlying3 hwf) ?_; intro w3 hown3 hgrow3; have hA3 := arr_mapTurn HM.out.1.arr hgrow3 (Nat.le_refl _) (by omega); have cx := hA3.cell HM.out.2.2.2.2.2.1; have cf := hA3.free i; have H3 : Hid _ := And.intro hA3 hown3; clear hA3 hown3 hgrow3))
        go_roundg (n - (i + 1))
        case measure => omega
        case rel =>
          have hm := HM.out.2.2.2.2.2.2
          have h3 := H3.out.2
          have hmp := HM.out.1.map.snoc HM.out.1.own.isMap (HM.out.1.own.tidy Tryz.lawI7) z HM.out.2.2.2.2.1
          rw [← hm] at hmp
          have el : m + 1 = (seen ++ [z]).length := by simp [hm]
          rw [el] at h3
          exact ⟨i + 1, _, seen ++ [z], rfl, by omega, by go_num, HM.out.2.2.2.1.symm, num_step HM.out.2.2.1 hlt HH.out.2.1 HM.out.2.1 H3.out.1 (by rw [Sy.place_no HM.out.2.2.2.2.1, hm]) rfl h3 hmp⟩
    · obtain rfl : i = n := by omega
      have hsz : Maps.size D = seen.length := hM.map.size
      have HO : Hid (wr.ownsMap (H := Unit) Tryz.prog 3 (plainElem Tryz.prog 3) w.heap.size seen.length D) := hM.own
      have HM : Hid _ := And.intro hM (And.intro hseen hsz)
      obtain ⟨m, hm⟩ : ∃ m, m = seen.length := ⟨_, rfl⟩
      rw [← hm] at HO
      have HS : Hid (Maps.size D = m) := hsz.trans hm.symm
      have HN : Hid _ := hm
      clear hM hseen hsz hm
      go_wp2_with (at_len; refine wpList_len_own _ rfl _ 175 rfl 3 3 Tryz.underlying175 _ w.heap.size m D rfl HO.out ?_; rw [HS.out])
      go_ret2
      have hA := HM.out.1.arr
      have hl : i = zs.length := HH.out.2.1
      rw [hl, Nat.sub_self, List.replicate_zero, List.append_nil, List.take_length] at hA
      have how := (hA.own (by rw [natC_len, Sy.canonG_len]; unfold maxLen; omega))
      rw [natC_len, Sy.canonG_len] at how
      refine ⟨.slice (some ⟨w.heap.size + 1, 0, none⟩) zs.length zs.length, by rw [HN.out, HM.out.2.1, hl, List.take_length, ← Sy.together_eq]; rfl, ?_, HM.out.1.arr.bl⟩
      unfold OwnI
      rw [iC_nat, show (natI (Sy.canon zs)).length = zs.length by simp [natI, Sy.canon, Sy.canonG_len]]
      exact how
end Go.Proofs.YtpcndfffljmajaaGreatDoor
/- Contract of the book's SameInts. -/
namespace Go.Proofs.YtpcndfffljmajaaGreatDoor
open Go.RowKit Go.Maps
theorem take_both {α : Type} {a b : List α} {j : Nat} {x : α} (ha : a[j]? = some x) (hb : b[j]? = some x) (h : a.take j = b.take j) : a.take (j + 1) = b.take (j + 1) := by
  rw [take_succ_of ha, take_succ_of hb, h]
theorem eq_len {α : Type} {a b : List α} {n : Nat} (ha : a.length = n) (hb : b.length = n) (h : a.take n = b.take n) : a = b := by
  rw [List.take_of_length_le (by omega), List.take_of_length_le (by omega)] at h
  exact h
set_option maxRecDepth 100000 in
set_option maxHeartbeats 1000000 in
theorem sameInts_b (va vb : Value) (za zb : List Int) (w : World) (hn : za.length ≤ 1000000000000000) (hm : zb.length ≤ 1000000000000000) (hA : HasI w va za) (hB : HasI w vb zb) :
    Calls Tryz.prog 33 #[va, vb] w fun e w' => e = .returned (.bool (za == zb)) ∧ Below w.heap.size w w' := by
  obtain ⟨ao, cap, rfl, hcA⟩ := hA
  obtain ⟨ao', cap', rfl, hcB⟩ := hB
  by_cases hlen : za.length = zb.length
  · obtain ⟨n, hN⟩ : ∃ n, n = za.length := ⟨_, rfl⟩
    have HH : Hid _ := And.intro hcA (And.intro hcB (And.intro hN (hN.trans hlen)))
    rw [← hlen, ← hN]
    rw [← hN] at hn
    clear hcA hcB hN hlen hm
    have q : ((n : Int) != (n : Int)) = false := by simp
    go_enter Tryz.func33, Tryz.ntmps33
    go_wp2
    go_loopg [5] n (fun g i wr => ∃ j m : Nat, g = n - j ∧ j ≤ n ∧ i = .int .i64 j ∧ za.take j = zb.take j ∧ wr = w.drewN m)
    case atStart => exact ⟨0, 0, rfl, Nat.zero_le _, rfl, rfl, rfl⟩
    case round =>
      obtain ⟨j, m, rfl, hj, rfl, heq, rfl⟩ := hrel
      have HQ : Hid _ := heq
      clear heq
      by_cases hlt : j < n
      · obtain ⟨x, hx⟩ : ∃ z, za[j]? = some z := ⟨za[j]'(by have := HH.out.2.2.1; omega), List.getElem?_eq_getElem _⟩
        obtain ⟨y, hy⟩ : ∃ z, zb[j]? = some z := ⟨zb[j]'(by have := HH.out.2.2.2; omega), List.getElem?_eq_getElem _⟩
        obtain ⟨a, rfl, c0⟩ := HH.out.1 j x hx
        obtain ⟨b, rfl, d0⟩ := HH.out.2.1 j y hy
        have q0 : (0 : Int) ≤ (j : Int) := by omega
        have q1 : (j : Int) < (n : Int) := by omega
        by_cases hxy : x = y
        · subst hxy
          have HT : Hid _ := take_both hx hy HQ.out
          clear hx hy
          go_wp2_with fail
          go_quiet (fail)
          go_wp2
          go_roundg (n - (j + 1))
          case measure => omega
          case rel => exact ⟨j + 1, _, rfl, by omega, by go_num, HT.out, by first | rfl | exact World.drewN_drewN _ _ _⟩
        · have e1 : (x == y) = false := by simpa using hxy
          have HF : Hid ((za == zb) = false) := (by
            rw [beq_eq_false_iff_ne]
            rintro rfl
            rw [hx] at hy
            exact hxy (Option.some.inj hy) : (za == zb) = false)
          clear hx hy hxy
          go_wp2_with fail
          go_quiet (fail)
          go_wp2
          go_ret
          exact ⟨by rw [HF.out]; rfl, by first | exact below_drewN (below_drewN (Below.refl _ _) _) _ | exact below_drewN (Below.refl _ _) _⟩
      · obtain rfl : j = n := by omega
        have q1 : ¬ (j : Int) < (j : Int) := by omega
        have HF : Hid ((za == zb) = true) := (by
          rw [beq_iff_eq]
          exact eq_len HH.out.2.2.1.symm HH.out.2.2.2.symm HQ.out : (za == zb) = true)
        go_wp2
        go_ret
        exact ⟨by rw [HF.out]; rfl, below_drewN (Below.refl _ _) _⟩
  · have q : ((za.length : Int) != (zb.length : Int)) = true := by rw [bne_iff_ne]; omega
    have HF : Hid ((za == zb) = false) := (by rw [beq_eq_false_iff_ne]; rintro rfl; exact hlen rfl : (za == zb) = false)
    clear hcA hcB hlen
    go_enter Tryz.func33, Tryz.ntmps33
    go_wp2
    go_ret
    exact ⟨by rw [HF.out]; rfl, Below.refl _ _⟩
end Go.Proofs.YtpcndfffljmajaaGreatDoor
/- Contracts of slices.Equal of numbers, and of the program's Canon, Together and Classes. -/
namespace Go.Proofs.YtpcndfffljmajaaGreatDoor
open Go.RowKit Go.Maps
namespace Sy
theorem natI_range_len (k : Nat) : (natI (List.range k)).length = k := by simp [natI]
theorem place_range (k : Nat) (c : Int) (h0 : 0 ≤ c) (h1 : c ≤ k) : ((place c (natI (List.range k)) : Nat) : Int) = c := by
  obtain ⟨m, rfl⟩ : ∃ m : Nat, c = (m : Int) := ⟨c.toNat, by omega⟩
  by_cases h : m < k
  · have hm : (m : Int) ∈ natI (List.range k) := by
      unfold natI
      exact List.mem_map.2 ⟨m, List.mem_range.2 h, rfl⟩
    have h2 := place_at hm
    obtain ⟨hl, h3⟩ := List.getElem?_eq_some_iff.1 h2
    simp only [natI, List.getElem_map, List.getElem_range] at h3
    exact h3
  · obtain rfl : m = k := by omega
    rw [place_not, natI_range_len]
    intro hm
    unfold natI at hm
    obtain ⟨x, hx, e⟩ := List.mem_map.1 hm
    have := List.mem_range.1 hx
    omega
theorem formG_own (l : List Int) : ∀ k : Nat, formG k l = true → natI (canonG (natI (List.range k)) l) = l := by
  induction l with
  | nil => intro k _; rfl
  | cons c r ih =>
    intro k h
    simp only [formG, Bool.and_eq_true, decide_eq_true_eq] at h
    obtain ⟨⟨h0, h1⟩, h2⟩ := h
    have hp := place_range k c h0 h1
    show ((place c (natI (List.range k)) : Nat) : Int) :: natI (canonG (if place c (natI (List.range k)) < (natI (List.range k)).length then natI (List.range k) else natI (List.range k) ++ [c]) r) = c :: r
    rw [hp]
    congr 1
    rw [natI_range_len]
    by_cases e : c = (k : Int)
    · rw [if_pos e] at h2
      rw [if_neg (by omega)]
      have h3 := ih (k + 1) h2
      rw [List.range_succ] at h3
      subst e
      simpa [natI] using h3
    · rw [if_neg e] at h2
      rw [if_pos (by omega)]
      exact ih k h2
theorem formG_iff (l : List Int) : formG 0 l = (l == natI (canon l)) := by
  cases h : formG 0 l with
  | true =>
    have h1 := formG_own l 0 h
    symm
    rw [beq_iff_eq]
    exact h1.symm
  | false =>
    symm
    rw [beq_eq_false_iff_ne]
    intro e
    have h1 := formG_canon l []
    rw [show canonG [] l = canon l from rfl, ← e] at h1
    rw [show ([] : List Int).length = 0 from rfl, h] at h1
    cases h1
end Sy
set_option maxRecDepth 100000 in
theorem pCanon : PCanon := fun v zs W hv hn hw => by
  have hC := numbered_any v zs W hv hn hw
  go_enter Tryz.func20, Tryz.ntmps20
  go_wp2_with (go_at_call 88; refine hC.mono ?_; rintro r w1 ⟨u, rfl, hO, hb⟩; have HO : Hid _ := And.intro hO hb; clear hO hb)
  go_ret
  exact ⟨u, rfl, HO.out.1, HO.out.2⟩
end Go.Proofs.YtpcndfffljmajaaGreatDoor
/- refine: Classes. -/
namespace Go.Proofs.YtpcndfffljmajaaGreatDoor
open Go.RowKit Go.Maps
attribute [local go_sem ↓] Go.wp_at_zero Go.wp_at_succ
/-- The elements' blocks. -/
def Pst.own (s : Pst) : List Int := (List.range s.n).map fun e : Nat => (s.O e : Int)
theorem own_len (s : Pst) : s.own.length = s.n := by simp [Pst.own]
theorem own_has {g : Nat} {c : Nat → Int} {s : Pst} {w0 w : World} (hP : Pt w0 w g c) (hL : Lay c s) (hn : s.n ≤ 1000) (k : Nat) : HasI w (.slice (some ⟨g, 2002, none⟩) s.own.length k) s.own := by
  refine ⟨some ⟨g, 2002, none⟩, k, rfl, fun i z hz => ⟨_, rfl, ?_⟩⟩
  have hi : i < s.n := by rw [← own_len]; exact (List.getElem?_eq_some_iff.1 hz).1
  have h1 : s.own[i]? = some (s.O i : Int) := by simp [Pst.own, hi]
  obtain rfl := Option.some.inj (hz.symm.trans h1)
  have h2 := hP.cell (i := 2002 + i) (by omega)
  rw [hL.o i hi] at h2
  have h4 : (⟨g, 2002, none⟩ : Addr).add i = ⟨g, 2002 + i, none⟩ := by
    unfold Addr.add
    by_cases hj : i = 0
    · subst hj; rfl
    · simp [hj]
  rw [h4]
  exact h2
theorem own_i64 {s : Pst} (hO : s.Ok) : I64s s.own := fun z hz => by
  simp only [Pst.own, List.mem_map, List.mem_range] at hz
  obtain ⟨e, he, rfl⟩ := hz
  have h1 := (hO.o e he).1
  have h2 := hO.few
  have h3 := hO.n1
  simp only [Lit.wf, IntKind.min, IntKind.max, IntKind.signed, IntKind.bits]
  simp
  omega
set_option maxRecDepth 100000 in
set_option maxHeartbeats 4000000 in
theorem classes_any (g : Nat) (c : Nat → Int) (s : Pst) (w0 w : World) (hP : Pt w0 w g c) (hL : Lay c s) (hO : s.Ok) (h0 : 0 < s.n) :
    Calls Tryz.prog 31 #[.pointer (some ⟨g, 0, none⟩)] w fun r w' => ∃ u, r = .returned u ∧ OwnI w' w.heap.size u (natI (Sy.canon s.own)) ∧ Below w.heap.size w w' := by
  have hn := hO.n1
  have c0 := hP.cell (i := 0) (by omega)
  rw [hL.n] at c0
  have hCn : ∀ W, Below w.heap.size w W → Calls Tryz.prog 20 #[.slice (some ⟨g, 2002, none⟩) s.n s.n] W fun r w' => ∃ u, r = .returned u ∧ OwnI w' W.heap.size u (natI (Sy.canon s.own)) ∧ Below W.heap.size W w' := fun W hW => by
    have h := pCanon (.slice (some ⟨g, 2002, none⟩) s.own.length s.n) s.own W (own_has (hP.below hW) hL hn s.n) (by rw [own_len]; omega) (own_i64 hO)
    rw [own_len] at h
    exact h
  have H : Hid _ := And.intro hCn trivial
  generalize natI (Sy.canon s.own) = cs at H ⊢
  have p1 : (0 : Int) ≤ (s.n : Int) := by omega
  have p2 : (s.n : Int) ≤ 1000 := by omega
  have p3 : ¬ s.n = 0 := by omega
  generalize s.n = n at *
  clear hCn hP hL hO
  go_enter Tryz.func31, Tryz.ntmps31
  go_upto_region 3 with fail
  go_region_held3 (fun w' => (w'.cell? ⟨g, 0, none⟩ = some (.int .i64 n) ∧ w'.cell? ⟨g, 0, none⟩ = some (.int .i64 n)) ∧ Hid (Below w.heap.size w w')) (first | exact rgu2 hb5 (by assumption) | exact ⟨⟨c0, c0⟩, ((Below.refl _ _).drew : Below w.heap.size w w.drew)⟩ | go_keep)
    ((first
      | (go_at_call 20; refine Calls.mono (H.out.1 _ (rgb3 (by assumption))) ?_; rintro r w5 ⟨u, rfl, hO5, hb5⟩)
      | fail))
  have hbw : Below w.heap.size w w5 := rgb3 (by assumption)
  have HB : Hid (OwnI w5 w.heap.size u cs ∧ Below w.heap.size w w5) := ⟨hO5, hbw⟩
  go_wp2_with fail
  go_ret
  exact ⟨_, rfl, HB.out.1, HB.out.2⟩
end Go.Proofs.YtpcndfffljmajaaGreatDoor
/- refine: what the statement RefineHalves leans on. -/
namespace Go.Proofs.YtpcndfffljmajaaGreatDoor
open Go.RowKit Go.Maps
/-- A row of Booleans by a function. -/
def bC (bs : Nat → Bool) (N : Nat) : List Value := (List.range N).map fun e : Nat => .bool (bs e)
theorem bC_at (bs : Nat → Bool) {N e : Nat} (h : e < N) : (bC bs N)[e]? = some (.bool (bs e)) := by simp [bC, h]
theorem bC_len (bs : Nat → Bool) (N : Nat) : (bC bs N).length = N := by simp [bC]
theorem bC_set (bs : Nat → Bool) (N e : Nat) (x : Bool) : (bC bs N).set e (.bool x) = bC (upd bs e x) N := by
  apply List.ext_getElem?
  intro j
  rw [List.getElem?_set]
  by_cases hj : j < N
  · rw [bC_at bs hj, bC_at (upd bs e x) hj, bC_len]
    unfold upd
    by_cases h : e = j
    · subst h; simp [hj]
    · simp [h, Ne.symm h]
  · rw [List.getElem?_eq_none (by rw [bC_len]; omega), List.getElem?_eq_none (by rw [bC_len]; omega)]
    split
    · split
      · rename_i h1 h2; rw [bC_len] at h2; omega
      · rfl
    · rfl
theorem bC_false (N : Nat) : bC (fun _ => false) N = List.replicate N (.bool false) := by
  apply List.ext_getElem?
  intro i
  by_cases hi : i < N
  · rw [bC_at _ hi, List.getElem?_replicate, if_pos hi]
  · rw [List.getElem?_eq_none (by rw [bC_len]; omega), List.getElem?_eq_none (by rw [List.length_replicate]; omega)]
theorem cellk {F : Nat → Prop} {w w' : World} {b o : Nat} {x : Value} (h : w.cell? ⟨b, o, none⟩ = some x) (hk : Kept F w w') (hb : ¬ F b) : w'.cell? ⟨b, o, none⟩ = some x := by
  have h1 := hk.block b (World.block_lt_of_cell? w _ h) hb
  unfold World.cell? at h ⊢
  simp only at h ⊢
  rw [h1]
  exact h
/-- A partition and the row that mirrors its marks. -/
structure Hv (w wr : World) (g mk N : Nat) (c : Nat → Int) (s : Pst) (bs : Nat → Bool) : Prop where
  st : St8 w wr g c s
  sn : s.n = N
  mb : Arr 4 w wr mk (bC bs N)
  ne : mk ≠ g
theorem Hv.below {w wr w' : World} {g mk N : Nat} {c : Nat → Int} {s : Pst} {bs : Nat → Bool} (h : Hv w wr g mk N c s bs) (hb : Below wr.heap.size wr w') : Hv w w' g mk N c s bs := ⟨h.st.below hb, h.sn, h.mb.below hb, h.ne⟩
theorem Hv.turn {w wr w' : World} {g mk N : Nat} {c c' : Nat → Int} {s s' : Pst} {bs : Nat → Bool} (h : Hv w wr g mk N c s bs) (hs : St8 w w' g c' s') (hn : s'.n = s.n) (hk : Kept (fun i => i = g) wr w') : Hv w w' g mk N c' s' bs :=
  ⟨hs, hn.trans h.sn, h.mb.kept hk fun b hb => ⟨by rw [hb]; exact h.st.pt.gu, by rw [hb]; exact fun e => h.ne e.symm⟩, h.ne⟩
theorem Hv.set {w wr : World} {g mk N : Nat} {c : Nat → Int} {s : Pst} {bs : Nat → Bool} (h : Hv w wr g mk N c s bs) (e : Nat) (x : Bool) : Hv w (wr.setCell ⟨mk, e, none⟩ (.bool x)) g mk N c s (upd bs e x) := by
  have hk := Kept.setCell wr mk e (.bool x)
  refine ⟨⟨h.st.pt.kept hk fun b hb => ⟨by rw [hb]; exact h.mb.gu, by rw [hb]; exact h.ne⟩, h.st.ly, h.st.ok⟩, h.sn, ?_, h.ne⟩
  have h1 := h.mb.set e (.bool x)
  rw [bC_set] at h1
  exact h1
theorem Hv.cell {w wr : World} {g mk N : Nat} {c : Nat → Int} {s : Pst} {bs : Nat → Bool} (h : Hv w wr g mk N c s bs) {e : Nat} (he : e < N) : wr.cell? ⟨mk, e, none⟩ = some (.bool (bs e)) := h.mb.cell (bC_at bs he)
theorem Hv.bl {w wr : World} {g mk N : Nat} {c : Nat → Int} {s : Pst} {bs : Nat → Bool} (h : Hv w wr g mk N c s bs) : Below w.heap.size w wr := h.st.pt.bl
theorem Hv.congr {w wr : World} {g mk N : Nat} {c : Nat → Int} {s : Pst} {bs bs' : Nat → Bool} (h : Hv w wr g mk N c s bs) (he : ∀ e, e < N → bs e = bs' e) : Hv w wr g mk N c s bs' := by
  refine ⟨h.st, h.sn, ?_, h.ne⟩
  have h1 : bC bs N = bC bs' N := by
    unfold bC
    refine List.map_congr_left fun e he' => ?_
    rw [he e (List.mem_range.1 he')]
  rw [← h1]
  exact h.mb
/-- Numbers that lie in a block, from its first cell on. -/
def RowI (w : World) (gl : Nat) (zs : List Int) : Prop := ∀ (j : Nat) (z : Int), zs[j]? = some z → w.cell? ⟨gl, j, none⟩ = some (.int .i64 z)
theorem RowI.kept {F : Nat → Prop} {w w' : World} {gl : Nat} {zs : List Int} (h : RowI w gl zs) (hk : Kept F w w') (hb : ¬ F gl) : RowI w' gl zs := fun j z hz => cellk (h j z hz) hk hb
theorem RowI.below {w w' : World} {gl : Nat} {zs : List Int} (h : RowI w gl zs) (hb : Below w.heap.size w w') : RowI w' gl zs := fun j z hz => cellu (h j z hz) hb
theorem row_of {w : World} {B : Nat} {u : Value} {zs : List Int} (h : OwnI w B u zs) (h0 : 0 < zs.length) : ∃ gl cp, u = .slice (some ⟨gl, 0, none⟩) zs.length cp ∧ RowI w gl zs ∧ B ≤ gl := by
  rcases h.2 with ⟨rfl, h1⟩ | ⟨gl, cp, cur, rfl, hgl, _⟩
  · omega
  · refine ⟨gl, cp, rfl, fun j z hz => ?_, hgl⟩
    obtain ⟨ao', cap', he, hx⟩ := h.has
    obtain ⟨a', ha', hc'⟩ := hx j z hz
    injection he with he1 he2 he3
    rw [← he1] at ha'
    obtain rfl := (Option.some.inj ha').symm
    have h4 : (⟨gl, 0, none⟩ : Addr).add j = ⟨gl, j, none⟩ := by
      unfold Addr.add
      by_cases hj : j = 0
      · subst hj; rfl
      · simp [hj]
    rw [h4] at hc'
    exact hc'
/-! Where a split parts nothing all marks of the block are alike. -/
theorem alike {s : Pst} (hO : s.Ok) {b : Nat} (hb : b < s.nb) (h : ¬ s.splits b) : ∃ v, ∀ e, e < s.n → s.O e = b → s.isM e = v := by
  have iv := hO.iv b hb
  unfold Pst.splits at h
  by_cases h1 : s.B b < s.R b
  · refine ⟨true, fun e he ho => decide_eq_true ?_⟩
    have h2 := hO.o e he
    rw [ho] at h2 ⊢
    omega
  · refine ⟨false, fun e he ho => decide_eq_false ?_⟩
    have h2 := hO.o e he
    rw [ho] at h2 ⊢
    omega
theorem clear_O (s : Pst) (b : Nat) (h : ¬ s.splits b) : (s.split b).O = s.O := by unfold Pst.split; rw [if_neg h]; rfl
/-- Where it parts the block, the new block and what stays: their marks, their sizes. -/
theorem parted {s : Pst} (hO : s.Ok) {b : Nat} (hb : b < s.nb) (h : s.splits b) : ∃ v, (∀ e, e < s.n → (s.split b).O e = s.nb → s.isM e = v) ∧ (∀ e, e < s.n → (s.split b).O e = b → s.isM e = !v) ∧
    2 * ((s.split b).mem s.nb).length ≤ (s.mem b).length ∧ ((s.split b).mem s.nb).length + ((s.split b).mem b).length = (s.mem b).length ∧ 0 < ((s.split b).mem s.nb).length ∧ 0 < ((s.split b).mem b).length := by
  have hS := split_ok hO hb
  have hnb := split_nb s b
  rw [if_pos h] at hnb
  rw [mem_len hS.1 (by omega), mem_len hS.1 (by omega), mem_len hO hb]
  have iv := hO.iv b hb
  obtain ⟨h1, h2⟩ := _root_.id h
  have hne : b ≠ s.nb := by omega
  unfold Pst.split
  rw [if_pos h]
  by_cases h3 : s.D b - s.R b < s.R b - s.B b
  · rw [if_pos h3]
    refine ⟨false, fun e he ho => decide_eq_false ?_, fun e he ho => decide_eq_true ?_, ?_⟩
    · replace ho : (if s.R b ≤ s.P e ∧ s.P e < s.R b + (s.D b - s.R b) then s.nb else s.O e) = s.nb := ho
      have h4 := hO.o e he
      split at ho
      · rename_i h5
        have h6 := hO.ow b hb (s.P e) (by omega) (by omega)
        rw [(hO.pe e he).2] at h6
        rw [h6]; omega
      · omega
    · replace ho : (if s.R b ≤ s.P e ∧ s.P e < s.R b + (s.D b - s.R b) then s.nb else s.O e) = b := ho
      have h4 := hO.o e he
      split at ho
      · omega
      · rename_i h5
        rw [ho] at h4 ⊢
        omega
    · show 2 * (upd (upd s.D b (s.R b)) s.nb (s.D b) s.nb - upd (upd s.B b (s.B b)) s.nb (s.R b) s.nb) ≤ s.D b - s.B b ∧ upd (upd s.D b (s.R b)) s.nb (s.D b) s.nb - upd (upd s.B b (s.B b)) s.nb (s.R b) s.nb + (upd (upd s.D b (s.R b)) s.nb (s.D b) b - upd (upd s.B b (s.B b)) s.nb (s.R b) b) = s.D b - s.B b ∧ 0 < upd (upd s.D b (s.R b)) s.nb (s.D b) s.nb - upd (upd s.B b (s.B b)) s.nb (s.R b) s.nb ∧ 0 < upd (upd s.D b (s.R b)) s.nb (s.D b) b - upd (upd s.B b (s.B b)) s.nb (s.R b) b
      rw [upd_same, upd_same, upd_ne _ (s.D b) hne, upd_ne _ (s.R b) hne, upd_same, upd_same]
      omega
  · rw [if_neg h3]
    refine ⟨true, fun e he ho => decide_eq_true ?_, fun e he ho => decide_eq_false ?_, ?_⟩
    · replace ho : (if s.B b ≤ s.P e ∧ s.P e < s.B b + (s.R b - s.B b) then s.nb else s.O e) = s.nb := ho
      have h4 := hO.o e he
      split at ho
      · rename_i h5
        have h6 := hO.ow b hb (s.P e) (by omega) (by omega)
        rw [(hO.pe e he).2] at h6
        rw [h6]; omega
      · omega
    · replace ho : (if s.B b ≤ s.P e ∧ s.P e < s.B b + (s.R b - s.B b) then s.nb else s.O e) = b := ho
      have h4 := hO.o e he
      split at ho
      · omega
      · rename_i h5
        rw [ho] at h4 ⊢
        omega
    · show 2 * (upd (upd s.D b (s.D b)) s.nb (s.R b) s.nb - upd (upd s.B b (s.R b)) s.nb (s.B b) s.nb) ≤ s.D b - s.B b ∧ upd (upd s.D b (s.D b)) s.nb (s.R b) s.nb - upd (upd s.B b (s.R b)) s.nb (s.B b) s.nb + (upd (upd s.D b (s.D b)) s.nb (s.R b) b - upd (upd s.B b (s.R b)) s.nb (s.B b) b) = s.D b - s.B b ∧ 0 < upd (upd s.D b (s.D b)) s.nb (s.R b) s.nb - upd (upd s.B b (s.R b)) s.nb (s.B b) s.nb ∧ 0 < upd (upd s.D b (s.D b)) s.nb (s.R b) b - upd (upd s.B b (s.R b)) s.nb (s.B b) b
      rw [upd_same, upd_same, upd_ne _ (s.R b) hne, upd_ne _ (s.B b) hne, upd_same, upd_same]
      omega
end Go.Proofs.YtpcndfffljmajaaGreatDoor
/- The document's partition of chapter 8: Some, Split. -/
namespace Go.Proofs.YtpcndfffljmajaaGreatDoor
open Go.RowKit Go.Maps
attribute [local go_sem ↓] Go.wp_at_zero Go.wp_at_succ
/-- The blocks below j that have a marked element. -/
def dSome (O : Nat → Nat) (bs : Nat → Bool) (N j : Nat) : List Int := ((List.range j).filter fun b : Nat => decide (0 < dMk O bs (b : Int) N)).map fun b : Nat => (b : Int)
theorem dSome_yes {O : Nat → Nat} {bs : Nat → Bool} {N j : Nat} (h : 0 < dMk O bs (j : Int) N) : dSome O bs N (j + 1) = dSome O bs N j ++ [(j : Int)] := by simp [dSome, List.range_succ, h]
theorem dSome_no {O : Nat → Nat} {bs : Nat → Bool} {N j : Nat} (h : ¬ 0 < dMk O bs (j : Int) N) : dSome O bs N (j + 1) = dSome O bs N j := by simp [dSome, List.range_succ, h]
theorem dSome_len (O : Nat → Nat) (bs : Nat → Bool) (N j : Nat) : (dSome O bs N j).length ≤ j := by
  unfold dSome
  rw [List.length_map]
  exact Nat.le_trans (List.length_filter_le _ _) (by simp)
set_option maxRecDepth 100000 in
set_option maxHeartbeats 4000000 in
theorem rSome_any (rb ro : Nat) (vB vM : Value) (N nb : Nat) (O : Nat → Nat) (bs : Nat → Bool) (w : World) (h : Dc w rb ro vB vM N nb O bs) (hN : N ≤ 2000) (hnb : nb ≤ 2000) :
    Calls Tryz.prog 34 #[.pointer (some ⟨rb, ro, none⟩)] w fun r w' => ∃ u, r = .returned u ∧ OwnI w' w.heap.size u (dSome O bs N nb) ∧ Below w.heap.size w w' := by
  obtain ⟨i0, hi0, hz0, hz1, hz2⟩ := info_parts Tryz.infoI4
  have HD : Hid (Dc w rb ro vB vM N nb O bs) := h
  clear h
  go_enter Tryz.func34, Tryz.ntmps34
  go_wp2_with fail
  go_loopg [3, 4] nb (fun q lv jv wr => ∃ (j : Nat) (zs : List Int) (ao : Option Addr) (cp M : Nat), jv = .int .i64 j ∧ lv = .slice ao M cp ∧ j ≤ nb ∧ nb - j ≤ q ∧ zs = dSome O bs N j ∧ M = zs.length ∧ OwnI wr w.heap.size (.slice ao M cp) zs ∧ Below w.heap.size w wr)
  case atStart => exact ⟨0, [], none, 0, 0, rfl, rfl, Nat.zero_le _, Nat.le_refl _, rfl, rfl, World.ownsRow_nil _ _ _ _, Below.refl _ _⟩
  case round =>
    obtain ⟨j, zs, ao, cp, M, rfl, rfl, hj, hq, hzs, hM, hOw, hbw⟩ := hrel
    have hDw := HD.out.below hbw
    have y0 := hDw.cN
    by_cases hjn : j < nb
    · have p1 : (j : Int) < (nb : Int) := by omega
      have hMk := rMarks_any rb ro vB vM N nb O bs (j : Int) wr hDw hN
      have hlz : zs.length ≤ j := by rw [hzs]; exact dSome_len O bs N j
      by_cases hm : 0 < dMk O bs (j : Int) N
      · have hsy := dSome_yes hm
        rw [← hzs] at hsy
        have HM : Hid _ := And.intro hMk (And.intro hbw (And.intro hOw (And.intro hsy hM)))
        have hml : M + 1 ≤ maxLen := by unfold maxLen; omega
        have hby : (M + 1) * 8 ≤ 140737488355328 := by omega
        have m1 : (0 : Int) < ((dMk O bs (j : Int) N : Nat) : Int) := by omega
        generalize dMk O bs (j : Int) N = mm at HM m1 hm
        clear hbw hOw hsy hzs hM hlz hMk hDw
        go_wp2_with (first
          | (go_at_call 36; refine Calls.mono HM.out.1 ?_; rintro r w2 ⟨rfl, hw2⟩; obtain rfl := hw2.symm; clear hw2)
          | (at_builtin; refine wpList_append_own_at _ rfl _ _ 22 rfl w.heap.size 3 i0 (.int .i64 0) 1 8 Tryz.underlying22 hi0 hz0 hz1 hz2 rfl (by decide) (.slice ao M cp) M (iC zs) rfl ((by have h := HM.out.2.2.1; unfold OwnI at h; rw [← HM.out.2.2.2.2] at h; exact h.alloc _)) ⟨wr.heap.size, 0, none⟩ 1 1 [.int .i64 j] rfl rfl (World.news_of_block (cs := #[.int .i64 j]) (t := 3) (fr := (0, 0)) (heap_alloc_new wr _)) (by simp [Value.oneCell']) hml hby (by have := HM.out.2.1.size; simp; omega) ?_; intro v2 w4 hown2 hgrow2 hnil2 hat2; have H4 : Hid _ := And.intro hown2 hgrow2; obtain ⟨ao2, cp2, rfl⟩ := row_shape hown2; clear hown2 hgrow2 hnil2 hat2))
        go_roundg (nb - (j + 1))
        case measure => omega
        case rel =>
          have h1 := H4.out.1
          have h2 := HM.out.2.2.2.2
          refine ⟨j + 1, zs ++ [(j : Int)], ao2, cp2, M + 1, by go_num, rfl, by omega, Nat.le_refl _, HM.out.2.2.2.1.symm, by rw [List.length_append, ← h2]; rfl, ?_, ?_⟩
          · unfold OwnI
            rw [iC_snoc, List.length_append, ← h2]
            exact h1
          · exact (HM.out.2.1.alloc HM.out.2.1.size _).grown H4.out.2 (by have := HM.out.2.1.size; simp; omega) (by
              intro q hq
              have h3 := ((own_up (F := fun _ => False) HM.out.2.2.1 (Kept.of_below ((Below.refl _ wr).alloc (Nat.le_refl _) (.cells #[.int .i64 j] 3))) (fun _ _ h => h)).lt q hq).1
              exact h3)
      · have hsy := dSome_no hm
        rw [← hzs] at hsy
        have HM : Hid _ := And.intro hMk (And.intro hbw (And.intro hOw (And.intro hsy hM)))
        have m1 : ¬ (0 : Int) < ((dMk O bs (j : Int) N : Nat) : Int) := by omega
        have m2 : dMk O bs (j : Int) N = 0 := by omega
        generalize dMk O bs (j : Int) N = mm at HM m1 hm m2
        clear hbw hOw hsy hzs hM hlz hMk hDw
        go_wp2_with (go_at_call 36; refine Calls.mono HM.out.1 ?_; rintro r w2 ⟨rfl, hw2⟩; obtain rfl := hw2.symm; clear hw2)
        go_roundg (nb - (j + 1))
        case measure => omega
        case rel => exact ⟨j + 1, zs, ao, cp, M, by go_num, rfl, by omega, Nat.le_refl _, HM.out.2.2.2.1.symm, HM.out.2.2.2.2, HM.out.2.2.1, HM.out.2.1⟩
    · have p1 : ¬ (j : Int) < (nb : Int) := by omega
      have hjn' : j = nb := by omega
      rw [hjn'] at hzs
      have HF : Hid (OwnI wr w.heap.size (.slice ao M cp) (dSome O bs N nb) ∧ Below w.heap.size w wr) := ⟨by rw [← hzs]; exact hOw, hbw⟩
      clear hOw hbw hzs hM hDw
      go_wp2_with fail
      go_ret
      exact ⟨_, rfl, HF.out.1, HF.out.2⟩
end Go.Proofs.YtpcndfffljmajaaGreatDoor
/- The program's partition and the document's say the same. Plain facts. -/
namespace Go.Proofs.YtpcndfffljmajaaGreatDoor
open Go.RowKit Go.Maps
theorem dMem_mem (s : Pst) (b : Nat) : dMem s.O (b : Int) s.n = s.mem b := by
  unfold dMem Pst.mem
  congr 1
  refine List.filter_congr fun e _ => ?_
  exact decide_eq_decide.2 (by omega)
theorem dMk_len (O : Nat → Nat) (bs : Nat → Bool) (b : Int) : ∀ i, dMk O bs b i = ((List.range i).filter fun e => decide ((O e : Int) = b ∧ bs e = true)).length := by
  intro i
  induction i with
  | zero => rfl
  | succ i ih =>
    rw [List.range_succ, List.filter_append, List.length_append, dMk, ih]
    by_cases h : (O i : Int) = b ∧ bs i = true
    · rw [if_pos h]; simp [h]
    · rw [if_neg h]
      have h2 : List.filter (fun e => decide ((O e : Int) = b ∧ bs e = true)) [i] = [] := by
        rw [List.filter_cons_of_neg (by simpa using h)]; rfl
      rw [h2]; rfl
/-- A block's marked elements are those that stand ahead of its rest. -/
theorem dMk_R {s : Pst} (hO : s.Ok) {b : Nat} (hb : b < s.nb) : dMk s.O s.isM (b : Int) s.n = s.R b - s.B b := by
  have v := hO.iv b hb
  rw [dMk_len]
  have hp : ((List.range (s.R b - s.B b)).map fun j : Nat => s.E (s.B b + j)).Perm ((List.range s.n).filter fun e => decide ((s.O e : Int) = (b : Int) ∧ s.isM e = true)) := by
    refine (List.perm_ext_iff_of_nodup ?_ (List.nodup_range.filter _)).2 fun z => ?_
    · refine List.pairwise_map.2 (List.Pairwise.imp_of_mem (fun {x y} hx hy h => ?_) List.pairwise_lt_range)
      intro h2
      rw [List.mem_range] at hx hy
      have h4 := (hO.ep (s.B b + x) (by omega)).2
      have h5 := (hO.ep (s.B b + y) (by omega)).2
      rw [h2, h5] at h4
      omega
    · simp only [List.mem_map, List.mem_range, List.mem_filter, decide_eq_true_eq]
      constructor
      · rintro ⟨j, hj, rfl⟩
        have h1 := hO.ep (s.B b + j) (by omega)
        have h2 := hO.ow b hb (s.B b + j) (by omega) (by omega)
        refine ⟨h1.1, by rw [h2], decide_eq_true ?_⟩
        rw [h1.2, h2]; omega
      · rintro ⟨he, ho, hm⟩
        have ho' : s.O z = b := by omega
        have h1 := hO.o z he
        have h2 := of_decide_eq_true hm
        rw [ho'] at h1 h2
        exact ⟨s.P z - s.B b, by omega, by rw [show s.B b + (s.P z - s.B b) = s.P z by omega, (hO.pe z he).2]⟩
  have h := hp.length_eq
  rw [List.length_map, List.length_range] at h
  exact h.symm
theorem dSome_some {s : Pst} (hO : s.Ok) : dSome s.O s.isM s.n s.nb = s.some s.nb := by
  unfold dSome Pst.some
  congr 1
  refine List.filter_congr fun b hb => ?_
  rw [dMk_R hO (List.mem_range.1 hb)]
  exact decide_eq_decide.2 (by omega)
/-- What Split makes of the elements' blocks, in the document's words. -/
theorem split_O {s : Pst} (hO : s.Ok) {b : Nat} (hb : b < s.nb) {e : Nat} (he : e < s.n) : (s.split b).O e = if s.splits b ∧ s.O e = b ∧ s.isM e = decide (2 * (s.R b - s.B b) ≤ s.D b - s.B b) then s.nb else s.O e := by
  have v := hO.iv b hb
  have o := hO.o e he
  by_cases h : s.splits b
  · obtain ⟨h1, h2⟩ := _root_.id h
    unfold Pst.split
    rw [if_pos h]
    by_cases h3 : s.D b - s.R b < s.R b - s.B b
    · rw [if_pos h3, decide_eq_false (show ¬ 2 * (s.R b - s.B b) ≤ s.D b - s.B b by omega)]
      show (if s.R b ≤ s.P e ∧ s.P e < s.R b + (s.D b - s.R b) then s.nb else s.O e) = _
      by_cases h5 : s.R b ≤ s.P e ∧ s.P e < s.R b + (s.D b - s.R b)
      · have h6 := hO.ow b hb (s.P e) (by omega) (by omega)
        rw [(hO.pe e he).2] at h6
        have h7 : s.isM e = false := decide_eq_false (by rw [h6]; omega)
        rw [if_pos h5, if_pos ⟨h, h6, h7⟩]
      · rw [if_neg h5, if_neg]
        rintro ⟨_, h6, h7⟩
        have h8 := of_decide_eq_false h7
        rw [h6] at h8 o
        omega
    · rw [if_neg h3, decide_eq_true (show 2 * (s.R b - s.B b) ≤ s.D b - s.B b by omega)]
      show (if s.B b ≤ s.P e ∧ s.P e < s.B b + (s.R b - s.B b) then s.nb else s.O e) = _
      by_cases h5 : s.B b ≤ s.P e ∧ s.P e < s.B b + (s.R b - s.B b)
      · have h6 := hO.ow b hb (s.P e) (by omega) (by omega)
        rw [(hO.pe e he).2] at h6
        have h7 : s.isM e = true := decide_eq_true (by rw [h6]; omega)
        rw [if_pos h5, if_pos ⟨h, h6, h7⟩]
      · rw [if_neg h5, if_neg]
        rintro ⟨_, h6, h7⟩
        have h8 := of_decide_eq_true h7
        rw [h6] at h8 o
        omega
  · rw [clear_O s b h, if_neg (fun h9 => h h9.1)]
/-- Whether it splits, in the document's words. -/
theorem splits_iff {s : Pst} (hO : s.Ok) {b : Nat} (hb : b < s.nb) : s.splits b ↔ 0 < dMk s.O s.isM (b : Int) s.n ∧ dMk s.O s.isM (b : Int) s.n < (dMem s.O (b : Int) s.n).length := by
  have v := hO.iv b hb
  rw [dMk_R hO hb, dMem_mem, mem_len hO hb]
  unfold Pst.splits
  omega
end Go.Proofs.YtpcndfffljmajaaGreatDoor
/- The document's partition of chapter 8: Split. -/
namespace Go.Proofs.YtpcndfffljmajaaGreatDoor
open Go.RowKit Go.Maps
attribute [local go_sem ↓] Go.wp_at_zero Go.wp_at_succ
/-- The document's partition in memory, its rows by their blocks: it may be written. -/
structure Dd (wr : World) (x0 x4 : Value) (rb ro bB bM : Nat) (vB vM : Value) (N nb : Nat) (O : Nat → Nat) (bs : Nat → Bool) : Prop where
  cB : wr.cell? ⟨rb, ro, none⟩ = some vB
  cM : wr.cell? ⟨rb, ro + 1, none⟩ = some vM
  cN : wr.cell? ⟨rb, ro + 2, none⟩ = some (.int .i64 nb)
  fN : wr.frozen? ⟨rb, ro + 2, none⟩ = false
  sB : ∃ aB kB, vB = .slice aB N kB ∧ (0 < N → aB = some ⟨bB, 0, none⟩)
  sM : ∃ aM kM, vM = .slice aM N kM ∧ (0 < N → aM = some ⟨bM, 0, none⟩)
  rB : ∀ e, e < N → wr.cell? ⟨bB, e, none⟩ = some (.int .i64 (O e)) ∧ wr.frozen? ⟨bB, e, none⟩ = false
  rM : ∀ e, e < N → wr.cell? ⟨bM, e, none⟩ = some (.bool (bs e)) ∧ wr.frozen? ⟨bM, e, none⟩ = false
  n1 : bB ≠ bM
  n2 : rb ≠ bB
  n3 : rb ≠ bM
  tR : wr.heap[rb]? = some (.cells #[x0, vB, vM, .int .i64 nb, x4] 65 (0, 0)) ∧ ro = 1
  tB : 0 < N → ∃ cs, wr.heap[bB]? = some (.cells cs 3 (0, 0))
  tM : 0 < N → ∃ cs, wr.heap[bM]? = some (.cells cs 4 (0, 0))
theorem typed_set {w : World} {b : Nat} {u : Value} {t : TypeId} (h : ∃ cs, w.heap[b]? = some (.cells cs t (0, 0))) (c o2 : Nat) : ∃ cs, (w.setCell ⟨c, o2, none⟩ u).heap[b]? = some (.cells cs t (0, 0)) := by
  obtain ⟨cs, hc⟩ := h
  by_cases e : b = c
  · subst e; exact ⟨_, heap_setCell_same w b o2 cs _ u hc⟩
  · exact ⟨cs, (set_other _ _ _ _ _ e).trans hc⟩
theorem Dd.dc {wr : World} {x0 x4 : Value} {rb ro bB bM : Nat} {vB vM : Value} {N nb : Nat} {O : Nat → Nat} {bs : Nat → Bool} (h : Dd wr x0 x4 rb ro bB bM vB vM N nb O bs) : Dc wr rb ro vB vM N nb O bs := by
  obtain ⟨aB, kB, h1, h2⟩ := h.sB
  obtain ⟨aM, kM, h3, h4⟩ := h.sM
  exact ⟨h.cB, h.cM, h.cN, ⟨aB, kB, h1, fun e he => ⟨bB, h2 (by omega), (h.rB e he).1⟩⟩, ⟨aM, kM, h3, fun e he => ⟨bM, h4 (by omega), (h.rM e he).1⟩⟩⟩
theorem frz_kept {F : Nat → Prop} {w w' : World} {b o : Nat} {x : Value} (hc : w.cell? ⟨b, o, none⟩ = some x) (h : w.frozen? ⟨b, o, none⟩ = false) (hk : Kept F w w') (hb : ¬ F b) : w'.frozen? ⟨b, o, none⟩ = false := by
  have h1 := hk.block b (World.block_lt_of_cell? w _ hc) hb
  unfold World.frozen? at h ⊢
  simp only at h ⊢
  rw [h1]
  exact h
theorem Dd.kept {F : Nat → Prop} {wr w' : World} {x0 x4 : Value} {rb ro bB bM : Nat} {vB vM : Value} {N nb : Nat} {O : Nat → Nat} {bs : Nat → Bool} (h : Dd wr x0 x4 rb ro bB bM vB vM N nb O bs) (hk : Kept F wr w') (h1 : ¬ F rb) (h2 : ¬ F bB) (h3 : ¬ F bM) : Dd w' x0 x4 rb ro bB bM vB vM N nb O bs :=
  ⟨cellk h.cB hk h1, cellk h.cM hk h1, cellk h.cN hk h1, frz_kept h.cN h.fN hk h1, h.sB, h.sM, fun e he => ⟨cellk (h.rB e he).1 hk h2, frz_kept (h.rB e he).1 (h.rB e he).2 hk h2⟩, fun e he => ⟨cellk (h.rM e he).1 hk h3, frz_kept (h.rM e he).1 (h.rM e he).2 hk h3⟩, h.n1, h.n2, h.n3, ⟨(hk.block rb (t_lt h.tR.1) h1).trans h.tR.1, h.tR.2⟩, fun hN => by obtain ⟨cs, hc⟩ := h.tB hN; exact ⟨cs, (hk.block bB (t_lt hc) h2).trans hc⟩, fun hN => by obtain ⟨cs, hc⟩ := h.tM hN; exact ⟨cs, (hk.block bM (t_lt hc) h3).trans hc⟩⟩
theorem Dd.setM {wr : World} {x0 x4 : Value} {rb ro bB bM : Nat} {vB vM : Value} {N nb : Nat} {O : Nat → Nat} {bs : Nat → Bool} (h : Dd wr x0 x4 rb ro bB bM vB vM N nb O bs) {x : Nat} (hx : x < N) (b : Bool) : Dd (wr.setCell ⟨bM, x, none⟩ (.bool b)) x0 x4 rb ro bB bM vB vM N nb O (upd bs x b) := by
  have hk := Kept.setCell wr bM x (.bool b)
  have hn1 := h.n1
  have hn3 := h.n3
  refine ⟨cellk h.cB hk hn3, cellk h.cM hk hn3, cellk h.cN hk hn3, frz_kept h.cN h.fN hk hn3, h.sB, h.sM, fun e he => ⟨cellk (h.rB e he).1 hk hn1, frz_kept (h.rB e he).1 (h.rB e he).2 hk hn1⟩, fun e he => ⟨?_, by rw [World.frozen?_setCell]; exact (h.rM e he).2⟩, h.n1, h.n2, h.n3, ⟨(set_other _ _ _ _ _ hn3).trans h.tR.1, h.tR.2⟩, fun hN => typed_set (h.tB hN) _ _, fun hN => typed_set (h.tM hN) _ _⟩
  by_cases hex : e = x
  · subst hex
    rw [upd_same, World.cell?_setCell_same _ _ _ (by rw [(h.rM e he).1])]
  · rw [upd_ne _ _ hex, World.cell?_setCell_other _ _ _ _ (by simp)]
    exact (h.rM e he).1
theorem Dd.setB {wr : World} {x0 x4 : Value} {rb ro bB bM : Nat} {vB vM : Value} {N nb : Nat} {O : Nat → Nat} {bs : Nat → Bool} (h : Dd wr x0 x4 rb ro bB bM vB vM N nb O bs) {x : Nat} (hx : x < N) (b : Nat) : Dd (wr.setCell ⟨bB, x, none⟩ (.int .i64 b)) x0 x4 rb ro bB bM vB vM N nb (upd O x b) bs := by
  have hk := Kept.setCell wr bB x (.int .i64 b)
  have hn1 := h.n1
  have hn2 := h.n2
  refine ⟨cellk h.cB hk hn2, cellk h.cM hk hn2, cellk h.cN hk hn2, frz_kept h.cN h.fN hk hn2, h.sB, h.sM, fun e he => ⟨?_, by rw [World.frozen?_setCell]; exact (h.rB e he).2⟩, fun e he => ⟨cellk (h.rM e he).1 hk (fun q => hn1 q.symm), frz_kept (h.rM e he).1 (h.rM e he).2 hk (fun q => hn1 q.symm)⟩, h.n1, h.n2, h.n3, ⟨(set_other _ _ _ _ _ hn2).trans h.tR.1, h.tR.2⟩, fun hN => typed_set (h.tB hN) _ _, fun hN => typed_set (h.tM hN) _ _⟩
  by_cases hex : e = x
  · subst hex
    rw [upd_same, World.cell?_setCell_same _ _ _ (by rw [(h.rB e he).1])]
  · rw [upd_ne _ _ hex, World.cell?_setCell_other _ _ _ _ (by simp)]
    exact (h.rB e he).1
theorem Dd.congr {wr : World} {x0 x4 : Value} {rb ro bB bM : Nat} {vB vM : Value} {N nb : Nat} {O O' : Nat → Nat} {bs bs' : Nat → Bool} (h : Dd wr x0 x4 rb ro bB bM vB vM N nb O bs) (h1 : ∀ e, e < N → O e = O' e) (h2 : ∀ e, e < N → bs e = bs' e) : Dd wr x0 x4 rb ro bB bM vB vM N nb O' bs' :=
  ⟨h.cB, h.cM, h.cN, h.fN, h.sB, h.sM, fun e he => by rw [← h1 e he]; exact h.rB e he, fun e he => by rw [← h2 e he]; exact h.rM e he, h.n1, h.n2, h.n3, h.tR, h.tB, h.tM⟩
end Go.Proofs.YtpcndfffljmajaaGreatDoor
/- The document's partition of chapter 8: what Split's loop has made. -/
namespace Go.Proofs.YtpcndfffljmajaaGreatDoor
open Go.RowKit Go.Maps
attribute [local go_sem ↓] Go.wp_at_zero Go.wp_at_succ
theorem dMem_at {O : Nat → Nat} {b : Int} {N : Nat} {z : Int} (h : z ∈ dMem O b N) : ∃ e : Nat, e < N ∧ (O e : Int) = b ∧ z = e := by
  simp only [dMem, List.mem_map, List.mem_filter, List.mem_range, decide_eq_true_eq] at h
  obtain ⟨e, ⟨h1, h2⟩, h3⟩ := h
  exact ⟨e, h1, h2, h3.symm⟩
theorem dMem_rise (O : Nat → Nat) (b : Int) (N : Nat) : (dMem O b N).Pairwise (· < ·) := by
  unfold dMem
  rw [List.pairwise_map]
  exact (List.pairwise_lt_range.filter _).imp fun h => by omega
/-- How far Split's loop has come: the elements of the block that it has met. -/
structure Sp (wr : World) (x0 x4 : Value) (rb ro bB bM : Nat) (vB vM : Value) (N nb : Nat) (O : Nat → Nat) (bs : Nat → Bool) (b : Int) (sp mv : Bool) (j : Nat) (O' : Nat → Nat) (bs' : Nat → Bool) : Prop where
  dd : Dd wr x0 x4 rb ro bB bM vB vM N nb O' bs'
  out : ∀ e, e < N → ¬ (O e : Int) = b → O' e = O e ∧ bs' e = bs e
  met : ∀ i e : Nat, (dMem O b N)[i]? = some (e : Int) → (i < j → O' e = (if sp && (bs e == mv) then nb else O e) ∧ bs' e = false) ∧ (j ≤ i → O' e = O e ∧ bs' e = bs e)
theorem dMem_one {O : Nat → Nat} {b : Int} {N i j e : Nat} (hi : (dMem O b N)[i]? = some (e : Int)) (hj : (dMem O b N)[j]? = some (e : Int)) : i = j := by
  obtain ⟨l1, m1⟩ := List.getElem?_eq_some_iff.1 hi
  obtain ⟨l2, m2⟩ := List.getElem?_eq_some_iff.1 hj
  rcases Nat.lt_trichotomy i j with h | h | h
  · have h3 := List.pairwise_iff_getElem.1 (dMem_rise O b N) i j l1 l2 h
    rw [m1, m2] at h3; omega
  · exact h
  · have h3 := List.pairwise_iff_getElem.1 (dMem_rise O b N) j i l2 l1 h
    rw [m1, m2] at h3; omega
/-- One element of the block is done. -/
theorem Sp.next {wr wz : World} {x0 x4 : Value} {rb ro bB bM : Nat} {vB vM : Value} {N nb : Nat} {O : Nat → Nat} {bs : Nat → Bool} {b : Int} {sp mv : Bool} {j e : Nat} {O' : Nat → Nat} {bs' : Nat → Bool} (h : Sp wr x0 x4 rb ro bB bM vB vM N nb O bs b sp mv j O' bs') (hj : (dMem O b N)[j]? = some (e : Int)) (O2 : Nat → Nat) (hO2 : O2 = if sp && (bs e == mv) then upd O' e nb else O') (hd : Dd wz x0 x4 rb ro bB bM vB vM N nb O2 (upd bs' e false)) : Sp wz x0 x4 rb ro bB bM vB vM N nb O bs b sp mv (j + 1) O2 (upd bs' e false) := by
  have hother : ∀ y, y ≠ e → O2 y = O' y := fun y hy => by rw [hO2]; split; exact upd_ne _ _ hy; rfl
  have hoe : (O e : Int) = b := by
    obtain ⟨x, _, h2, h3⟩ := dMem_at (List.mem_of_getElem? hj)
    have : x = e := by omega
    rw [← this]; exact h2
  refine ⟨hd, fun y hy ho => ?_, fun i y hi => ⟨fun hij => ?_, fun hij => ?_⟩⟩
  · have hne : y ≠ e := fun q => ho (by rw [q]; exact hoe)
    rw [hother y hne, upd_ne _ _ hne]
    exact h.out y hy ho
  · by_cases hye : y = e
    · subst hye
      have hij2 := dMem_one hi hj
      rw [upd_same]
      refine ⟨?_, rfl⟩
      rw [hO2]
      have h9 := ((h.met j y hj).2 (Nat.le_refl _)).1
      by_cases hc : (sp && (bs y == mv)) = true
      · rw [if_pos hc, if_pos hc, upd_same]
      · rw [if_neg hc, if_neg hc]; exact h9
    · have hij2 : i ≠ j := fun q => hye (by rw [q, hj] at hi; have := Option.some.inj hi; omega)
      rw [hother y hye, upd_ne _ _ hye]
      exact (h.met i y hi).1 (by omega)
  · have hye : y ≠ e := fun q => by subst q; have := dMem_one hi hj; omega
    rw [hother y hye, upd_ne _ _ hye]
    exact (h.met i y hi).2 (by omega)
theorem Sp.done {wr : World} {x0 x4 : Value} {rb ro bB bM : Nat} {vB vM : Value} {N nb : Nat} {O : Nat → Nat} {bs : Nat → Bool} {b : Int} {sp mv : Bool} {O' : Nat → Nat} {bs' : Nat → Bool} {K : Nat} (h : Sp wr x0 x4 rb ro bB bM vB vM N nb O bs b sp mv K O' bs') (hK : K = (dMem O b N).length) : ∀ e, e < N → O' e = (if (O e : Int) = b ∧ sp = true ∧ bs e = mv then nb else O e) ∧ bs' e = (bs e && decide (¬ (O e : Int) = b)) := fun e he => by
  by_cases ho : (O e : Int) = b
  · have hmem : (e : Int) ∈ dMem O b N := by
      simp only [dMem, List.mem_map, List.mem_filter, List.mem_range, decide_eq_true_eq]
      exact ⟨e, ⟨he, ho⟩, rfl⟩
    obtain ⟨i, hi⟩ := List.getElem?_of_mem hmem
    have hlt : i < K := by rw [hK]; exact (List.getElem?_eq_some_iff.1 hi).1
    obtain ⟨h1, h2⟩ := (h.met i e hi).1 hlt
    rw [h1, h2]
    refine ⟨?_, by simp [ho]⟩
    by_cases hc : (sp && (bs e == mv)) = true
    · rw [if_pos hc, if_pos (by simp at hc; exact ⟨ho, hc.1, hc.2⟩)]
    · rw [if_neg hc, if_neg (by rintro ⟨_, q1, q2⟩; exact hc (by simp [q1, q2]))]
  · obtain ⟨h1, h2⟩ := h.out e he ho
    rw [h1, h2, if_neg (fun q => ho q.1)]
    exact ⟨rfl, by simp [ho]⟩
end Go.Proofs.YtpcndfffljmajaaGreatDoor
