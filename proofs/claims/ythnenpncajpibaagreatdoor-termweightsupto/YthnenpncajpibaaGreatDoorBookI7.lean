/- Contract of the book's Apart, where it has lists of numbers alone. -/
import Derived.Test.YthnenpncajpibaaGreatDoorBookI6
namespace Go.Proofs.YthnenpncajpibaaGreatDoor
open Go.RowKit Go.Maps
attribute [local go_sem ↓] Go.wp_at_zero Go.wp_at_succ
/-- Of the other kinds the book has none. -/
structure Oth (w : World) (bk : Nat) : Prop where
  d1 : w.cell? ⟨bk, 2, none⟩ = some (.slice none 0 0)
  d2 : w.cell? ⟨bk, 4, none⟩ = some (.slice none 0 0)
  d3 : w.cell? ⟨bk, 6, none⟩ = some (.slice none 0 0)
  d4 : w.cell? ⟨bk, 8, none⟩ = some (.slice none 0 0)
  d5 : w.cell? ⟨bk, 10, none⟩ = some (.slice none 0 0)
  d6 : w.cell? ⟨bk, 12, none⟩ = some (.slice none 0 0)
  d7 : w.cell? ⟨bk, 14, none⟩ = some (.slice none 0 0)
  d8 : w.cell? ⟨bk, 16, none⟩ = some (.slice none 0 0)
  d9 : w.cell? ⟨bk, 18, none⟩ = some (.slice none 0 0)
  d10 : w.cell? ⟨bk, 20, none⟩ = some (.slice none 0 0)
theorem Oth.block {w w' : World} {bk : Nat} (h : Oth w bk) (hb : w'.heap[bk]? = w.heap[bk]?) : Oth w' bk :=
  ⟨(World.cell?_of_block (a := ⟨bk, 2, none⟩) hb).trans h.d1, (World.cell?_of_block (a := ⟨bk, 4, none⟩) hb).trans h.d2, (World.cell?_of_block (a := ⟨bk, 6, none⟩) hb).trans h.d3, (World.cell?_of_block (a := ⟨bk, 8, none⟩) hb).trans h.d4, (World.cell?_of_block (a := ⟨bk, 10, none⟩) hb).trans h.d5, (World.cell?_of_block (a := ⟨bk, 12, none⟩) hb).trans h.d6, (World.cell?_of_block (a := ⟨bk, 14, none⟩) hb).trans h.d7, (World.cell?_of_block (a := ⟨bk, 16, none⟩) hb).trans h.d8, (World.cell?_of_block (a := ⟨bk, 18, none⟩) hb).trans h.d9, (World.cell?_of_block (a := ⟨bk, 20, none⟩) hb).trans h.d10⟩
theorem Oth.lt {w : World} {bk : Nat} (h : Oth w bk) : bk < w.heap.size := World.block_lt_of_cell? w _ h.d1
theorem Oth.below {w w' : World} {bk : Nat} (h : Oth w bk) (hb : Below w.heap.size w w') : Oth w' bk := h.block (hb.block bk h.lt)
theorem Oth.kept {F : Nat → Prop} {w w' : World} {bk : Nat} (h : Oth w bk) (hk : Kept F w w') (hF : ¬ F bk) : Oth w' bk := h.block (hk.block bk h.lt hF)
theorem marks_zero_add (k n m : Nat) : marks k 0 n ++ marks k n m = marks k 0 (n + m) := by have := marks_add k 0 n m; rwa [Nat.zero_add] at this
/-- Behind growInts: the grown lists and the lists have their marks. -/
theorem gr_marked {w wr : World} {bk : Nat} {vi : Value} {ls : List Value} {zss : List (List Int)} {vo : Value} {os : List Value} (h : Gr w wr bk vi ls (allM zss) (allM zss).length vo os) : Mr wr vo (zss.map fun z => z.length + 96) ∧ Mr wr vi (zss.map List.length) := by
  have hal : (allM zss).length = zss.length := by unfold allM; rw [List.length_mapIdx]
  have hlo : os.length = zss.length := by have := h.row.1; rw [Nat.mul_one, hal] at this; exact this
  have hll : ls.length = zss.length := by have := h.ri.1; rw [Nat.mul_one, hal] at this; exact this
  have hD : ∀ (k n : Nat), (zss.map List.length)[k]? = some n → ∃ l o, ls[k]? = some l ∧ os[k]? = some o ∧ HasI wr l (marks k 0 n) ∧ HasI wr o (marks k 0 (n + 96)) := fun k n hk => by
    rw [List.getElem?_map] at hk
    obtain ⟨zs, hz, rfl⟩ := Option.map_eq_some_iff.1 hk
    have hkl := (List.getElem?_eq_some_iff.1 hz).1
    have hl : ls[k]? = some (ls[k]'(by omega)) := List.getElem?_eq_getElem _
    have ha : (allM zss)[k]? = some (marks k 0 zs.length) := by unfold allM; rw [List.getElem?_mapIdx, hz]; rfl
    obtain ⟨d1, o, d2, d3, _⟩ := h.done k _ _ (by omega) hl ha
    rw [marks_len, marks_zero_add] at d3
    exact ⟨_, o, hl, d2, d1, d3⟩
  constructor
  · obtain ⟨ao, co, hv⟩ := row_shape h.row
    refine ⟨ao, co, by rw [List.length_map, hv, hal], fun k n hk => ?_⟩
    rw [List.getElem?_map] at hk
    obtain ⟨zs, hz, rfl⟩ := Option.map_eq_some_iff.1 hk
    have hkl := (List.getElem?_eq_some_iff.1 hz).1
    obtain ⟨l, o, _, ho, _, hO⟩ := hD k zs.length (by rw [List.getElem?_map, hz]; rfl)
    obtain ⟨g, c, hf, _, _⟩ := h.row.form (by omega)
    rw [hv] at hf
    injection hf with e1 e2 e3
    subst e1; subst e3
    have hr := h.row
    rw [hv] at hr
    exact ⟨_, o, rfl, by rw [addz, hr.cellAt k (by omega), ho], hO⟩
  · obtain ⟨ao, co, hv⟩ := row_shape h.ri
    refine ⟨ao, co, by rw [List.length_map, hv, hal], fun k n hk => ?_⟩
    obtain ⟨l, o, hl, _, hL, _⟩ := hD k n hk
    rw [List.getElem?_map] at hk
    obtain ⟨zs, hz, rfl⟩ := Option.map_eq_some_iff.1 hk
    have hkl := (List.getElem?_eq_some_iff.1 hz).1
    obtain ⟨g, c, hf, _, _⟩ := h.ri.form (by omega)
    rw [hv] at hf
    injection hf with e1 e2 e3
    subst e1; subst e3
    have hr := h.ri
    rw [hv] at hr
    exact ⟨_, l, rfl, by rw [addz, hr.cellAt k (by omega), hl], hL⟩
set_option maxRecDepth 100000 in
set_option maxHeartbeats 16000000 in
theorem apartI_any (bk : Nat) (vi vw : Value) (ls ws : List Value) (zss : List (List Int)) (w : World) (h : Bs w bk vi vw ls ws zss) (ho : Oth w bk) :
    Calls Tryz.prog 16 #[.pointer (some ⟨bk, 0, none⟩)] w fun r w' => r = .returned (.bool true) ∧ Kept (LsF ls) w w' := by
  have hlen := h.p.len
  have hsz := h.p.sz
  have hbl : ¬ LsF ls bk := fun ⟨l, hl, e⟩ => h.p.ap.b l hl e
  have HB : Hid _ := And.intro h (And.intro ho (And.intro hlen (And.intro hsz hbl)))
  clear h ho hlen hsz hbl
  go_enter Tryz.func16, Tryz.ntmps16
  go_wp2_with (first
    | (go_at_call 34; refine (still_any bk vi vw ls ws zss _ HB.out.1).mono ?_; rintro r1 w1 ⟨rfl, hb1⟩; have H1 : Hid _ := And.intro (HB.out.1.p.below hb1) (And.intro (HB.out.2.1.below hb1) (Kept.of_below (F := LsF ls) hb1)); clear hb1)
    | (go_at_call 35; refine (stillTokens_nil bk _ H1.out.2.1.d1).mono ?_; rintro r9 w9 ⟨rfl, hw⟩; obtain rfl := hw.symm; clear hw)
    | (go_at_call 36; refine (stillTexts_nil bk _ H1.out.2.1.d2).mono ?_; rintro r9 w9 ⟨rfl, hw⟩; obtain rfl := hw.symm; clear hw)
    | (go_at_call 37; refine (stillBools_nil bk _ H1.out.2.1.d3).mono ?_; rintro r9 w9 ⟨rfl, hw⟩; obtain rfl := hw.symm; clear hw)
    | (go_at_call 38; refine (stillSteps_nil bk _ H1.out.2.1.d4).mono ?_; rintro r9 w9 ⟨rfl, hw⟩; obtain rfl := hw.symm; clear hw)
    | (go_at_call 39; refine (stillEdges_nil bk _ H1.out.2.1.d5).mono ?_; rintro r9 w9 ⟨rfl, hw⟩; obtain rfl := hw.symm; clear hw)
    | (go_at_call 40; refine (stillNodes_nil bk _ H1.out.2.1.d6).mono ?_; rintro r9 w9 ⟨rfl, hw⟩; obtain rfl := hw.symm; clear hw)
    | (go_at_call 41; refine (stillPairs_nil bk _ H1.out.2.1.d7).mono ?_; rintro r9 w9 ⟨rfl, hw⟩; obtain rfl := hw.symm; clear hw)
    | (go_at_call 42; refine (stillRows_nil bk _ H1.out.2.1.d8).mono ?_; rintro r9 w9 ⟨rfl, hw⟩; obtain rfl := hw.symm; clear hw)
    | (go_at_call 43; refine (stillLines_nil bk _ H1.out.2.1.d9).mono ?_; rintro r9 w9 ⟨rfl, hw⟩; obtain rfl := hw.symm; clear hw)
    | (go_at_call 44; refine (stillWalks_nil bk _ H1.out.2.1.d10).mono ?_; rintro r9 w9 ⟨rfl, hw⟩; obtain rfl := hw.symm; clear hw)
    | (go_at_call 45; refine (putI_any bk vi ls zss _ H1.out.1).mono ?_; rintro r2 w2 ⟨rfl, hp2, hk2⟩; have H2 : Hid _ := And.intro hp2 (And.intro (H1.out.2.1.kept hk2 HB.out.2.2.2.2) (H1.out.2.2.trans hk2)); clear hp2 hk2)
    | (go_at_call 46; refine (putTokens_nil bk _ H2.out.2.1.d1).mono ?_; rintro r9 w9 ⟨rfl, hw⟩; obtain rfl := hw.symm; clear hw)
    | (go_at_call 47; refine (putTexts_nil bk _ H2.out.2.1.d2).mono ?_; rintro r9 w9 ⟨rfl, hw⟩; obtain rfl := hw.symm; clear hw)
    | (go_at_call 48; refine (putBools_nil bk _ H2.out.2.1.d3).mono ?_; rintro r9 w9 ⟨rfl, hw⟩; obtain rfl := hw.symm; clear hw)
    | (go_at_call 49; refine (putSteps_nil bk _ H2.out.2.1.d4).mono ?_; rintro r9 w9 ⟨rfl, hw⟩; obtain rfl := hw.symm; clear hw)
    | (go_at_call 50; refine (putEdges_nil bk _ H2.out.2.1.d5).mono ?_; rintro r9 w9 ⟨rfl, hw⟩; obtain rfl := hw.symm; clear hw)
    | (go_at_call 51; refine (putNodes_nil bk _ H2.out.2.1.d6).mono ?_; rintro r9 w9 ⟨rfl, hw⟩; obtain rfl := hw.symm; clear hw)
    | (go_at_call 52; refine (putPairs_nil bk _ H2.out.2.1.d7).mono ?_; rintro r9 w9 ⟨rfl, hw⟩; obtain rfl := hw.symm; clear hw)
    | (go_at_call 53; refine (putRows_nil bk _ H2.out.2.1.d8).mono ?_; rintro r9 w9 ⟨rfl, hw⟩; obtain rfl := hw.symm; clear hw)
    | (go_at_call 54; refine (putLines_nil bk _ H2.out.2.1.d9).mono ?_; rintro r9 w9 ⟨rfl, hw⟩; obtain rfl := hw.symm; clear hw)
    | (go_at_call 55; refine (putWalks_nil bk _ H2.out.2.1.d10).mono ?_; rintro r9 w9 ⟨rfl, hw⟩; obtain rfl := hw.symm; clear hw)
    | (go_at_call 56; refine (growI_any bk vi ls (allM zss) _ H2.out.1).mono ?_; rintro r3 w3 ⟨vo, os, rfl, hG3⟩; have hM3 := gr_marked hG3; have hO3 := H2.out.2.1.kept hG3.kp HB.out.2.2.2.2; have c0 := hG3.c0; have H3 : Hid _ := And.intro hM3 (And.intro hO3 (H2.out.2.2.trans hG3.kp)); clear hM3 hO3 hG3)
    | (go_at_call 57; refine (growTokens_nil bk _ H3.out.2.1.d1).mono ?_; rintro r9 w9 ⟨rfl, hw⟩; obtain rfl := hw.symm; clear hw)
    | (go_at_call 58; refine (growTexts_nil bk _ H3.out.2.1.d2).mono ?_; rintro r9 w9 ⟨rfl, hw⟩; obtain rfl := hw.symm; clear hw)
    | (go_at_call 59; refine (growBools_nil bk _ H3.out.2.1.d3).mono ?_; rintro r9 w9 ⟨rfl, hw⟩; obtain rfl := hw.symm; clear hw)
    | (go_at_call 60; refine (growSteps_nil bk _ H3.out.2.1.d4).mono ?_; rintro r9 w9 ⟨rfl, hw⟩; obtain rfl := hw.symm; clear hw)
    | (go_at_call 61; refine (growEdges_nil bk _ H3.out.2.1.d5).mono ?_; rintro r9 w9 ⟨rfl, hw⟩; obtain rfl := hw.symm; clear hw)
    | (go_at_call 62; refine (growNodes_nil bk _ H3.out.2.1.d6).mono ?_; rintro r9 w9 ⟨rfl, hw⟩; obtain rfl := hw.symm; clear hw)
    | (go_at_call 63; refine (growPairs_nil bk _ H3.out.2.1.d7).mono ?_; rintro r9 w9 ⟨rfl, hw⟩; obtain rfl := hw.symm; clear hw)
    | (go_at_call 64; refine (growRows_nil bk _ H3.out.2.1.d8).mono ?_; rintro r9 w9 ⟨rfl, hw⟩; obtain rfl := hw.symm; clear hw)
    | (go_at_call 65; refine (growLines_nil bk _ H3.out.2.1.d9).mono ?_; rintro r9 w9 ⟨rfl, hw⟩; obtain rfl := hw.symm; clear hw)
    | (go_at_call 66; refine (growWalks_nil bk _ H3.out.2.1.d10).mono ?_; rintro r9 w9 ⟨rfl, hw⟩; obtain rfl := hw.symm; clear hw)
    | fail)
  refine (markedI_any vo (zss.map fun z => z.length + 96) _ H3.out.1.1 (by rw [List.length_map]; exact HB.out.2.2.1) (fun n hn => by obtain ⟨z, hz, rfl⟩ := List.mem_map.1 hn; have := HB.out.2.2.2.1 z hz; omega)).mono ?_
  rintro r4 w4 ⟨rfl, hb4⟩
  have c4 := cell_up c0 hb4
  have H4 : Hid _ := And.intro (H3.out.1.2.below hb4) (And.intro (H3.out.2.1.below hb4) (H3.out.2.2.trans (Kept.of_below hb4)))
  clear hb4 c0
  go_wp2_with fail
  refine (markedI_any vi (zss.map List.length) _ H4.out.1 (by rw [List.length_map]; exact HB.out.2.2.1) (fun n hn => by obtain ⟨z, hz, rfl⟩ := List.mem_map.1 hn; have := HB.out.2.2.2.1 z hz; omega)).mono ?_
  rintro r5 w5 ⟨rfl, hb5⟩
  obtain ⟨d1, d2, d3, d4, d5, d6, d7, d8, d9, d10⟩ := H4.out.2.1.below hb5
  have H5 : Hid _ := H4.out.2.2.trans (Kept.of_below hb5)
  clear hb5 c4
  go_wp2_with (first
    | (go_at_call 68; refine (markedTokens_nil _).mono ?_; rintro r9 w9 ⟨rfl, hw⟩; obtain rfl := hw.symm; clear hw)
    | (go_at_call 69; refine (markedTexts_nil _).mono ?_; rintro r9 w9 ⟨rfl, hw⟩; obtain rfl := hw.symm; clear hw)
    | (go_at_call 70; refine (markedBools_nil _).mono ?_; rintro r9 w9 ⟨rfl, hw⟩; obtain rfl := hw.symm; clear hw)
    | (go_at_call 71; refine (markedSteps_nil _).mono ?_; rintro r9 w9 ⟨rfl, hw⟩; obtain rfl := hw.symm; clear hw)
    | (go_at_call 72; refine (markedEdges_nil _).mono ?_; rintro r9 w9 ⟨rfl, hw⟩; obtain rfl := hw.symm; clear hw)
    | (go_at_call 73; refine (markedNodes_nil _).mono ?_; rintro r9 w9 ⟨rfl, hw⟩; obtain rfl := hw.symm; clear hw)
    | (go_at_call 74; refine (markedPairs_nil _).mono ?_; rintro r9 w9 ⟨rfl, hw⟩; obtain rfl := hw.symm; clear hw)
    | (go_at_call 75; refine (markedRows_nil _).mono ?_; rintro r9 w9 ⟨rfl, hw⟩; obtain rfl := hw.symm; clear hw)
    | (go_at_call 76; refine (markedLines_nil _).mono ?_; rintro r9 w9 ⟨rfl, hw⟩; obtain rfl := hw.symm; clear hw)
    | (go_at_call 77; refine (markedWalks_nil _).mono ?_; rintro r9 w9 ⟨rfl, hw⟩; obtain rfl := hw.symm; clear hw)
    | fail)
  go_ret
  exact ⟨rfl, H5.out⟩
end Go.Proofs.YthnenpncajpibaaGreatDoor
