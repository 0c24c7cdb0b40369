/- Texts of this claim, joined: BXaEdges, BookApISE, BookWISE, SyPure, SyOut0. -/
import Derived.Test.YtihdpncjgmpboaaGreatDoorBXwEdges
import Derived.Test.YtihdpncjgmpboaaGreatDoorPart1
import Derived.Test.YtihdpncjgmpboaaGreatDoorPart4
import Derived.Test.YtihdpncjgmpboaaGreatDoorPart0
import Derived.Deep.DeepCutAuto
import GoSem.Claim
/- The book's lists of Edges: what stands while other kinds turn; the marked lists behind Apart's growing. (Written by mkbx.py out of BXa.tmpl.) -/
namespace Go.Proofs.YtihdpncjgmpboaaGreatDoor.BEdges
open Go.RowKit Go.Maps
theorem Bp.lsf_lt {w : World} {bk : Nat} {vi : Value} {ls : List Value} {zss : List (List El)} (h : Bp w bk vi ls zss) {b : Nat} (hb : LsF ls b) : b < w.heap.size := by
  obtain ⟨l, hl, hb⟩ := hb
  obtain ⟨k, hk, rfl⟩ := List.getElem_of_mem hl
  have hz : zss[k]? = some (zss[k]'(by rw [← h.ll]; exact hk)) := List.getElem?_eq_getElem _
  exact ((h.li k _ _ (List.getElem?_eq_getElem hk) hz).lt b hb).2
theorem Bp.keep {w w' : World} {F : Nat → Prop} {bk : Nat} {vi : Value} {ls : List Value} {zss : List (List El)} (h : Bp w bk vi ls zss) (hk : Kept F w w') (hb : ¬ F bk) (hr : ∀ b, vi.ownBlock = some b → ¬ F b) (hl : ∀ b, LsF ls b → ¬ F b) : Bp w' bk vi ls zss :=
  ⟨(World.cell?_of_block (a := ⟨bk, 10, none⟩) (hk.block bk (World.block_lt_of_cell? w _ h.c0) hb)).trans h.c0, trow_at h.ri fun i hi => hk.block i (h.ri.lt i hi).2 (hr i hi), fun k l zs h1 h2 => trow_at (h.li k l zs h1 h2) fun i hi => hk.block i ((h.li k l zs h1 h2).lt i hi).2 (hl i ⟨l, List.mem_of_getElem? h1, hi⟩), h.ap, h.len, h.sz⟩
/-- A row of lists, each with its marks, all in blocks of F. -/
structure Mq (w : World) (v : Value) (ns : List Nat) (F : Nat → Prop) : Prop where
  ex : ∃ ao cap, v = .slice ao ns.length cap ∧ ∀ (k n : Nat), ns[k]? = some n → ∃ g l, ao = some ⟨g, 0, none⟩ ∧ w.cell? ⟨g, k, none⟩ = some l ∧ Has w l (marks k 0 n) ∧ (n ≠ 0 → ∀ b, l.ownBlock = some b → F b)
  row : ∀ b, v.ownBlock = some b → F b
theorem Mq.mr {w : World} {v : Value} {ns : List Nat} {F : Nat → Prop} (h : Mq w v ns F) : Mr w v ns := by
  obtain ⟨ao, cap, hv, h1⟩ := h.ex
  refine ⟨ao, cap, hv, fun k n hk => ?_⟩
  obtain ⟨g, l, ha, hc, hl, _⟩ := h1 k n hk
  exact ⟨_, l, ha, by rw [addz]; exact hc, hl⟩
theorem Mq.kept {w w' : World} {v : Value} {ns : List Nat} {F G : Nat → Prop} (h : Mq w v ns F) (hk : Kept G w w') (hd : ∀ b, F b → ¬ G b) : Mq w' v ns F := by
  obtain ⟨ao, cap, hv, h1⟩ := h.ex
  refine ⟨⟨ao, cap, hv, fun k n hn => ?_⟩, h.row⟩
  obtain ⟨g, l, ha, hc, hl, hF⟩ := h1 k n hn
  refine ⟨g, l, ha, (World.cell?_of_block (a := ⟨g, k, none⟩) (hk.block g (World.block_lt_of_cell? w _ hc) (hd g (h.row g (by rw [hv, ha]; rfl))))).trans hc, hl.kept hk fun hz b hb => hd b (hF (fun e => hz (by rw [e]; rfl)) b hb), hF⟩
theorem Mq.below {w w' : World} {v : Value} {ns : List Nat} {F : Nat → Prop} (h : Mq w v ns F) (hb : Below w.heap.size w w') : Mq w' v ns F := h.kept (G := fun _ => False) (Kept.of_below hb) fun _ _ hg => hg
theorem marks_zero_add (k n m : Nat) : marks k 0 n ++ marks k n m = marks k 0 (n + m) := by have := marks_add k 0 n m; rwa [Nat.zero_add] at this
/-- Behind the growing: the grown lists and the lists have their marks. -/
theorem gr_marked {w wr : World} {bk : Nat} {vi : Value} {ls : List Value} {zss : List (List El)} {vo : Value} {os : List Value} (h : Gr w wr bk vi ls (allM zss) (allM zss).length vo os) : Mq wr vo (zss.map fun z => z.length + 96) (fun b => LsF ls b ∨ vi.ownBlock = some b ∨ w.heap.size ≤ b) ∧ Mq wr vi (zss.map List.length) (fun b => LsF ls b ∨ vi.ownBlock = some b ∨ w.heap.size ≤ b) := by
  have hal : (allM zss).length = zss.length := by unfold allM; rw [List.length_mapIdx]
  have hlo : os.length = zss.length := by have := h.row.1; rw [Nat.mul_one, hal] at this; exact this
  have hll : ls.length = zss.length := by have := h.ri.1; rw [Nat.mul_one, hal] at this; exact this
  have hD : ∀ (k n : Nat), (zss.map List.length)[k]? = some n → ∃ l o, ls[k]? = some l ∧ os[k]? = some o ∧ Has wr l (marks k 0 n) ∧ Has wr o (marks k 0 (n + 96)) ∧ ∀ b, o.ownBlock = some b → LsF ls b ∨ w.heap.size ≤ b := fun k n hk => by
    rw [List.getElem?_map] at hk
    obtain ⟨zs, hz, rfl⟩ := Option.map_eq_some_iff.1 hk
    have hkl := (List.getElem?_eq_some_iff.1 hz).1
    have hl : ls[k]? = some (ls[k]'(by omega)) := List.getElem?_eq_getElem _
    have ha : (allM zss)[k]? = some (marks k 0 zs.length) := by unfold allM; rw [List.getElem?_mapIdx, hz]; rfl
    obtain ⟨d1, o, d2, d3, d4, _⟩ := h.done k _ _ (by omega) hl ha
    rw [marks_len, marks_zero_add] at d3
    refine ⟨_, o, hl, d2, d1, d3, fun b hb => ?_⟩
    rcases d4 with e | e
    · exact .inl ⟨_, List.mem_of_getElem? hl, by rw [← e]; exact hb⟩
    · exact .inr (e b hb)
  constructor
  · obtain ⟨ao, co, hv⟩ := row_shape h.row
    refine ⟨⟨ao, co, by rw [List.length_map, hv, hal], fun k n hk => ?_⟩, fun b hb => .inr (.inr (h.row.lt b hb).1)⟩
    rw [List.getElem?_map] at hk
    obtain ⟨zs, hz, rfl⟩ := Option.map_eq_some_iff.1 hk
    have hkl := (List.getElem?_eq_some_iff.1 hz).1
    obtain ⟨l, o, _, ho, _, hO, hF⟩ := hD k zs.length (by rw [List.getElem?_map, hz]; rfl)
    obtain ⟨g, c, hf, _, _⟩ := h.row.form (by omega)
    rw [hv] at hf
    injection hf with e1 e2 e3
    subst e1; subst e3
    have hr := h.row
    rw [hv] at hr
    exact ⟨_, o, rfl, by rw [hr.cellAt k (by omega), ho], hO, fun _ b hb => (hF b hb).imp_right .inr⟩
  · obtain ⟨ao, co, hv⟩ := row_shape h.ri
    refine ⟨⟨ao, co, by rw [List.length_map, hv, hal], fun k n hk => ?_⟩, fun b hb => .inr (.inl hb)⟩
    obtain ⟨l, o, hl, _, hL, _⟩ := hD k n hk
    rw [List.getElem?_map] at hk
    obtain ⟨zs, hz, rfl⟩ := Option.map_eq_some_iff.1 hk
    have hkl := (List.getElem?_eq_some_iff.1 hz).1
    obtain ⟨g, c, hf, _, _⟩ := h.ri.form (by omega)
    rw [hv] at hf
    injection hf with e1 e2 e3
    subst e1; subst e3
    have hr := h.ri
    rw [hv] at hr
    exact ⟨_, l, rfl, by rw [hr.cellAt k (by omega), hl], hL, fun _ b hb => .inl ⟨l, List.mem_of_getElem? hl, hb⟩⟩
/-- The blocks of lists of another element type, and of rows of another type, are none of these. -/
theorem Bp.far_of {w : World} {bk : Nat} {vi : Value} {ls : List Value} {zss : List (List El)} (h : Bp w bk vi ls zss) {B : Nat} {e : TypeId} {sz : Nat} {v : Value} {n : Nat} {xs : List Value} (ho : w.ownsRow B e sz v n xs) (hne : e ≠ 65) {b : Nat} (hb : v.ownBlock = some b) : ¬ LsF ls b := fun ⟨l, hl, hlb⟩ => by
  obtain ⟨k, hk, rfl⟩ := List.getElem_of_mem hl
  have hz : zss[k]? = some (zss[k]'(by rw [← h.ll]; exact hk)) := List.getElem?_eq_getElem _
  exact own_ne ho (h.li k _ _ (List.getElem?_eq_getElem hk) hz) hne b hb hlb
theorem Bp.far_bk {w : World} {bk : Nat} {vi : Value} {ls : List Value} {zss : List (List El)} (h : Bp w bk vi ls zss) : ¬ LsF ls bk := fun ⟨l, hl, hlb⟩ => h.ap.b l hl hlb
theorem Bp.typed {w : World} {bk : Nat} {vi : Value} {ls : List Value} {zss : List (List El)} (h : Bp w bk vi ls zss) {b : Nat} (hb : LsF ls b) : ∃ B n xs v, w.ownsRow B 65 3 v n xs ∧ v.ownBlock = some b := by
  obtain ⟨l, hl, hlb⟩ := hb
  obtain ⟨k, hk, rfl⟩ := List.getElem_of_mem hl
  have hz : zss[k]? = some (zss[k]'(by rw [← h.ll]; exact hk)) := List.getElem?_eq_getElem _
  exact ⟨_, _, _, _, h.li k _ _ (List.getElem?_eq_getElem hk) hz, hlb⟩
end Go.Proofs.YtihdpncjgmpboaaGreatDoor.BEdges
/- Contract of the book's Apart, where it has lists of these kinds alone: Ints, Steps, Edges. (Written by mkap.py.) -/
namespace Go.Proofs.YtihdpncjgmpboaaGreatDoor.ApISE
open Go.RowKit Go.Maps
attribute [local go_sem ↓] Go.wp_at_zero Go.wp_at_succ
/-- Of the other kinds the book has none. -/
structure Oth (w : World) (bk : Nat) : Prop where
  dTokens : w.cell? ⟨bk, 2, none⟩ = some (.slice none 0 0)
  dTexts : w.cell? ⟨bk, 4, none⟩ = some (.slice none 0 0)
  dBools : w.cell? ⟨bk, 6, none⟩ = some (.slice none 0 0)
  dNodes : w.cell? ⟨bk, 12, none⟩ = some (.slice none 0 0)
  dPairs : w.cell? ⟨bk, 14, none⟩ = some (.slice none 0 0)
  dRows : w.cell? ⟨bk, 16, none⟩ = some (.slice none 0 0)
  dLines : w.cell? ⟨bk, 18, none⟩ = some (.slice none 0 0)
  dWalks : w.cell? ⟨bk, 20, none⟩ = some (.slice none 0 0)
theorem Oth.block {w w' : World} {bk : Nat} (h : Oth w bk) (hb : w'.heap[bk]? = w.heap[bk]?) : Oth w' bk :=
  ⟨(World.cell?_of_block (a := ⟨bk, 2, none⟩) hb).trans h.dTokens, (World.cell?_of_block (a := ⟨bk, 4, none⟩) hb).trans h.dTexts, (World.cell?_of_block (a := ⟨bk, 6, none⟩) hb).trans h.dBools, (World.cell?_of_block (a := ⟨bk, 12, none⟩) hb).trans h.dNodes, (World.cell?_of_block (a := ⟨bk, 14, none⟩) hb).trans h.dPairs, (World.cell?_of_block (a := ⟨bk, 16, none⟩) hb).trans h.dRows, (World.cell?_of_block (a := ⟨bk, 18, none⟩) hb).trans h.dLines, (World.cell?_of_block (a := ⟨bk, 20, none⟩) hb).trans h.dWalks⟩
theorem Oth.lt {w : World} {bk : Nat} (h : Oth w bk) : bk < w.heap.size := World.block_lt_of_cell? w _ h.dTokens
theorem Oth.below {w w' : World} {bk : Nat} (h : Oth w bk) (hb : Below w.heap.size w w') : Oth w' bk := h.block (hb.block bk h.lt)
theorem Oth.kept {F : Nat → Prop} {w w' : World} {bk : Nat} (h : Oth w bk) (hk : Kept F w w') (hF : ¬ F bk) : Oth w' bk := h.block (hk.block bk h.lt hF)
/-- Lists of unlike kinds lie apart. -/
structure Dis (w : World) (bk : Nat) (viInts : Value) (lsInts : List Value) (viSteps : Value) (lsSteps : List Value) (viEdges : Value) (lsEdges : List Value) : Prop where
  ltInts : ∀ b, LsF lsInts b → b < w.heap.size
  bkInts : ¬ LsF lsInts bk
  ltSteps : ∀ b, LsF lsSteps b → b < w.heap.size
  bkSteps : ¬ LsF lsSteps bk
  ltEdges : ∀ b, LsF lsEdges b → b < w.heap.size
  bkEdges : ¬ LsF lsEdges bk
  rIntsSteps : ∀ b, viSteps.ownBlock = some b → ¬ LsF lsInts b
  lIntsSteps : ∀ b, LsF lsSteps b → ¬ LsF lsInts b
  rIntsEdges : ∀ b, viEdges.ownBlock = some b → ¬ LsF lsInts b
  lIntsEdges : ∀ b, LsF lsEdges b → ¬ LsF lsInts b
  rStepsInts : ∀ b, viInts.ownBlock = some b → ¬ LsF lsSteps b
  lStepsInts : ∀ b, LsF lsInts b → ¬ LsF lsSteps b
  rStepsEdges : ∀ b, viEdges.ownBlock = some b → ¬ LsF lsSteps b
  lStepsEdges : ∀ b, LsF lsEdges b → ¬ LsF lsSteps b
  rEdgesInts : ∀ b, viInts.ownBlock = some b → ¬ LsF lsEdges b
  lEdgesInts : ∀ b, LsF lsInts b → ¬ LsF lsEdges b
  rEdgesSteps : ∀ b, viSteps.ownBlock = some b → ¬ LsF lsEdges b
  lEdgesSteps : ∀ b, LsF lsSteps b → ¬ LsF lsEdges b
theorem dis_of {w : World} {bk : Nat} {viInts vwInts : Value} {lsInts wsInts : List Value} {zssInts : List (List Int)} {viSteps vwSteps : Value} {lsSteps wsSteps : List Value} {zssSteps : List (List BSteps.El)} {viEdges vwEdges : Value} {lsEdges wsEdges : List Value} {zssEdges : List (List BEdges.El)} (hInts : Bs w bk viInts vwInts lsInts wsInts zssInts) (hSteps : BSteps.Bs w bk viSteps vwSteps lsSteps wsSteps zssSteps) (hEdges : BEdges.Bs w bk viEdges vwEdges lsEdges wsEdges zssEdges) : Dis w bk viInts lsInts viSteps lsSteps viEdges lsEdges :=
  ⟨fun _ hb => BInts.Bp.lsf_lt hInts.p hb, BInts.Bp.far_bk hInts.p, fun _ hb => BSteps.Bp.lsf_lt hSteps.p hb, BSteps.Bp.far_bk hSteps.p, fun _ hb => BEdges.Bp.lsf_lt hEdges.p hb, BEdges.Bp.far_bk hEdges.p, fun _ hb => BInts.Bp.far_of hInts.p hSteps.p.ri (by decide) hb, fun _ hb => by obtain ⟨_, _, _, _, ho, hob⟩ := BSteps.Bp.typed hSteps.p hb; exact BInts.Bp.far_of hInts.p ho (by decide) hob, fun _ hb => BInts.Bp.far_of hInts.p hEdges.p.ri (by decide) hb, fun _ hb => by obtain ⟨_, _, _, _, ho, hob⟩ := BEdges.Bp.typed hEdges.p hb; exact BInts.Bp.far_of hInts.p ho (by decide) hob, fun _ hb => BSteps.Bp.far_of hSteps.p hInts.p.ri (by decide) hb, fun _ hb => by obtain ⟨_, _, _, _, ho, hob⟩ := BInts.Bp.typed hInts.p hb; exact BSteps.Bp.far_of hSteps.p ho (by decide) hob, fun _ hb => BSteps.Bp.far_of hSteps.p hEdges.p.ri (by decide) hb, fun _ hb => by obtain ⟨_, _, _, _, ho, hob⟩ := BEdges.Bp.typed hEdges.p hb; exact BSteps.Bp.far_of hSteps.p ho (by decide) hob, fun _ hb => BEdges.Bp.far_of hEdges.p hInts.p.ri (by decide) hb, fun _ hb => by obtain ⟨_, _, _, _, ho, hob⟩ := BInts.Bp.typed hInts.p hb; exact BEdges.Bp.far_of hEdges.p ho (by decide) hob, fun _ hb => BEdges.Bp.far_of hEdges.p hSteps.p.ri (by decide) hb, fun _ hb => by obtain ⟨_, _, _, _, ho, hob⟩ := BSteps.Bp.typed hSteps.p hb; exact BEdges.Bp.far_of hEdges.p ho (by decide) hob⟩
set_option maxRecDepth 100000 in
set_option maxHeartbeats 16000000 in
theorem apart_any (bk : Nat) (viInts vwInts : Value) (lsInts wsInts : List Value) (zssInts : List (List Int)) (viSteps vwSteps : Value) (lsSteps wsSteps : List Value) (zssSteps : List (List BSteps.El)) (viEdges vwEdges : Value) (lsEdges wsEdges : List Value) (zssEdges : List (List BEdges.El)) (w : World) (hInts : Bs w bk viInts vwInts lsInts wsInts zssInts) (hSteps : BSteps.Bs w bk viSteps vwSteps lsSteps wsSteps zssSteps) (hEdges : BEdges.Bs w bk viEdges vwEdges lsEdges wsEdges zssEdges) (ho : Oth w bk) :
    Calls Tryz.prog 18 #[.pointer (some ⟨bk, 0, none⟩)] w fun r w' => r = .returned (.bool true) ∧ Kept (fun b => LsF lsInts b ∨ LsF lsSteps b ∨ LsF lsEdges b) w w' := by
  have HD : Hid _ := And.intro (dis_of hInts hSteps hEdges) (And.intro (And.intro hInts.p.len hInts.p.sz) (And.intro (And.intro hSteps.p.len hSteps.p.sz) (And.intro hEdges.p.len hEdges.p.sz)))
  have S0 : Hid _ := And.intro (hInts) (And.intro (hSteps) (And.intro (hEdges) (And.intro (ho) (Kept.refl (fun b => LsF lsInts b ∨ LsF lsSteps b ∨ LsF lsEdges b) w))))
  clear hInts hSteps hEdges ho
  go_enter Tryz.func18, Tryz.ntmps18
  go_wp2_with (first
    | (go_at_call 38; refine (still_any bk viInts vwInts lsInts wsInts zssInts _ (S0.out.1)).mono ?_; rintro r1 ws1 ⟨rfl, hb⟩; have S1 : Hid _ := And.intro ((S0.out.1).below hb) (And.intro ((S0.out.2.1).below hb) (And.intro ((S0.out.2.2.1).below hb) (And.intro ((S0.out.2.2.2.1).below hb) ((S0.out.2.2.2.2).trans (Kept.of_below hb))))); clear hb S0)
    | (go_at_call 39; refine (stillTokens_nil bk _ (S1.out.2.2.2.1).dTokens).mono ?_; rintro r9 w9 ⟨rfl, hw⟩; obtain rfl := hw.symm; clear hw)
    | (go_at_call 40; refine (stillTexts_nil bk _ (S1.out.2.2.2.1).dTexts).mono ?_; rintro r9 w9 ⟨rfl, hw⟩; obtain rfl := hw.symm; clear hw)
    | (go_at_call 41; refine (stillBools_nil bk _ (S1.out.2.2.2.1).dBools).mono ?_; rintro r9 w9 ⟨rfl, hw⟩; obtain rfl := hw.symm; clear hw)
    | (go_at_call 42; refine (BSteps.still_any bk viSteps vwSteps lsSteps wsSteps zssSteps _ (S1.out.2.1)).mono ?_; rintro r1 ws2 ⟨rfl, hb⟩; have S2 : Hid _ := And.intro ((S1.out.1).below hb) (And.intro ((S1.out.2.1).below hb) (And.intro ((S1.out.2.2.1).below hb) (And.intro ((S1.out.2.2.2.1).below hb) ((S1.out.2.2.2.2).trans (Kept.of_below hb))))); clear hb S1)
    | (go_at_call 43; refine (BEdges.still_any bk viEdges vwEdges lsEdges wsEdges zssEdges _ (S2.out.2.2.1)).mono ?_; rintro r1 ws3 ⟨rfl, hb⟩; have S3 : Hid _ := And.intro ((S2.out.1).below hb) (And.intro ((S2.out.2.1).below hb) (And.intro ((S2.out.2.2.1).below hb) (And.intro ((S2.out.2.2.2.1).below hb) ((S2.out.2.2.2.2).trans (Kept.of_below hb))))); clear hb S2)
    | (go_at_call 44; refine (stillNodes_nil bk _ (S3.out.2.2.2.1).dNodes).mono ?_; rintro r9 w9 ⟨rfl, hw⟩; obtain rfl := hw.symm; clear hw)
    | (go_at_call 45; refine (stillPairs_nil bk _ (S3.out.2.2.2.1).dPairs).mono ?_; rintro r9 w9 ⟨rfl, hw⟩; obtain rfl := hw.symm; clear hw)
    | (go_at_call 46; refine (stillRows_nil bk _ (S3.out.2.2.2.1).dRows).mono ?_; rintro r9 w9 ⟨rfl, hw⟩; obtain rfl := hw.symm; clear hw)
    | (go_at_call 47; refine (stillLines_nil bk _ (S3.out.2.2.2.1).dLines).mono ?_; rintro r9 w9 ⟨rfl, hw⟩; obtain rfl := hw.symm; clear hw)
    | (go_at_call 48; refine (stillWalks_nil bk _ (S3.out.2.2.2.1).dWalks).mono ?_; rintro r9 w9 ⟨rfl, hw⟩; obtain rfl := hw.symm; clear hw)
    | (go_at_call 49; refine (putI_any bk viInts lsInts zssInts _ (S3.out.1.p)).mono ?_; rintro r2 wp1 ⟨rfl, hp, hk⟩; have P1 : Hid _ := And.intro (hp) (And.intro (BSteps.Bp.keep (S3.out.2.1.p) hk HD.out.1.bkInts HD.out.1.rIntsSteps HD.out.1.lIntsSteps) (And.intro (BEdges.Bp.keep (S3.out.2.2.1.p) hk HD.out.1.bkInts HD.out.1.rIntsEdges HD.out.1.lIntsEdges) (And.intro ((S3.out.2.2.2.1).kept hk HD.out.1.bkInts) ((S3.out.2.2.2.2).trans (hk.mono fun _ _ hb => (.inl hb)))))); clear hp hk S3)
    | (go_at_call 50; refine (putTokens_nil bk _ (P1.out.2.2.2.1).dTokens).mono ?_; rintro r9 w9 ⟨rfl, hw⟩; obtain rfl := hw.symm; clear hw)
    | (go_at_call 51; refine (putTexts_nil bk _ (P1.out.2.2.2.1).dTexts).mono ?_; rintro r9 w9 ⟨rfl, hw⟩; obtain rfl := hw.symm; clear hw)
    | (go_at_call 52; refine (putBools_nil bk _ (P1.out.2.2.2.1).dBools).mono ?_; rintro r9 w9 ⟨rfl, hw⟩; obtain rfl := hw.symm; clear hw)
    | (go_at_call 53; refine (BSteps.putI_any bk viSteps lsSteps zssSteps _ (P1.out.2.1)).mono ?_; rintro r2 wp2 ⟨rfl, hp, hk⟩; have P2 : Hid _ := And.intro (BInts.Bp.keep (P1.out.1) hk HD.out.1.bkSteps HD.out.1.rStepsInts HD.out.1.lStepsInts) (And.intro (hp) (And.intro (BEdges.Bp.keep (P1.out.2.2.1) hk HD.out.1.bkSteps HD.out.1.rStepsEdges HD.out.1.lStepsEdges) (And.intro ((P1.out.2.2.2.1).kept hk HD.out.1.bkSteps) ((P1.out.2.2.2.2).trans (hk.mono fun _ _ hb => (.inr (.inl hb))))))); clear hp hk P1)
    | (go_at_call 54; refine (BEdges.putI_any bk viEdges lsEdges zssEdges _ (P2.out.2.2.1)).mono ?_; rintro r2 wp3 ⟨rfl, hp, hk⟩; have P3 : Hid _ := And.intro (BInts.Bp.keep (P2.out.1) hk HD.out.1.bkEdges HD.out.1.rEdgesInts HD.out.1.lEdgesInts) (And.intro (BSteps.Bp.keep (P2.out.2.1) hk HD.out.1.bkEdges HD.out.1.rEdgesSteps HD.out.1.lEdgesSteps) (And.intro (hp) (And.intro ((P2.out.2.2.2.1).kept hk HD.out.1.bkEdges) ((P2.out.2.2.2.2).trans (hk.mono fun _ _ hb => (.inr (.inr (hb)))))))); clear hp hk P2)
    | (go_at_call 55; refine (putNodes_nil bk _ (P3.out.2.2.2.1).dNodes).mono ?_; rintro r9 w9 ⟨rfl, hw⟩; obtain rfl := hw.symm; clear hw)
    | (go_at_call 56; refine (putPairs_nil bk _ (P3.out.2.2.2.1).dPairs).mono ?_; rintro r9 w9 ⟨rfl, hw⟩; obtain rfl := hw.symm; clear hw)
    | (go_at_call 57; refine (putRows_nil bk _ (P3.out.2.2.2.1).dRows).mono ?_; rintro r9 w9 ⟨rfl, hw⟩; obtain rfl := hw.symm; clear hw)
    | (go_at_call 58; refine (putLines_nil bk _ (P3.out.2.2.2.1).dLines).mono ?_; rintro r9 w9 ⟨rfl, hw⟩; obtain rfl := hw.symm; clear hw)
    | (go_at_call 59; refine (putWalks_nil bk _ (P3.out.2.2.2.1).dWalks).mono ?_; rintro r9 w9 ⟨rfl, hw⟩; obtain rfl := hw.symm; clear hw)
    | (go_at_call 60; refine (growI_any bk viInts lsInts (allM zssInts) _ (P3.out.1)).mono ?_; rintro r3 wg1 ⟨voInts, osInts, rfl, hG⟩; have hM := And.intro (BInts.gr_marked hG) (And.intro hG.c0 (P3.out.2.2.2.2).size); have G1 : Hid _ := And.intro (hM) (And.intro (BSteps.Bp.keep (P3.out.2.1) hG.kp HD.out.1.bkInts HD.out.1.rIntsSteps HD.out.1.lIntsSteps) (And.intro (BEdges.Bp.keep (P3.out.2.2.1) hG.kp HD.out.1.bkInts HD.out.1.rIntsEdges HD.out.1.lIntsEdges) (And.intro ((P3.out.2.2.2.1).kept hG.kp HD.out.1.bkInts) ((P3.out.2.2.2.2).trans (hG.kp.mono fun _ _ hb => (.inl hb)))))); clear hM hG P3)
    | (go_at_call 61; refine (growTokens_nil bk _ (G1.out.2.2.2.1).dTokens).mono ?_; rintro r9 w9 ⟨rfl, hw⟩; obtain rfl := hw.symm; clear hw)
    | (go_at_call 62; refine (growTexts_nil bk _ (G1.out.2.2.2.1).dTexts).mono ?_; rintro r9 w9 ⟨rfl, hw⟩; obtain rfl := hw.symm; clear hw)
    | (go_at_call 63; refine (growBools_nil bk _ (G1.out.2.2.2.1).dBools).mono ?_; rintro r9 w9 ⟨rfl, hw⟩; obtain rfl := hw.symm; clear hw)
    | (go_at_call 64; refine (BSteps.growI_any bk viSteps lsSteps (BSteps.allM zssSteps) _ (G1.out.2.1)).mono ?_; rintro r3 wg2 ⟨voSteps, osSteps, rfl, hG⟩; have hM := And.intro (BSteps.gr_marked hG) (And.intro hG.c0 (G1.out.2.2.2.2).size); have G2 : Hid _ := And.intro (And.intro (And.intro ((G1.out.1).1.1.kept hG.kp (fun b hb hg => hb.elim (fun e => HD.out.1.lStepsInts b e hg) (fun e => e.elim (fun e => HD.out.1.rStepsInts b e hg) (fun e => by have := HD.out.1.ltSteps b hg; have := (G1.out.1).2.2; omega)))) ((G1.out.1).1.2.kept hG.kp (fun b hb hg => hb.elim (fun e => HD.out.1.lStepsInts b e hg) (fun e => e.elim (fun e => HD.out.1.rStepsInts b e hg) (fun e => by have := HD.out.1.ltSteps b hg; have := (G1.out.1).2.2; omega))))) (And.intro ((World.cell?_of_block (a := ⟨bk, 0, none⟩) (hG.kp.block bk (G1.out.2.2.2.1).lt HD.out.1.bkSteps)).trans (G1.out.1).2.1) (G1.out.1).2.2)) (And.intro (hM) (And.intro (BEdges.Bp.keep (G1.out.2.2.1) hG.kp HD.out.1.bkSteps HD.out.1.rStepsEdges HD.out.1.lStepsEdges) (And.intro ((G1.out.2.2.2.1).kept hG.kp HD.out.1.bkSteps) ((G1.out.2.2.2.2).trans (hG.kp.mono fun _ _ hb => (.inr (.inl hb))))))); clear hM hG G1)
    | (go_at_call 65; refine (BEdges.growI_any bk viEdges lsEdges (BEdges.allM zssEdges) _ (G2.out.2.2.1)).mono ?_; rintro r3 wg3 ⟨voEdges, osEdges, rfl, hG⟩; have hM := And.intro (BEdges.gr_marked hG) (And.intro hG.c0 (G2.out.2.2.2.2).size); have G3 : Hid _ := And.intro (And.intro (And.intro ((G2.out.1).1.1.kept hG.kp (fun b hb hg => hb.elim (fun e => HD.out.1.lEdgesInts b e hg) (fun e => e.elim (fun e => HD.out.1.rEdgesInts b e hg) (fun e => by have := HD.out.1.ltEdges b hg; have := (G2.out.1).2.2; omega)))) ((G2.out.1).1.2.kept hG.kp (fun b hb hg => hb.elim (fun e => HD.out.1.lEdgesInts b e hg) (fun e => e.elim (fun e => HD.out.1.rEdgesInts b e hg) (fun e => by have := HD.out.1.ltEdges b hg; have := (G2.out.1).2.2; omega))))) (And.intro ((World.cell?_of_block (a := ⟨bk, 0, none⟩) (hG.kp.block bk (G2.out.2.2.2.1).lt HD.out.1.bkEdges)).trans (G2.out.1).2.1) (G2.out.1).2.2)) (And.intro (And.intro (And.intro ((G2.out.2.1).1.1.kept hG.kp (fun b hb hg => hb.elim (fun e => HD.out.1.lEdgesSteps b e hg) (fun e => e.elim (fun e => HD.out.1.rEdgesSteps b e hg) (fun e => by have := HD.out.1.ltEdges b hg; have := (G2.out.2.1).2.2; omega)))) ((G2.out.2.1).1.2.kept hG.kp (fun b hb hg => hb.elim (fun e => HD.out.1.lEdgesSteps b e hg) (fun e => e.elim (fun e => HD.out.1.rEdgesSteps b e hg) (fun e => by have := HD.out.1.ltEdges b hg; have := (G2.out.2.1).2.2; omega))))) (And.intro ((World.cell?_of_block (a := ⟨bk, 8, none⟩) (hG.kp.block bk (G2.out.2.2.2.1).lt HD.out.1.bkEdges)).trans (G2.out.2.1).2.1) (G2.out.2.1).2.2)) (And.intro (hM) (And.intro ((G2.out.2.2.2.1).kept hG.kp HD.out.1.bkEdges) ((G2.out.2.2.2.2).trans (hG.kp.mono fun _ _ hb => (.inr (.inr (hb)))))))); clear hM hG G2)
    | (go_at_call 66; refine (growNodes_nil bk _ (G3.out.2.2.2.1).dNodes).mono ?_; rintro r9 w9 ⟨rfl, hw⟩; obtain rfl := hw.symm; clear hw)
    | (go_at_call 67; refine (growPairs_nil bk _ (G3.out.2.2.2.1).dPairs).mono ?_; rintro r9 w9 ⟨rfl, hw⟩; obtain rfl := hw.symm; clear hw)
    | (go_at_call 68; refine (growRows_nil bk _ (G3.out.2.2.2.1).dRows).mono ?_; rintro r9 w9 ⟨rfl, hw⟩; obtain rfl := hw.symm; clear hw)
    | (go_at_call 69; refine (growLines_nil bk _ (G3.out.2.2.2.1).dLines).mono ?_; rintro r9 w9 ⟨rfl, hw⟩; obtain rfl := hw.symm; clear hw)
    | (go_at_call 70; refine (growWalks_nil bk _ (G3.out.2.2.2.1).dWalks).mono ?_; rintro r9 w9 ⟨rfl, hw⟩; obtain rfl := hw.symm; clear hw)
    | fail)
  refine (markedI_any voInts (zssInts.map fun z => z.length + 96) _ (G3.out.1).1.1.mr (by rw [List.length_map]; exact HD.out.2.1.1) (fun n hn => by obtain ⟨z, hz, rfl⟩ := List.mem_map.1 hn; have := HD.out.2.1.2 z hz; omega)).mono ?_
  rintro r4 wm1 ⟨rfl, hb⟩
  have M1 : Hid _ := And.intro (And.intro (And.intro ((G3.out.1).1.1.below hb) ((G3.out.1).1.2.below hb)) (And.intro (cell_up (G3.out.1).2.1 hb) (G3.out.1).2.2)) (And.intro (And.intro (And.intro ((G3.out.2.1).1.1.below hb) ((G3.out.2.1).1.2.below hb)) (And.intro (cell_up (G3.out.2.1).2.1 hb) (G3.out.2.1).2.2)) (And.intro (And.intro (And.intro ((G3.out.2.2.1).1.1.below hb) ((G3.out.2.2.1).1.2.below hb)) (And.intro (cell_up (G3.out.2.2.1).2.1 hb) (G3.out.2.2.1).2.2)) (And.intro ((G3.out.2.2.2.1).below hb) ((G3.out.2.2.2.2).trans (Kept.of_below hb)))))
  clear hb G3
  have cInts := (M1.out.1).2.1
  go_wp2_with fail
  clear cInts
  refine (markedI_any viInts (zssInts.map List.length) _ (M1.out.1).1.2.mr (by rw [List.length_map]; exact HD.out.2.1.1) (fun n hn => by obtain ⟨z, hz, rfl⟩ := List.mem_map.1 hn; have := HD.out.2.1.2 z hz; omega)).mono ?_
  rintro r4 wm2 ⟨rfl, hb⟩
  have M2 : Hid _ := And.intro (And.intro (And.intro ((M1.out.1).1.1.below hb) ((M1.out.1).1.2.below hb)) (And.intro (cell_up (M1.out.1).2.1 hb) (M1.out.1).2.2)) (And.intro (And.intro (And.intro ((M1.out.2.1).1.1.below hb) ((M1.out.2.1).1.2.below hb)) (And.intro (cell_up (M1.out.2.1).2.1 hb) (M1.out.2.1).2.2)) (And.intro (And.intro (And.intro ((M1.out.2.2.1).1.1.below hb) ((M1.out.2.2.1).1.2.below hb)) (And.intro (cell_up (M1.out.2.2.1).2.1 hb) (M1.out.2.2.1).2.2)) (And.intro ((M1.out.2.2.2.1).below hb) ((M1.out.2.2.2.2).trans (Kept.of_below hb)))))
  clear hb M1
  obtain ⟨dTokens, dTexts, dBools, dNodes, dPairs, dRows, dLines, dWalks⟩ := M2.out.2.2.2.1
  go_wp2_with (first
    | (go_at_call 72; refine (markedTokens_nil _).mono ?_; rintro r9 w9 ⟨rfl, hw⟩; obtain rfl := hw.symm; clear hw)
    | (go_at_call 73; refine (markedTexts_nil _).mono ?_; rintro r9 w9 ⟨rfl, hw⟩; obtain rfl := hw.symm; clear hw)
    | (go_at_call 74; refine (markedBools_nil _).mono ?_; rintro r9 w9 ⟨rfl, hw⟩; obtain rfl := hw.symm; clear hw)
    | (go_at_call 77; refine (markedNodes_nil _).mono ?_; rintro r9 w9 ⟨rfl, hw⟩; obtain rfl := hw.symm; clear hw)
    | (go_at_call 78; refine (markedPairs_nil _).mono ?_; rintro r9 w9 ⟨rfl, hw⟩; obtain rfl := hw.symm; clear hw)
    | (go_at_call 79; refine (markedRows_nil _).mono ?_; rintro r9 w9 ⟨rfl, hw⟩; obtain rfl := hw.symm; clear hw)
    | (go_at_call 80; refine (markedLines_nil _).mono ?_; rintro r9 w9 ⟨rfl, hw⟩; obtain rfl := hw.symm; clear hw)
    | (go_at_call 81; refine (markedWalks_nil _).mono ?_; rintro r9 w9 ⟨rfl, hw⟩; obtain rfl := hw.symm; clear hw)
    | fail)
  clear dTokens dTexts dBools dNodes dPairs dRows dLines dWalks
  refine (BSteps.markedI_any voSteps (zssSteps.map fun z => z.length + 96) _ (M2.out.2.1).1.1.mr (by rw [List.length_map]; exact HD.out.2.2.1.1) (fun n hn => by obtain ⟨z, hz, rfl⟩ := List.mem_map.1 hn; have := HD.out.2.2.1.2 z hz; omega)).mono ?_
  rintro r4 wm3 ⟨rfl, hb⟩
  have M3 : Hid _ := And.intro (And.intro (And.intro ((M2.out.1).1.1.below hb) ((M2.out.1).1.2.below hb)) (And.intro (cell_up (M2.out.1).2.1 hb) (M2.out.1).2.2)) (And.intro (And.intro (And.intro ((M2.out.2.1).1.1.below hb) ((M2.out.2.1).1.2.below hb)) (And.intro (cell_up (M2.out.2.1).2.1 hb) (M2.out.2.1).2.2)) (And.intro (And.intro (And.intro ((M2.out.2.2.1).1.1.below hb) ((M2.out.2.2.1).1.2.below hb)) (And.intro (cell_up (M2.out.2.2.1).2.1 hb) (M2.out.2.2.1).2.2)) (And.intro ((M2.out.2.2.2.1).below hb) ((M2.out.2.2.2.2).trans (Kept.of_below hb)))))
  clear hb M2
  have cSteps := (M3.out.2.1).2.1
  go_wp2_with fail
  clear cSteps
  refine (BSteps.markedI_any viSteps (zssSteps.map List.length) _ (M3.out.2.1).1.2.mr (by rw [List.length_map]; exact HD.out.2.2.1.1) (fun n hn => by obtain ⟨z, hz, rfl⟩ := List.mem_map.1 hn; have := HD.out.2.2.1.2 z hz; omega)).mono ?_
  rintro r4 wm4 ⟨rfl, hb⟩
  have M4 : Hid _ := And.intro (And.intro (And.intro ((M3.out.1).1.1.below hb) ((M3.out.1).1.2.below hb)) (And.intro (cell_up (M3.out.1).2.1 hb) (M3.out.1).2.2)) (And.intro (And.intro (And.intro ((M3.out.2.1).1.1.below hb) ((M3.out.2.1).1.2.below hb)) (And.intro (cell_up (M3.out.2.1).2.1 hb) (M3.out.2.1).2.2)) (And.intro (And.intro (And.intro ((M3.out.2.2.1).1.1.below hb) ((M3.out.2.2.1).1.2.below hb)) (And.intro (cell_up (M3.out.2.2.1).2.1 hb) (M3.out.2.2.1).2.2)) (And.intro ((M3.out.2.2.2.1).below hb) ((M3.out.2.2.2.2).trans (Kept.of_below hb)))))
  clear hb M3
  obtain ⟨dTokens, dTexts, dBools, dNodes, dPairs, dRows, dLines, dWalks⟩ := M4.out.2.2.2.1
  go_wp2_with fail
  clear dTokens dTexts dBools dNodes dPairs dRows dLines dWalks
  refine (BEdges.markedI_any voEdges (zssEdges.map fun z => z.length + 96) _ (M4.out.2.2.1).1.1.mr (by rw [List.length_map]; exact HD.out.2.2.2.1) (fun n hn => by obtain ⟨z, hz, rfl⟩ := List.mem_map.1 hn; have := HD.out.2.2.2.2 z hz; omega)).mono ?_
  rintro r4 wm5 ⟨rfl, hb⟩
  have M5 : Hid _ := And.intro (And.intro (And.intro ((M4.out.1).1.1.below hb) ((M4.out.1).1.2.below hb)) (And.intro (cell_up (M4.out.1).2.1 hb) (M4.out.1).2.2)) (And.intro (And.intro (And.intro ((M4.out.2.1).1.1.below hb) ((M4.out.2.1).1.2.below hb)) (And.intro (cell_up (M4.out.2.1).2.1 hb) (M4.out.2.1).2.2)) (And.intro (And.intro (And.intro ((M4.out.2.2.1).1.1.below hb) ((M4.out.2.2.1).1.2.below hb)) (And.intro (cell_up (M4.out.2.2.1).2.1 hb) (M4.out.2.2.1).2.2)) (And.intro ((M4.out.2.2.2.1).below hb) ((M4.out.2.2.2.2).trans (Kept.of_below hb)))))
  clear hb M4
  have cEdges := (M5.out.2.2.1).2.1
  go_wp2_with fail
  clear cEdges
  refine (BEdges.markedI_any viEdges (zssEdges.map List.length) _ (M5.out.2.2.1).1.2.mr (by rw [List.length_map]; exact HD.out.2.2.2.1) (fun n hn => by obtain ⟨z, hz, rfl⟩ := List.mem_map.1 hn; have := HD.out.2.2.2.2 z hz; omega)).mono ?_
  rintro r4 wm6 ⟨rfl, hb⟩
  have M6 : Hid _ := And.intro (And.intro (And.intro ((M5.out.1).1.1.below hb) ((M5.out.1).1.2.below hb)) (And.intro (cell_up (M5.out.1).2.1 hb) (M5.out.1).2.2)) (And.intro (And.intro (And.intro ((M5.out.2.1).1.1.below hb) ((M5.out.2.1).1.2.below hb)) (And.intro (cell_up (M5.out.2.1).2.1 hb) (M5.out.2.1).2.2)) (And.intro (And.intro (And.intro ((M5.out.2.2.1).1.1.below hb) ((M5.out.2.2.1).1.2.below hb)) (And.intro (cell_up (M5.out.2.2.1).2.1 hb) (M5.out.2.2.1).2.2)) (And.intro ((M5.out.2.2.2.1).below hb) ((M5.out.2.2.2.2).trans (Kept.of_below hb)))))
  clear hb M5
  obtain ⟨dTokens, dTexts, dBools, dNodes, dPairs, dRows, dLines, dWalks⟩ := M6.out.2.2.2.1
  go_wp2_with (first
    | (go_at_call 72; refine (markedTokens_nil _).mono ?_; rintro r9 w9 ⟨rfl, hw⟩; obtain rfl := hw.symm; clear hw)
    | (go_at_call 73; refine (markedTexts_nil _).mono ?_; rintro r9 w9 ⟨rfl, hw⟩; obtain rfl := hw.symm; clear hw)
    | (go_at_call 74; refine (markedBools_nil _).mono ?_; rintro r9 w9 ⟨rfl, hw⟩; obtain rfl := hw.symm; clear hw)
    | (go_at_call 77; refine (markedNodes_nil _).mono ?_; rintro r9 w9 ⟨rfl, hw⟩; obtain rfl := hw.symm; clear hw)
    | (go_at_call 78; refine (markedPairs_nil _).mono ?_; rintro r9 w9 ⟨rfl, hw⟩; obtain rfl := hw.symm; clear hw)
    | (go_at_call 79; refine (markedRows_nil _).mono ?_; rintro r9 w9 ⟨rfl, hw⟩; obtain rfl := hw.symm; clear hw)
    | (go_at_call 80; refine (markedLines_nil _).mono ?_; rintro r9 w9 ⟨rfl, hw⟩; obtain rfl := hw.symm; clear hw)
    | (go_at_call 81; refine (markedWalks_nil _).mono ?_; rintro r9 w9 ⟨rfl, hw⟩; obtain rfl := hw.symm; clear hw)
    | fail)
  go_ret
  exact ⟨rfl, M6.out.2.2.2.2⟩
end Go.Proofs.YtihdpncjgmpboaaGreatDoor.ApISE
/- A book with lists of these kinds, made since a world: what stands while it takes lists: Ints, Steps, Edges. (Written by mkwb.py.) -/
namespace Go.Proofs.YtihdpncjgmpboaaGreatDoor.WISE
open Go.RowKit Go.Maps
attribute [local go_sem ↓] Go.wp_at_zero Go.wp_at_succ
def bookZ : Array Value := Array.replicate 22 (.slice none 0 0)
/-- The book. P: where its lists lie; X: blocks that no row of the kind within uses. -/
structure St (wB wr : World) (PInts PSteps PEdges : Nat → Prop) (vInts uInts : Value) (lInts mInts : List Value) (zInts : List (List Int)) (vSteps uSteps : Value) (lSteps mSteps : List Value) (zSteps : List (List BSteps.El)) (vEdges uEdges : Value) (lEdges mEdges : List Value) (zEdges : List (List BEdges.El)) : Prop where
  bInts : Bs wr wB.heap.size vInts uInts lInts mInts zInts
  bSteps : BSteps.Bs wr wB.heap.size vSteps uSteps lSteps mSteps zSteps
  bEdges : BEdges.Bs wr wB.heap.size vEdges uEdges lEdges mEdges zEdges
  ot : ApISE.Oth wr wB.heap.size
  bw : Below wB.heap.size wB wr
  rInts : ∀ b, (vInts.ownBlock = some b ∨ uInts.ownBlock = some b) → wB.heap.size ≤ b
  hInts : ∀ l ∈ lInts, ∀ b, l.ownBlock = some b → wB.heap.size ≤ b ∧ PInts b
  rSteps : ∀ b, (vSteps.ownBlock = some b ∨ uSteps.ownBlock = some b) → wB.heap.size ≤ b
  hSteps : ∀ l ∈ lSteps, ∀ b, l.ownBlock = some b → wB.heap.size ≤ b ∧ PSteps b
  rEdges : ∀ b, (vEdges.ownBlock = some b ∨ uEdges.ownBlock = some b) → wB.heap.size ≤ b
  hEdges : ∀ l ∈ lEdges, ∀ b, l.ownBlock = some b → wB.heap.size ≤ b ∧ PEdges b
def E (wB wr : World) (PInts PSteps PEdges : Nat → Prop) : Prop := ∃ vInts uInts lInts mInts zInts vSteps uSteps lSteps mSteps zSteps vEdges uEdges lEdges mEdges zEdges, St wB wr PInts PSteps PEdges vInts uInts lInts mInts zInts vSteps uSteps lSteps mSteps zSteps vEdges uEdges lEdges mEdges zEdges
theorem E.mono {wB wr : World} {PInts PSteps PEdges : Nat → Prop} {PInts' PSteps' PEdges' : Nat → Prop} (h : E wB wr PInts PSteps PEdges) (qInts : ∀ b, b < wr.heap.size → PInts b → PInts' b) (qSteps : ∀ b, b < wr.heap.size → PSteps b → PSteps' b) (qEdges : ∀ b, b < wr.heap.size → PEdges b → PEdges' b) : E wB wr PInts' PSteps' PEdges' := by
  obtain ⟨vInts, uInts, lInts, mInts, zInts, vSteps, uSteps, lSteps, mSteps, zSteps, vEdges, uEdges, lEdges, mEdges, zEdges, h⟩ := h
  exact ⟨vInts, uInts, lInts, mInts, zInts, vSteps, uSteps, lSteps, mSteps, zSteps, vEdges, uEdges, lEdges, mEdges, zEdges, h.bInts, h.bSteps, h.bEdges, h.ot, h.bw, h.rInts, fun l hl b hb => ⟨(h.hInts l hl b hb).1, qInts b (BInts.Bp.lsf_lt h.bInts.p ⟨l, hl, hb⟩) (h.hInts l hl b hb).2⟩, h.rSteps, fun l hl b hb => ⟨(h.hSteps l hl b hb).1, qSteps b (BSteps.Bp.lsf_lt h.bSteps.p ⟨l, hl, hb⟩) (h.hSteps l hl b hb).2⟩, h.rEdges, fun l hl b hb => ⟨(h.hEdges l hl b hb).1, qEdges b (BEdges.Bp.lsf_lt h.bEdges.p ⟨l, hl, hb⟩) (h.hEdges l hl b hb).2⟩⟩
theorem E.below {wB wr w' : World} {PInts PSteps PEdges : Nat → Prop} (h : E wB wr PInts PSteps PEdges) (hb : Below wr.heap.size wr w') : E wB w' PInts PSteps PEdges := by
  obtain ⟨vInts, uInts, lInts, mInts, zInts, vSteps, uSteps, lSteps, mSteps, zSteps, vEdges, uEdges, lEdges, mEdges, zEdges, h⟩ := h
  exact ⟨vInts, uInts, lInts, mInts, zInts, vSteps, uSteps, lSteps, mSteps, zSteps, vEdges, uEdges, lEdges, mEdges, zEdges, h.bInts.below hb, h.bSteps.below hb, h.bEdges.below hb, h.ot.below hb, h.bw.trans (hb.mono h.bw.size), h.rInts, h.hInts, h.rSteps, h.hSteps, h.rEdges, h.hEdges⟩
theorem E.bw {wB wr : World} {PInts PSteps PEdges : Nat → Prop} (h : E wB wr PInts PSteps PEdges) : Below wB.heap.size wB wr := by
  obtain ⟨vInts, uInts, lInts, mInts, zInts, vSteps, uSteps, lSteps, mSteps, zSteps, vEdges, uEdges, lEdges, mEdges, zEdges, h⟩ := h
  exact h.bw
theorem new (wB : World) : E wB (wB.alloc (.cells bookZ 44)) (fun _ => False) (fun _ => False) (fun _ => False) := by
  have h := (MapKept.heap_alloc wB (.cells bookZ 44)).1
  have hc : ∀ k, k < 22 → (wB.alloc (.cells bookZ 44)).cell? ⟨wB.heap.size, k, none⟩ = some (.slice none 0 0) := fun k hk => by
    have h2 : bookZ[k]? = some (.slice none 0 0) := by unfold bookZ; rw [Array.getElem?_replicate, if_pos hk]
    exact cell0_of h h2
  exact ⟨.slice none 0 0, .slice none 0 0, [], [], [], .slice none 0 0, .slice none 0 0, [], [], [], .slice none 0 0, .slice none 0 0, [], [], [], ⟨⟨hc _ (by omega), World.ownsRow_nil _ _ _ _, fun k l zs h1 => by simp at h1, ⟨fun l hl => by simp at hl, fun l hl => by simp at hl, by simp [Value.ownBlock], fun i j l m hl => by simp at hl⟩, by simp, fun zs h => by simp at h⟩, hc _ (by omega), World.ownsRow_nil _ _ _ _, fun k l zs h1 => by simp at h1, ⟨_, h, by unfold bookZ; simp⟩, fun k hk => by simp [Value.ownBlock] at hk⟩, ⟨⟨hc _ (by omega), World.ownsRow_nil _ _ _ _, fun k l zs h1 => by simp at h1, ⟨fun l hl => by simp at hl, fun l hl => by simp at hl, by simp [Value.ownBlock], fun i j l m hl => by simp at hl⟩, by simp, fun zs h => by simp at h⟩, hc _ (by omega), World.ownsRow_nil _ _ _ _, fun k l zs h1 => by simp at h1, ⟨_, h, by unfold bookZ; simp⟩, fun k hk => by simp [Value.ownBlock] at hk⟩, ⟨⟨hc _ (by omega), World.ownsRow_nil _ _ _ _, fun k l zs h1 => by simp at h1, ⟨fun l hl => by simp at hl, fun l hl => by simp at hl, by simp [Value.ownBlock], fun i j l m hl => by simp at hl⟩, by simp, fun zs h => by simp at h⟩, hc _ (by omega), World.ownsRow_nil _ _ _ _, fun k l zs h1 => by simp at h1, ⟨_, h, by unfold bookZ; simp⟩, fun k hk => by simp [Value.ownBlock] at hk⟩, ⟨hc _ (by omega), hc _ (by omega), hc _ (by omega), hc _ (by omega), hc _ (by omega), hc _ (by omega), hc _ (by omega), hc _ (by omega)⟩, (Below.refl _ _).alloc (Nat.le_refl _) _, fun b hb => by simp [Value.ownBlock] at hb, fun l hl => by simp at hl, fun b hb => by simp [Value.ownBlock] at hb, fun l hl => by simp at hl, fun b hb => by simp [Value.ownBlock] at hb, fun l hl => by simp at hl⟩
/-- Blocks of other types stand. -/
def Fr (w w' : World) : Prop := w.heap.size ≤ w'.heap.size ∧ ∀ (g : Nat) (cs : Array Value) (t : TypeId), w.heap[g]? = some (.cells cs t (0, 0)) → 44 ≠ t → 49 ≠ t → 46 ≠ t → 22 ≠ t → w'.heap[g]? = some (.cells cs t (0, 0))
theorem Fr.refl (w : World) : Fr w w := ⟨Nat.le_refl _, fun _ _ _ h _ _ _ _ => h⟩
theorem Fr.trans {a b c : World} (h : Fr a b) (k : Fr b c) : Fr a c := ⟨Nat.le_trans h.1 k.1, fun g cs t hg c0 c1 c2 c3 => k.2 g cs t (h.2 g cs t hg c0 c1 c2 c3) c0 c1 c2 c3⟩
theorem Fr.of_below {a b : World} (h : Below a.heap.size a b) : Fr a b := ⟨h.size, fun g _ _ hg _ _ _ _ => (h.block g (t_lt hg)).trans hg⟩
theorem Fr.own {w w' : World} (h : Fr w w') {B : Nat} {e : TypeId} {sz : Nat} {v : Value} {n : Nat} {xs : List Value} (ho : w.ownsRow B e sz v n xs) (hc : ∀ b, v.ownBlock = some b → 44 ≠ e ∧ 49 ≠ e ∧ 46 ≠ e ∧ 22 ≠ e) : w'.ownsRow B e sz v n xs := trow_at ho fun i hi => by
  obtain ⟨c, hr⟩ := row_cells ho hi
  obtain ⟨c0, c1, c2, c3⟩ := hc i hi
  rw [hr]; exact h.2 i c _ hr c0 c1 c2 c3
theorem Fr.ownInts {w w' : World} (h : Fr w w') {B : Nat} {v : Value} {n : Nat} {xs : List Value} (ho : w.ownsRow B 3 1 v n xs) : w'.ownsRow B 3 1 v n xs := h.own ho fun _ _ => ⟨by decide, by decide, by decide, by decide⟩
theorem Fr.ownTokens {w w' : World} (h : Fr w w') {B : Nat} {v : Value} {n : Nat} {xs : List Value} (ho : w.ownsRow B 140 4 v n xs) : w'.ownsRow B 140 4 v n xs := h.own ho fun _ _ => ⟨by decide, by decide, by decide, by decide⟩
theorem Fr.ownTexts {w w' : World} (h : Fr w w') {B : Nat} {v : Value} {n : Nat} {xs : List Value} (ho : w.ownsRow B 9 1 v n xs) : w'.ownsRow B 9 1 v n xs := h.own ho fun _ _ => ⟨by decide, by decide, by decide, by decide⟩
theorem Fr.ownBools {w w' : World} (h : Fr w w') {B : Nat} {v : Value} {n : Nat} {xs : List Value} (ho : w.ownsRow B 4 1 v n xs) : w'.ownsRow B 4 1 v n xs := h.own ho fun _ _ => ⟨by decide, by decide, by decide, by decide⟩
theorem Fr.ownSteps {w w' : World} (h : Fr w w') {B : Nat} {v : Value} {n : Nat} {xs : List Value} (ho : w.ownsRow B 76 2 v n xs) : w'.ownsRow B 76 2 v n xs := h.own ho fun _ _ => ⟨by decide, by decide, by decide, by decide⟩
theorem Fr.ownEdges {w w' : World} (h : Fr w w') {B : Nat} {v : Value} {n : Nat} {xs : List Value} (ho : w.ownsRow B 65 3 v n xs) : w'.ownsRow B 65 3 v n xs := h.own ho fun _ _ => ⟨by decide, by decide, by decide, by decide⟩
theorem Fr.ownNodes {w w' : World} (h : Fr w w') {B : Nat} {v : Value} {n : Nat} {xs : List Value} (ho : w.ownsRow B 147 2 v n xs) : w'.ownsRow B 147 2 v n xs := h.own ho fun _ _ => ⟨by decide, by decide, by decide, by decide⟩
theorem Fr.ownPairs {w w' : World} (h : Fr w w') {B : Nat} {v : Value} {n : Nat} {xs : List Value} (ho : w.ownsRow B 150 2 v n xs) : w'.ownsRow B 150 2 v n xs := h.own ho fun _ _ => ⟨by decide, by decide, by decide, by decide⟩
theorem typed_bk {w : World} {bk g : Nat} {cs cs' : Array Value} {t u : TypeId} (h : w.heap[bk]? = some (.cells cs u (0, 0))) (hg : w.heap[g]? = some (.cells cs' t (0, 0))) (hne : u ≠ t) : g ≠ bk := fun e => by
  subst e
  rw [h] at hg
  injection hg with e
  injection e with _ e
  exact hne e
/-- One more list of Ints. -/
theorem E.addInts {wB wr : World} {PInts PSteps PEdges : Nat → Prop} (h : E wB wr PInts PSteps PEdges) (v : Value) (zs : List Int) (B : Nat) (hO : OwnI wr B v zs) (hB : wB.heap.size ≤ B) (hv : ∀ b, v.ownBlock = some b → ¬ PInts b) (hsz : zs.length ≤ 1000000) :
    Calls Tryz.prog 9 #[.pointer (some ⟨wB.heap.size, 0, none⟩), v] wr fun r w' => r = .returned (.tuple #[]) ∧ (E wB w' (fun b => PInts b ∨ v.ownBlock = some b) PSteps PEdges) ∧ Fr wr w' := by
  obtain ⟨vInts, uInts, lInts, mInts, zInts, vSteps, uSteps, lSteps, mSteps, zSteps, vEdges, uEdges, lEdges, mEdges, zEdges, h⟩ := h
  have hO0 : OwnI wr 0 v zs := row_base hO (Nat.zero_le _)
  by_cases hlen : zInts.length < 400
  · refine (ints_any wB.heap.size vInts uInts v lInts mInts zInts zs wr h.bInts hO0 (fun l hl q hq e => hv q e (h.hInts l hl q hq).2) hlen hsz).mono ?_
    rintro r w' ⟨rfl, vi', vw', v1, hN⟩
    have hup : ∀ b, (b = wB.heap.size ∨ vInts.ownBlock = some b ∨ uInts.ownBlock = some b) → wB.heap.size ≤ b := fun b hb => by
      rcases hb with rfl | hb
      · exact Nat.le_refl _
      · exact h.rInts b hb
    obtain ⟨cs0, hc0, _⟩ := h.bInts.bt
    have hFr : Fr wr w' := ⟨hN.k.size, fun g cs t hg c0 c1 _ _ => by
      refine (hN.k.block g (t_lt hg) fun hf => ?_).trans hg
      rcases hf with hf | hf | hf
      · exact typed_bk hc0 hg c0 hf
      · exact own_bk h.bInts.p.ri hg c1 hf
      · exact own_bk h.bInts.rw hg c1 hf⟩
    exact ⟨rfl, ⟨vi', vw', _, _, _, vSteps, uSteps, lSteps, mSteps, zSteps, vEdges, uEdges, lEdges, mEdges, zEdges, hN.b, h.bSteps.other hN.k (hN.o _ (by omega)) (hN.o _ (by omega)) hN.b.bt (fun b hb => by
        rcases hb with hb | hb | hb
        · exact .inl hb
        · exact .inr ⟨_, _, _, _, _, _, h.bInts.p.ri, hb, by decide, by decide⟩
        · exact .inr ⟨_, _, _, _, _, _, h.bInts.rw, hb, by decide, by decide⟩), h.bEdges.other hN.k (hN.o _ (by omega)) (hN.o _ (by omega)) hN.b.bt (fun b hb => by
        rcases hb with hb | hb | hb
        · exact .inl hb
        · exact .inr ⟨_, _, _, _, _, _, h.bInts.p.ri, hb, by decide, by decide⟩
        · exact .inr ⟨_, _, _, _, _, _, h.bInts.rw, hb, by decide, by decide⟩), ⟨(hN.o _ (by omega)).trans h.ot.dTokens, (hN.o _ (by omega)).trans h.ot.dTexts, (hN.o _ (by omega)).trans h.ot.dBools, (hN.o _ (by omega)).trans h.ot.dNodes, (hN.o _ (by omega)).trans h.ot.dPairs, (hN.o _ (by omega)).trans h.ot.dRows, (hN.o _ (by omega)).trans h.ot.dLines, (hN.o _ (by omega)).trans h.ot.dWalks⟩, h.bw.trans (hN.k.below h.bw.size hup), fun b hb => by
        rcases hN.f b hb with e | e
        · exact h.rInts b e
        · have := h.bw.size; omega, fun l hl b hb => by
        rcases List.mem_append.1 hl with hl | hl
        · exact ⟨(h.hInts l hl b hb).1, .inl (h.hInts l hl b hb).2⟩
        · rw [List.mem_singleton.1 hl] at hb
          have := hO.lt b hb
          exact ⟨by omega, .inr hb⟩, h.rSteps, h.hSteps, h.rEdges, h.hEdges⟩, hFr⟩
  · refine (ints_full wB.heap.size vInts uInts v lInts mInts zInts wr h.bInts hlen).mono ?_
    rintro r w' ⟨rfl, rfl⟩
    exact ⟨rfl, ⟨vInts, uInts, lInts, mInts, zInts, vSteps, uSteps, lSteps, mSteps, zSteps, vEdges, uEdges, lEdges, mEdges, zEdges, h.bInts, h.bSteps, h.bEdges, h.ot, h.bw, h.rInts, fun l hl b hb => ⟨(h.hInts l hl b hb).1, .inl (h.hInts l hl b hb).2⟩, h.rSteps, h.hSteps, h.rEdges, h.hEdges⟩, Fr.refl _⟩
/-- One more list of Steps. -/
theorem E.addSteps {wB wr : World} {PInts PSteps PEdges : Nat → Prop} (h : E wB wr PInts PSteps PEdges) (v : Value) (zs : List BSteps.El) (B : Nat) (hO : BSteps.Own wr B v zs) (hB : wB.heap.size ≤ B) (hv : ∀ b, v.ownBlock = some b → ¬ PSteps b) (hsz : zs.length ≤ 1000000) :
    Calls Tryz.prog 6 #[.pointer (some ⟨wB.heap.size, 0, none⟩), v] wr fun r w' => r = .returned (.tuple #[]) ∧ (E wB w' PInts (fun b => PSteps b ∨ v.ownBlock = some b) PEdges) ∧ Fr wr w' := by
  obtain ⟨vInts, uInts, lInts, mInts, zInts, vSteps, uSteps, lSteps, mSteps, zSteps, vEdges, uEdges, lEdges, mEdges, zEdges, h⟩ := h
  have hO0 : BSteps.Own wr 0 v zs := row_base hO (Nat.zero_le _)
  by_cases hlen : zSteps.length < 400
  · refine (BSteps.ints_any wB.heap.size vSteps uSteps v lSteps mSteps zSteps zs wr h.bSteps hO0 (fun l hl q hq e => hv q e (h.hSteps l hl q hq).2) hlen hsz).mono ?_
    rintro r w' ⟨rfl, vi', vw', v1, hN⟩
    have hup : ∀ b, (b = wB.heap.size ∨ vSteps.ownBlock = some b ∨ uSteps.ownBlock = some b) → wB.heap.size ≤ b := fun b hb => by
      rcases hb with rfl | hb
      · exact Nat.le_refl _
      · exact h.rSteps b hb
    obtain ⟨cs0, hc0, _⟩ := h.bSteps.bt
    have hFr : Fr wr w' := ⟨hN.k.size, fun g cs t hg c0 _ c2 _ => by
      refine (hN.k.block g (t_lt hg) fun hf => ?_).trans hg
      rcases hf with hf | hf | hf
      · exact typed_bk hc0 hg c0 hf
      · exact own_bk h.bSteps.p.ri hg c2 hf
      · exact own_bk h.bSteps.rw hg c2 hf⟩
    exact ⟨rfl, ⟨vInts, uInts, lInts, mInts, zInts, vi', vw', _, _, _, vEdges, uEdges, lEdges, mEdges, zEdges, h.bInts.other hN.k (hN.o _ (by omega) (by omega)) (hN.o _ (by omega) (by omega)) hN.b.bt (fun b hb => by
        rcases hb with hb | hb | hb
        · exact .inl hb
        · exact .inr ⟨_, _, _, _, _, _, h.bSteps.p.ri, hb, by decide, by decide⟩
        · exact .inr ⟨_, _, _, _, _, _, h.bSteps.rw, hb, by decide, by decide⟩), hN.b, h.bEdges.other hN.k (hN.o _ (by omega) (by omega)) (hN.o _ (by omega) (by omega)) hN.b.bt (fun b hb => by
        rcases hb with hb | hb | hb
        · exact .inl hb
        · exact .inr ⟨_, _, _, _, _, _, h.bSteps.p.ri, hb, by decide, by decide⟩
        · exact .inr ⟨_, _, _, _, _, _, h.bSteps.rw, hb, by decide, by decide⟩), ⟨(hN.o _ (by omega) (by omega)).trans h.ot.dTokens, (hN.o _ (by omega) (by omega)).trans h.ot.dTexts, (hN.o _ (by omega) (by omega)).trans h.ot.dBools, (hN.o _ (by omega) (by omega)).trans h.ot.dNodes, (hN.o _ (by omega) (by omega)).trans h.ot.dPairs, (hN.o _ (by omega) (by omega)).trans h.ot.dRows, (hN.o _ (by omega) (by omega)).trans h.ot.dLines, (hN.o _ (by omega) (by omega)).trans h.ot.dWalks⟩, h.bw.trans (hN.k.below h.bw.size hup), h.rInts, h.hInts, fun b hb => by
        rcases hN.f b hb with e | e
        · exact h.rSteps b e
        · have := h.bw.size; omega, fun l hl b hb => by
        rcases List.mem_append.1 hl with hl | hl
        · exact ⟨(h.hSteps l hl b hb).1, .inl (h.hSteps l hl b hb).2⟩
        · rw [List.mem_singleton.1 hl] at hb
          have := hO.lt b hb
          exact ⟨by omega, .inr hb⟩, h.rEdges, h.hEdges⟩, hFr⟩
  · refine (BSteps.ints_full wB.heap.size vSteps uSteps v lSteps mSteps zSteps wr h.bSteps hlen).mono ?_
    rintro r w' ⟨rfl, rfl⟩
    exact ⟨rfl, ⟨vInts, uInts, lInts, mInts, zInts, vSteps, uSteps, lSteps, mSteps, zSteps, vEdges, uEdges, lEdges, mEdges, zEdges, h.bInts, h.bSteps, h.bEdges, h.ot, h.bw, h.rInts, h.hInts, h.rSteps, fun l hl b hb => ⟨(h.hSteps l hl b hb).1, .inl (h.hSteps l hl b hb).2⟩, h.rEdges, h.hEdges⟩, Fr.refl _⟩
/-- One more list of Edges. -/
theorem E.addEdges {wB wr : World} {PInts PSteps PEdges : Nat → Prop} (h : E wB wr PInts PSteps PEdges) (v : Value) (zs : List BEdges.El) (B : Nat) (hO : BEdges.Own wr B v zs) (hB : wB.heap.size ≤ B) (hv : ∀ b, v.ownBlock = some b → ¬ PEdges b) (hsz : zs.length ≤ 1000000) :
    Calls Tryz.prog 12 #[.pointer (some ⟨wB.heap.size, 0, none⟩), v] wr fun r w' => r = .returned (.tuple #[]) ∧ (E wB w' PInts PSteps (fun b => PEdges b ∨ v.ownBlock = some b)) ∧ Fr wr w' := by
  obtain ⟨vInts, uInts, lInts, mInts, zInts, vSteps, uSteps, lSteps, mSteps, zSteps, vEdges, uEdges, lEdges, mEdges, zEdges, h⟩ := h
  have hO0 : BEdges.Own wr 0 v zs := row_base hO (Nat.zero_le _)
  by_cases hlen : zEdges.length < 400
  · refine (BEdges.ints_any wB.heap.size vEdges uEdges v lEdges mEdges zEdges zs wr h.bEdges hO0 (fun l hl q hq e => hv q e (h.hEdges l hl q hq).2) hlen hsz).mono ?_
    rintro r w' ⟨rfl, vi', vw', v1, hN⟩
    have hup : ∀ b, (b = wB.heap.size ∨ vEdges.ownBlock = some b ∨ uEdges.ownBlock = some b) → wB.heap.size ≤ b := fun b hb => by
      rcases hb with rfl | hb
      · exact Nat.le_refl _
      · exact h.rEdges b hb
    obtain ⟨cs0, hc0, _⟩ := h.bEdges.bt
    have hFr : Fr wr w' := ⟨hN.k.size, fun g cs t hg c0 _ _ c3 => by
      refine (hN.k.block g (t_lt hg) fun hf => ?_).trans hg
      rcases hf with hf | hf | hf
      · exact typed_bk hc0 hg c0 hf
      · exact own_bk h.bEdges.p.ri hg c3 hf
      · exact own_bk h.bEdges.rw hg c3 hf⟩
    exact ⟨rfl, ⟨vInts, uInts, lInts, mInts, zInts, vSteps, uSteps, lSteps, mSteps, zSteps, vi', vw', _, _, _, h.bInts.other hN.k (hN.o _ (by omega) (by omega)) (hN.o _ (by omega) (by omega)) hN.b.bt (fun b hb => by
        rcases hb with hb | hb | hb
        · exact .inl hb
        · exact .inr ⟨_, _, _, _, _, _, h.bEdges.p.ri, hb, by decide, by decide⟩
        · exact .inr ⟨_, _, _, _, _, _, h.bEdges.rw, hb, by decide, by decide⟩), h.bSteps.other hN.k (hN.o _ (by omega) (by omega)) (hN.o _ (by omega) (by omega)) hN.b.bt (fun b hb => by
        rcases hb with hb | hb | hb
        · exact .inl hb
        · exact .inr ⟨_, _, _, _, _, _, h.bEdges.p.ri, hb, by decide, by decide⟩
        · exact .inr ⟨_, _, _, _, _, _, h.bEdges.rw, hb, by decide, by decide⟩), hN.b, ⟨(hN.o _ (by omega) (by omega)).trans h.ot.dTokens, (hN.o _ (by omega) (by omega)).trans h.ot.dTexts, (hN.o _ (by omega) (by omega)).trans h.ot.dBools, (hN.o _ (by omega) (by omega)).trans h.ot.dNodes, (hN.o _ (by omega) (by omega)).trans h.ot.dPairs, (hN.o _ (by omega) (by omega)).trans h.ot.dRows, (hN.o _ (by omega) (by omega)).trans h.ot.dLines, (hN.o _ (by omega) (by omega)).trans h.ot.dWalks⟩, h.bw.trans (hN.k.below h.bw.size hup), h.rInts, h.hInts, h.rSteps, h.hSteps, fun b hb => by
        rcases hN.f b hb with e | e
        · exact h.rEdges b e
        · have := h.bw.size; omega, fun l hl b hb => by
        rcases List.mem_append.1 hl with hl | hl
        · exact ⟨(h.hEdges l hl b hb).1, .inl (h.hEdges l hl b hb).2⟩
        · rw [List.mem_singleton.1 hl] at hb
          have := hO.lt b hb
          exact ⟨by omega, .inr hb⟩⟩, hFr⟩
  · refine (BEdges.ints_full wB.heap.size vEdges uEdges v lEdges mEdges zEdges wr h.bEdges hlen).mono ?_
    rintro r w' ⟨rfl, rfl⟩
    exact ⟨rfl, ⟨vInts, uInts, lInts, mInts, zInts, vSteps, uSteps, lSteps, mSteps, zSteps, vEdges, uEdges, lEdges, mEdges, zEdges, h.bInts, h.bSteps, h.bEdges, h.ot, h.bw, h.rInts, h.hInts, h.rSteps, h.hSteps, h.rEdges, fun l hl b hb => ⟨(h.hEdges l hl b hb).1, .inl (h.hEdges l hl b hb).2⟩⟩, Fr.refl _⟩
/-- The book's Apart. -/
theorem E.apart {wB wr : World} {PInts PSteps PEdges : Nat → Prop} (h : E wB wr PInts PSteps PEdges) :
    Calls Tryz.prog 18 #[.pointer (some ⟨wB.heap.size, 0, none⟩)] wr fun r w' => r = .returned (.bool true) ∧ Below wB.heap.size wB w' := by
  obtain ⟨vInts, uInts, lInts, mInts, zInts, vSteps, uSteps, lSteps, mSteps, zSteps, vEdges, uEdges, lEdges, mEdges, zEdges, h⟩ := h
  refine (ApISE.apart_any wB.heap.size vInts uInts lInts mInts zInts vSteps uSteps lSteps mSteps zSteps vEdges uEdges lEdges mEdges zEdges wr h.bInts h.bSteps h.bEdges h.ot).mono ?_
  rintro r w' ⟨rfl, hk⟩
  exact ⟨rfl, h.bw.trans (hk.below h.bw.size fun b hb => hb.elim (fun ⟨l, hl, e⟩ => (h.hInts l hl b e).1) (fun hb => hb.elim (fun ⟨l, hl, e⟩ => (h.hSteps l hl b e).1) (fun hb => (fun ⟨l, hl, e⟩ => (h.hEdges l hl b e).1) hb)))⟩
end Go.Proofs.YtihdpncjgmpboaaGreatDoor.WISE
/- Plain facts on edges, their order and one form of their lists; on classes and their one form. Nothing of the program is in it. -/
namespace Go.Proofs.YtihdpncjgmpboaaGreatDoor.Sy
/-- An edge: where it comes from, its label, where it leads. -/
abbrev Ed : Type := Int × Int × Int
def lt (a b : Ed) : Bool := if a.1 != b.1 then decide (a.1 < b.1) else if a.2.1 != b.2.1 then decide (a.2.1 < b.2.1) else decide (a.2.2 < b.2.2)
theorem lt_iff (a b : Ed) : lt a b = true ↔ a.1 < b.1 ∨ a.1 = b.1 ∧ (a.2.1 < b.2.1 ∨ a.2.1 = b.2.1 ∧ a.2.2 < b.2.2) := by
  unfold lt
  by_cases h1 : a.1 = b.1
  · by_cases h2 : a.2.1 = b.2.1 <;> simp [h1, h2]
  · simp [h1]
theorem lt_irrefl (a : Ed) : lt a a = false := by
  cases h : lt a a with
  | false => rfl
  | true => rw [lt_iff] at h; omega
theorem lt_trans {a b c : Ed} (h1 : lt a b = true) (h2 : lt b c = true) : lt a c = true := by
  rw [lt_iff] at *; omega
theorem lt_asymm {a b : Ed} (h : lt a b = true) : lt b a = false := by
  cases h2 : lt b a with
  | false => rfl
  | true => rw [lt_iff] at h h2; omega
theorem eq_of_not {a b : Ed} (h1 : lt a b = false) (h2 : lt b a = false) : a = b := by
  have h3 : ¬ lt a b = true := by rw [h1]; simp
  have h4 : ¬ lt b a = true := by rw [h2]; simp
  rw [lt_iff] at h3 h4
  obtain ⟨x, y, z⟩ := a
  obtain ⟨u, v, w⟩ := b
  simp only at h3 h4
  have e1 : x = u := by omega
  have e2 : y = v := by omega
  have e3 : z = w := by omega
  rw [e1, e2, e3]
/-- Edges in order, each once. -/
def Str : List Ed → Prop
  | [] => True
  | [_] => True
  | a :: b :: r => lt a b = true ∧ Str (b :: r)
theorem Str.tail {a : Ed} {r : List Ed} (h : Str (a :: r)) : Str r := by
  cases r with
  | nil => trivial
  | cons b s => exact h.2
theorem Str.head {a : Ed} {r : List Ed} (h : Str (a :: r)) : ∀ x ∈ r, lt a x = true := by
  induction r generalizing a with
  | nil => intro x hx; simp at hx
  | cons b s ih =>
    intro x hx
    rcases List.mem_cons.1 hx with rfl | hx
    · exact h.1
    · exact lt_trans h.1 (ih h.2 x hx)
theorem Str.cons {a : Ed} {r : List Ed} (h : Str r) (h2 : ∀ x ∈ r, lt a x = true) : Str (a :: r) := by
  cases r with
  | nil => trivial
  | cons b s => exact ⟨h2 b List.mem_cons_self, h⟩
theorem Str.snoc {l : List Ed} {x : Ed} (h : Str l) (h2 : ∀ y ∈ l, lt y x = true) : Str (l ++ [x]) := by
  induction l with
  | nil => trivial
  | cons a r ih =>
    refine Str.cons (ih h.tail fun y hy => h2 y (List.mem_cons_of_mem _ hy)) fun y hy => ?_
    rcases List.mem_append.1 hy with hy | hy
    · exact h.head y hy
    · rw [List.mem_singleton.1 hy]; exact h2 a List.mem_cons_self
/-- Two such lists of the same edges are one. -/
theorem Str.unique {l m : List Ed} (hl : Str l) (hm : Str m) (h : ∀ x, x ∈ l ↔ x ∈ m) : l = m := by
  induction l generalizing m with
  | nil =>
    cases m with
    | nil => rfl
    | cons b s => exact absurd ((h b).2 List.mem_cons_self) (by simp)
  | cons a r ih =>
    cases m with
    | nil => exact absurd ((h a).1 List.mem_cons_self) (by simp)
    | cons b s =>
      have e : a = b := by
        rcases List.mem_cons.1 ((h a).1 List.mem_cons_self) with e | ha
        · exact e
        · rcases List.mem_cons.1 ((h b).2 List.mem_cons_self) with e | hb
          · exact e.symm
          · have h1 := hm.head a ha
            have h2 := hl.head b hb
            rw [lt_asymm h1] at h2
            cases h2
      subst e
      congr 1
      refine ih hl.tail hm.tail fun x => ⟨fun hx => ?_, fun hx => ?_⟩
      · rcases List.mem_cons.1 ((h x).1 (List.mem_cons_of_mem _ hx)) with e | hx2
        · subst e; have h1 := hl.head x hx; rw [lt_irrefl] at h1; cases h1
        · exact hx2
      · rcases List.mem_cons.1 ((h x).2 (List.mem_cons_of_mem _ hx)) with e | hx2
        · subst e; have h1 := hm.head x hx; rw [lt_irrefl] at h1; cases h1
        · exact hx2
/-- An edge goes to its place. -/
def ins (x : Ed) : List Ed → List Ed
  | [] => [x]
  | a :: r => if lt x a then x :: a :: r else if lt a x then a :: ins x r else a :: r
theorem ins_mem (x y : Ed) (l : List Ed) : y ∈ ins x l ↔ y = x ∨ y ∈ l := by
  induction l with
  | nil => simp [ins]
  | cons a r ih =>
    unfold ins
    cases h1 : lt x a with
    | true => simp
    | false =>
      cases h2 : lt a x with
      | true =>
        simp only [Bool.false_eq_true, if_false, if_true, List.mem_cons, ih]
        constructor
        · rintro (h | h | h) <;> simp [h]
        · rintro (h | h | h) <;> simp [h]
      | false =>
        have e := eq_of_not h1 h2
        subst e
        simp
theorem ins_str (x : Ed) (l : List Ed) (h : Str l) : Str (ins x l) := by
  induction l with
  | nil => trivial
  | cons a r ih =>
    unfold ins
    cases h1 : lt x a with
    | true => exact ⟨h1, h⟩
    | false =>
      cases h2 : lt a x with
      | true =>
        simp only [Bool.false_eq_true, if_false, if_true]
        refine Str.cons (ih h.tail) fun y hy => ?_
        rcases (ins_mem x y r).1 hy with rfl | hy
        · exact h2
        · exact h.head y hy
      | false => exact h
/-- The one form of a list of edges. -/
def nf : List Ed → List Ed
  | [] => []
  | a :: r => ins a (nf r)
theorem nf_mem (l : List Ed) (x : Ed) : x ∈ nf l ↔ x ∈ l := by
  induction l with
  | nil => simp [nf]
  | cons a r ih => simp [nf, ins_mem, ih]
theorem nf_str (l : List Ed) : Str (nf l) := by
  induction l with
  | nil => trivial
  | cons a r ih => exact ins_str a _ ih
theorem nf_of {l m : List Ed} (h : Str m) (hm : ∀ x, x ∈ m ↔ x ∈ l) : m = nf l := h.unique (nf_str l) fun x => (hm x).trans (nf_mem l x).symm
theorem nf_congr {l m : List Ed} (h : ∀ x, x ∈ l ↔ x ∈ m) : nf l = nf m := nf_of (nf_str l) fun x => (nf_mem l x).trans (h x)
theorem nf_idem (l : List Ed) : nf (nf l) = nf l := (nf_of (nf_str l) fun _ => Iff.rfl).symm
theorem ins_len (x : Ed) (l : List Ed) : (ins x l).length ≤ l.length + 1 := by
  induction l with
  | nil => simp [ins]
  | cons a r ih =>
    unfold ins
    cases h1 : lt x a <;> cases h2 : lt a x <;> simp <;> omega
theorem nf_len (l : List Ed) : (nf l).length ≤ l.length := by
  induction l with
  | nil => simp [nf]
  | cons a r ih => have := ins_len a (nf r); simp only [nf, List.length_cons]; omega
theorem str_len {m l : List Ed} (h : Str m) (hs : ∀ x ∈ m, x ∈ l) : m.length ≤ l.length := by
  have e : m = nf m := nf_of h fun _ => Iff.rfl
  induction m generalizing l with
  | nil => simp
  | cons a r ih =>
    have ha := hs a List.mem_cons_self
    have h1 : r.length ≤ (l.erase a).length := by
      refine ih h.tail (fun x hx => ?_) (nf_of h.tail fun _ => Iff.rfl)
      have h2 := h.head x hx
      have hne : x ≠ a := fun e => by rw [e, lt_irrefl] at h2; cases h2
      exact (List.mem_erase_of_ne hne).2 (hs x (List.mem_cons_of_mem _ hx))
    rw [List.length_erase_of_mem ha] at h1
    have := List.length_pos_of_mem ha
    simp only [List.length_cons]
    omega
/-- An edge goes behind others, unless the last one is the same. -/
def put (out : List Ed) (e : Ed) : List Ed := if out.getLast? = some e then out else out ++ [e]
theorem put_str {out : List Ed} {e : Ed} (h : Str out) (hle : ∀ x ∈ out, lt e x = false) : Str (put out e) := by
  unfold put
  split
  · exact h
  · rename_i hne
    refine h.snoc fun y hy => ?_
    have hys : ∀ (l : List Ed) (z : Ed), Str l → l.getLast? = some z → ∀ y ∈ l, y = z ∨ lt y z = true := fun l => by
      induction l with
      | nil => intro z _ hz; simp at hz
      | cons a r ih =>
        intro z hs hz y hy
        cases r with
        | nil => simp at hz hy; subst hz; exact .inl hy
        | cons b s =>
          rw [List.getLast?_cons_cons] at hz
          rcases List.mem_cons.1 hy with rfl | hy
          · have hzm := List.mem_of_getLast? hz
            exact .inr (hs.head z hzm)
          · exact ih z hs.tail hz y hy
    cases hl : out.getLast? with
    | none => rw [List.getLast?_eq_none_iff] at hl; subst hl; simp at hy
    | some z =>
      have hzm := List.mem_of_getLast? hl
      have hz1 : lt z e = true := by
        cases h1 : lt z e with
        | true => rfl
        | false => exact absurd (by rw [hl, eq_of_not h1 (hle z hzm)]) hne
      rcases hys out z h hl y hy with rfl | h2
      · exact hz1
      · exact lt_trans h2 hz1
theorem put_mem (out : List Ed) (e x : Ed) : x ∈ put out e ↔ x ∈ out ∨ x = e := by
  unfold put
  split
  · rename_i h
    have := List.mem_of_getLast? h
    constructor
    · exact .inl
    · rintro (h | rfl)
      · exact h
      · exact this
  · simp
/-- Two lists in order are being merged: out has what is behind. -/
structure Mg (a b : List Ed) (i k : Nat) (out : List Ed) : Prop where
  s : Str out
  m : ∀ x, x ∈ out ↔ x ∈ a.take i ∨ x ∈ b.take k
  ha : ∀ x ∈ out, ∀ y ∈ a.drop i, lt y x = false
  hb : ∀ x ∈ out, ∀ y ∈ b.drop k, lt y x = false
theorem Mg.start (a b : List Ed) : Mg a b 0 0 [] := ⟨trivial, fun x => by simp, fun x hx => by simp at hx, fun x hx => by simp at hx⟩
theorem Mg.swap {a b : List Ed} {i k : Nat} {out : List Ed} (h : Mg a b i k out) : Mg b a k i out := ⟨h.s, fun x => (h.m x).trans or_comm, h.hb, h.ha⟩
theorem Mg.left {a b : List Ed} {i k : Nat} {out : List Ed} (h : Mg a b i k out) (hsa : Str a) (hsb : Str b) {e : Ed} (he : a[i]? = some e) (hk : ∀ f, b[k]? = some f → lt f e = false) : Mg a b (i + 1) k (put out e) := by
  obtain ⟨hl, rfl⟩ := List.getElem?_eq_some_iff.1 he
  have hd : a.drop i = a[i] :: a.drop (i + 1) := List.drop_eq_getElem_cons hl
  have hstr : ∀ (l : List Ed) (n : Nat), Str l → Str (l.drop n) := fun l n hs => by
    induction n generalizing l with
    | zero => exact hs
    | succ n ih =>
      cases l with
      | nil => exact hs
      | cons c r => exact ih r hs.tail
  have h1 : Str (a[i] :: a.drop (i + 1)) := by rw [← hd]; exact hstr a i hsa
  have hbk : ∀ y ∈ b.drop k, lt y a[i] = false := fun y hy => by
    cases hb : b.drop k with
    | nil => rw [hb] at hy; simp at hy
    | cons f r =>
      have hkl : k < b.length := by
        rcases Nat.lt_or_ge k b.length with h2 | h2
        · exact h2
        · rw [List.drop_eq_nil_of_le h2] at hb; cases hb
      have hf : f = b[k] := by rw [List.drop_eq_getElem_cons hkl] at hb; exact (List.cons.inj hb).1.symm
      have h2 := hk f (by rw [hf]; exact List.getElem?_eq_getElem hkl)
      have h3 : Str (f :: r) := by rw [← hb]; exact hstr b k hsb
      rw [hb] at hy
      rcases List.mem_cons.1 hy with rfl | hy
      · exact h2
      · cases h4 : lt y a[i] with
        | false => rfl
        | true => have h5 := lt_trans (h3.head y hy) h4; rw [h2] at h5; cases h5
  have hout : ∀ x ∈ out, lt a[i] x = false := fun x hx => h.ha x hx _ (by rw [hd]; exact List.mem_cons_self)
  refine ⟨put_str h.s hout, fun x => ?_, fun x hx y hy => ?_, fun x hx y hy => ?_⟩
  · rw [put_mem, h.m, List.take_succ_eq_append_getElem hl]
    simp only [List.mem_append, List.mem_singleton]
    constructor
    · rintro ((h | h) | h) <;> simp [h]
    · rintro ((h | h) | h) <;> simp [h]
  · rcases (put_mem _ _ _).1 hx with hx | rfl
    · exact h.ha x hx y (by rw [hd]; exact List.mem_cons_of_mem _ hy)
    · exact lt_asymm (h1.head y hy)
  · rcases (put_mem _ _ _).1 hx with hx | rfl
    · exact h.hb x hx y hy
    · exact hbk y hy
/-- Is it a system? -/
def right (n k s : Int) (es : List Ed) : Bool :=
  decide (0 ≤ n ∧ n ≤ 1000 ∧ 1 ≤ k ∧ k ≤ 201 ∧ es.length ≤ 10000) && decide ((n = 0 → s = 0) ∧ (0 < n → 0 ≤ s ∧ s < n)) && es.all fun e => decide (0 ≤ e.1 ∧ e.1 < n ∧ 0 ≤ e.2.2 ∧ e.2.2 < n ∧ 0 ≤ e.2.1 ∧ e.2.1 < k)
/-- An edge turned round. -/
def turn (e : Ed) : Ed := (e.2.2, e.2.1, e.1)
/-- The place of a number in a list; the list's length, if it is not there. -/
def place (c : Int) : List Int → Nat
  | [] => 0
  | a :: r => if a = c then 0 else place c r + 1
theorem place_le (c : Int) (l : List Int) : place c l ≤ l.length := by
  induction l with
  | nil => simp [place]
  | cons a r ih => unfold place; split <;> simp <;> omega
/-- The one form of classes, behind those that were seen. -/
def canonG : List Int → List Int → List Nat
  | _, [] => []
  | seen, c :: r => place c seen :: canonG (if place c seen < seen.length then seen else seen ++ [c]) r
def canon (l : List Int) : List Nat := canonG [] l
def seenG : List Int → List Int → List Int
  | seen, [] => seen
  | seen, c :: r => seenG (if place c seen < seen.length then seen else seen ++ [c]) r
theorem canonG_len (l : List Int) : ∀ seen, (canonG seen l).length = l.length := by
  induction l with
  | nil => intro _; rfl
  | cons c r ih => intro seen; simp [canonG, ih]
theorem canonG_app (a b : List Int) : ∀ seen, canonG seen (a ++ b) = canonG seen a ++ canonG (seenG seen a) b := by
  induction a with
  | nil => intro _; rfl
  | cons c r ih => intro seen; simp only [List.cons_append, canonG, seenG]; rw [ih]
theorem seenG_app (a b : List Int) : ∀ seen, seenG seen (a ++ b) = seenG (seenG seen a) b := by
  induction a with
  | nil => intro _; rfl
  | cons c r ih => intro seen; simp only [List.cons_append, seenG]; rw [ih]
theorem seenG_len (l : List Int) : ∀ seen, (seenG seen l).length ≤ seen.length + l.length := by
  induction l with
  | nil => intro _; simp [seenG]
  | cons c r ih =>
    intro seen
    simp only [seenG]
    have h1 := ih (if place c seen < seen.length then seen else seen ++ [c])
    have h2 : (if place c seen < seen.length then seen else seen ++ [c]).length ≤ seen.length + 1 := by split <;> simp
    simp only [List.length_cons]
    omega
/-- How many classes there are. -/
def top : List Nat → Nat
  | [] => 0
  | k :: r => max (k + 1) (top r)
def together (l : List Int) : Nat := top (canon l)
/-- Are they in the one form? -/
def formG : Nat → List Int → Bool
  | _, [] => true
  | n, c :: r => decide (0 ≤ c ∧ c ≤ n) && formG (if c = (n : Int) then n + 1 else n) r
end Go.Proofs.YtihdpncjgmpboaaGreatDoor.Sy
/- The steps of a state: plain facts. -/
namespace Go.Proofs.YtihdpncjgmpboaaGreatDoor
/-- The steps of a state, in the edges' order. -/
def Sy.steps (es : List Sy.Ed) (i : Int) : List (Int × Int) := (es.filter fun e => e.1 == i).map fun e => (e.2.1, e.2.2)
theorem Sy.steps_snoc (es : List Sy.Ed) (e : Sy.Ed) (i : Int) : Sy.steps (es ++ [e]) i = if e.1 = i then Sy.steps es i ++ [(e.2.1, e.2.2)] else Sy.steps es i := by
  unfold Sy.steps
  rw [List.filter_append, List.map_append]
  by_cases h : e.1 = i <;> simp [h]
theorem Sy.steps_len (es : List Sy.Ed) (i : Int) : (Sy.steps es i).length ≤ es.length := by
  unfold Sy.steps
  rw [List.length_map]
  exact List.length_filter_le _ _
end Go.Proofs.YtihdpncjgmpboaaGreatDoor
