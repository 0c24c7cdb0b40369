/- Texts of this claim, joined: BXaPairs, BookApIP, LawAll0, LawAll. -/
import Derived.Test.YthnenpncajpibaaGreatDoorBXwPairs
import Derived.Test.YthnenpncajpibaaGreatDoorPart13
import Derived.Test.YthnenpncajpibaaGreatDoorPart11
import Derived.Test.YthnenpncajpibaaGreatDoorPart10
import Derived.Deep.DeepCutAuto
import Derived.Deep.RegionHeld3
/- The book's lists of Pairs: what stands while other kinds turn; the marked lists behind Apart's growing. (Written by mkbx.py out of BXa.tmpl.) -/
namespace Go.Proofs.YthnenpncajpibaaGreatDoor.BPairs
open Go.RowKit Go.Maps
theorem Bp.lsf_lt {w : World} {bk : Nat} {vi : Value} {ls : List Value} {zss : List (List El)} (h : Bp w bk vi ls zss) {b : Nat} (hb : LsF ls b) : b < w.heap.size := by
  obtain ⟨l, hl, hb⟩ := hb
  obtain ⟨k, hk, rfl⟩ := List.getElem_of_mem hl
  have hz : zss[k]? = some (zss[k]'(by rw [← h.ll]; exact hk)) := List.getElem?_eq_getElem _
  exact ((h.li k _ _ (List.getElem?_eq_getElem hk) hz).lt b hb).2
theorem Bp.keep {w w' : World} {F : Nat → Prop} {bk : Nat} {vi : Value} {ls : List Value} {zss : List (List El)} (h : Bp w bk vi ls zss) (hk : Kept F w w') (hb : ¬ F bk) (hr : ∀ b, vi.ownBlock = some b → ¬ F b) (hl : ∀ b, LsF ls b → ¬ F b) : Bp w' bk vi ls zss :=
  ⟨(World.cell?_of_block (a := ⟨bk, 14, none⟩) (hk.block bk (World.block_lt_of_cell? w _ h.c0) hb)).trans h.c0, trow_at h.ri fun i hi => hk.block i (h.ri.lt i hi).2 (hr i hi), fun k l zs h1 h2 => trow_at (h.li k l zs h1 h2) fun i hi => hk.block i ((h.li k l zs h1 h2).lt i hi).2 (hl i ⟨l, List.mem_of_getElem? h1, hi⟩), h.ap, h.len, h.sz⟩
/-- A row of lists, each with its marks, all in blocks of F. -/
structure Mq (w : World) (v : Value) (ns : List Nat) (F : Nat → Prop) : Prop where
  ex : ∃ ao cap, v = .slice ao ns.length cap ∧ ∀ (k n : Nat), ns[k]? = some n → ∃ g l, ao = some ⟨g, 0, none⟩ ∧ w.cell? ⟨g, k, none⟩ = some l ∧ Has w l (marks k 0 n) ∧ (n ≠ 0 → ∀ b, l.ownBlock = some b → F b)
  row : ∀ b, v.ownBlock = some b → F b
theorem Mq.mr {w : World} {v : Value} {ns : List Nat} {F : Nat → Prop} (h : Mq w v ns F) : Mr w v ns := by
  obtain ⟨ao, cap, hv, h1⟩ := h.ex
  refine ⟨ao, cap, hv, fun k n hk => ?_⟩
  obtain ⟨g, l, ha, hc, hl, _⟩ := h1 k n hk
  exact ⟨_, l, ha, by rw [addz]; exact hc, hl⟩
theorem Mq.kept {w w' : World} {v : Value} {ns : List Nat} {F G : Nat → Prop} (h : Mq w v ns F) (hk : Kept G w w') (hd : ∀ b, F b → ¬ G b) : Mq w' v ns F := by
  obtain ⟨ao, cap, hv, h1⟩ := h.ex
  refine ⟨⟨ao, cap, hv, fun k n hn => ?_⟩, h.row⟩
  obtain ⟨g, l, ha, hc, hl, hF⟩ := h1 k n hn
  refine ⟨g, l, ha, (World.cell?_of_block (a := ⟨g, k, none⟩) (hk.block g (World.block_lt_of_cell? w _ hc) (hd g (h.row g (by rw [hv, ha]; rfl))))).trans hc, hl.kept hk fun hz b hb => hd b (hF (fun e => hz (by rw [e]; rfl)) b hb), hF⟩
theorem Mq.below {w w' : World} {v : Value} {ns : List Nat} {F : Nat → Prop} (h : Mq w v ns F) (hb : Below w.heap.size w w') : Mq w' v ns F := h.kept (G := fun _ => False) (Kept.of_below hb) fun _ _ hg => hg
theorem marks_zero_add (k n m : Nat) : marks k 0 n ++ marks k n m = marks k 0 (n + m) := by have := marks_add k 0 n m; rwa [Nat.zero_add] at this
/-- Behind the growing: the grown lists and the lists have their marks. -/
theorem gr_marked {w wr : World} {bk : Nat} {vi : Value} {ls : List Value} {zss : List (List El)} {vo : Value} {os : List Value} (h : Gr w wr bk vi ls (allM zss) (allM zss).length vo os) : Mq wr vo (zss.map fun z => z.length + 96) (fun b => LsF ls b ∨ vi.ownBlock = some b ∨ w.heap.size ≤ b) ∧ Mq wr vi (zss.map List.length) (fun b => LsF ls b ∨ vi.ownBlock = some b ∨ w.heap.size ≤ b) := by
  have hal : (allM zss).length = zss.length := by unfold allM; rw [List.length_mapIdx]
  have hlo : os.length = zss.length := by have := h.row.1; rw [Nat.mul_one, hal] at this; exact this
  have hll : ls.length = zss.length := by have := h.ri.1; rw [Nat.mul_one, hal] at this; exact this
  have hD : ∀ (k n : Nat), (zss.map List.length)[k]? = some n → ∃ l o, ls[k]? = some l ∧ os[k]? = some o ∧ Has wr l (marks k 0 n) ∧ Has wr o (marks k 0 (n + 96)) ∧ ∀ b, o.ownBlock = some b → LsF ls b ∨ w.heap.size ≤ b := fun k n hk => by
    rw [List.getElem?_map] at hk
    obtain ⟨zs, hz, rfl⟩ := Option.map_eq_some_iff.1 hk
    have hkl := (List.getElem?_eq_some_iff.1 hz).1
    have hl : ls[k]? = some (ls[k]'(by omega)) := List.getElem?_eq_getElem _
    have ha : (allM zss)[k]? = some (marks k 0 zs.length) := by unfold allM; rw [List.getElem?_mapIdx, hz]; rfl
    obtain ⟨d1, o, d2, d3, d4, _⟩ := h.done k _ _ (by omega) hl ha
    rw [marks_len, marks_zero_add] at d3
    refine ⟨_, o, hl, d2, d1, d3, fun b hb => ?_⟩
    rcases d4 with e | e
    · exact .inl ⟨_, List.mem_of_getElem? hl, by rw [← e]; exact hb⟩
    · exact .inr (e b hb)
  constructor
  · obtain ⟨ao, co, hv⟩ := row_shape h.row
    refine ⟨⟨ao, co, by rw [List.length_map, hv, hal], fun k n hk => ?_⟩, fun b hb => .inr (.inr (h.row.lt b hb).1)⟩
    rw [List.getElem?_map] at hk
    obtain ⟨zs, hz, rfl⟩ := Option.map_eq_some_iff.1 hk
    have hkl := (List.getElem?_eq_some_iff.1 hz).1
    obtain ⟨l, o, _, ho, _, hO, hF⟩ := hD k zs.length (by rw [List.getElem?_map, hz]; rfl)
    obtain ⟨g, c, hf, _, _⟩ := h.row.form (by omega)
    rw [hv] at hf
    injection hf with e1 e2 e3
    subst e1; subst e3
    have hr := h.row
    rw [hv] at hr
    exact ⟨_, o, rfl, by rw [hr.cellAt k (by omega), ho], hO, fun _ b hb => (hF b hb).imp_right .inr⟩
  · obtain ⟨ao, co, hv⟩ := row_shape h.ri
    refine ⟨⟨ao, co, by rw [List.length_map, hv, hal], fun k n hk => ?_⟩, fun b hb => .inr (.inl hb)⟩
    obtain ⟨l, o, hl, _, hL, _⟩ := hD k n hk
    rw [List.getElem?_map] at hk
    obtain ⟨zs, hz, rfl⟩ := Option.map_eq_some_iff.1 hk
    have hkl := (List.getElem?_eq_some_iff.1 hz).1
    obtain ⟨g, c, hf, _, _⟩ := h.ri.form (by omega)
    rw [hv] at hf
    injection hf with e1 e2 e3
    subst e1; subst e3
    have hr := h.ri
    rw [hv] at hr
    exact ⟨_, l, rfl, by rw [hr.cellAt k (by omega), hl], hL, fun _ b hb => .inl ⟨l, List.mem_of_getElem? hl, hb⟩⟩
/-- The blocks of lists of another element type, and of rows of another type, are none of these. -/
theorem Bp.far_of {w : World} {bk : Nat} {vi : Value} {ls : List Value} {zss : List (List El)} (h : Bp w bk vi ls zss) {B : Nat} {e : TypeId} {sz : Nat} {v : Value} {n : Nat} {xs : List Value} (ho : w.ownsRow B e sz v n xs) (hne : e ≠ 75) {b : Nat} (hb : v.ownBlock = some b) : ¬ LsF ls b := fun ⟨l, hl, hlb⟩ => by
  obtain ⟨k, hk, rfl⟩ := List.getElem_of_mem hl
  have hz : zss[k]? = some (zss[k]'(by rw [← h.ll]; exact hk)) := List.getElem?_eq_getElem _
  exact own_ne ho (h.li k _ _ (List.getElem?_eq_getElem hk) hz) hne b hb hlb
theorem Bp.far_bk {w : World} {bk : Nat} {vi : Value} {ls : List Value} {zss : List (List El)} (h : Bp w bk vi ls zss) : ¬ LsF ls bk := fun ⟨l, hl, hlb⟩ => h.ap.b l hl hlb
theorem Bp.typed {w : World} {bk : Nat} {vi : Value} {ls : List Value} {zss : List (List El)} (h : Bp w bk vi ls zss) {b : Nat} (hb : LsF ls b) : ∃ B n xs v, w.ownsRow B 75 2 v n xs ∧ v.ownBlock = some b := by
  obtain ⟨l, hl, hlb⟩ := hb
  obtain ⟨k, hk, rfl⟩ := List.getElem_of_mem hl
  have hz : zss[k]? = some (zss[k]'(by rw [← h.ll]; exact hk)) := List.getElem?_eq_getElem _
  exact ⟨_, _, _, _, h.li k _ _ (List.getElem?_eq_getElem hk) hz, hlb⟩
end Go.Proofs.YthnenpncajpibaaGreatDoor.BPairs
/- Contract of the book's Apart, where it has lists of these kinds alone: Ints, Pairs. (Written by mkap.py.) -/
namespace Go.Proofs.YthnenpncajpibaaGreatDoor.ApIP
open Go.RowKit Go.Maps
attribute [local go_sem ↓] Go.wp_at_zero Go.wp_at_succ
/-- Of the other kinds the book has none. -/
structure Oth (w : World) (bk : Nat) : Prop where
  dTokens : w.cell? ⟨bk, 2, none⟩ = some (.slice none 0 0)
  dTexts : w.cell? ⟨bk, 4, none⟩ = some (.slice none 0 0)
  dBools : w.cell? ⟨bk, 6, none⟩ = some (.slice none 0 0)
  dSteps : w.cell? ⟨bk, 8, none⟩ = some (.slice none 0 0)
  dEdges : w.cell? ⟨bk, 10, none⟩ = some (.slice none 0 0)
  dNodes : w.cell? ⟨bk, 12, none⟩ = some (.slice none 0 0)
  dRows : w.cell? ⟨bk, 16, none⟩ = some (.slice none 0 0)
  dLines : w.cell? ⟨bk, 18, none⟩ = some (.slice none 0 0)
  dWalks : w.cell? ⟨bk, 20, none⟩ = some (.slice none 0 0)
theorem Oth.block {w w' : World} {bk : Nat} (h : Oth w bk) (hb : w'.heap[bk]? = w.heap[bk]?) : Oth w' bk :=
  ⟨(World.cell?_of_block (a := ⟨bk, 2, none⟩) hb).trans h.dTokens, (World.cell?_of_block (a := ⟨bk, 4, none⟩) hb).trans h.dTexts, (World.cell?_of_block (a := ⟨bk, 6, none⟩) hb).trans h.dBools, (World.cell?_of_block (a := ⟨bk, 8, none⟩) hb).trans h.dSteps, (World.cell?_of_block (a := ⟨bk, 10, none⟩) hb).trans h.dEdges, (World.cell?_of_block (a := ⟨bk, 12, none⟩) hb).trans h.dNodes, (World.cell?_of_block (a := ⟨bk, 16, none⟩) hb).trans h.dRows, (World.cell?_of_block (a := ⟨bk, 18, none⟩) hb).trans h.dLines, (World.cell?_of_block (a := ⟨bk, 20, none⟩) hb).trans h.dWalks⟩
theorem Oth.lt {w : World} {bk : Nat} (h : Oth w bk) : bk < w.heap.size := World.block_lt_of_cell? w _ h.dTokens
theorem Oth.below {w w' : World} {bk : Nat} (h : Oth w bk) (hb : Below w.heap.size w w') : Oth w' bk := h.block (hb.block bk h.lt)
theorem Oth.kept {F : Nat → Prop} {w w' : World} {bk : Nat} (h : Oth w bk) (hk : Kept F w w') (hF : ¬ F bk) : Oth w' bk := h.block (hk.block bk h.lt hF)
/-- Lists of unlike kinds lie apart. -/
structure Dis (w : World) (bk : Nat) (viInts : Value) (lsInts : List Value) (viPairs : Value) (lsPairs : List Value) : Prop where
  ltInts : ∀ b, LsF lsInts b → b < w.heap.size
  bkInts : ¬ LsF lsInts bk
  ltPairs : ∀ b, LsF lsPairs b → b < w.heap.size
  bkPairs : ¬ LsF lsPairs bk
  rIntsPairs : ∀ b, viPairs.ownBlock = some b → ¬ LsF lsInts b
  lIntsPairs : ∀ b, LsF lsPairs b → ¬ LsF lsInts b
  rPairsInts : ∀ b, viInts.ownBlock = some b → ¬ LsF lsPairs b
  lPairsInts : ∀ b, LsF lsInts b → ¬ LsF lsPairs b
theorem dis_of {w : World} {bk : Nat} {viInts vwInts : Value} {lsInts wsInts : List Value} {zssInts : List (List Int)} {viPairs vwPairs : Value} {lsPairs wsPairs : List Value} {zssPairs : List (List BPairs.El)} (hInts : Bs w bk viInts vwInts lsInts wsInts zssInts) (hPairs : BPairs.Bs w bk viPairs vwPairs lsPairs wsPairs zssPairs) : Dis w bk viInts lsInts viPairs lsPairs :=
  ⟨fun b hb => BInts.Bp.lsf_lt hInts.p hb, BInts.Bp.far_bk hInts.p, fun b hb => BPairs.Bp.lsf_lt hPairs.p hb, BPairs.Bp.far_bk hPairs.p, fun b hb => BInts.Bp.far_of hInts.p hPairs.p.ri (by decide) hb, fun b hb => by obtain ⟨_, _, _, _, ho, hob⟩ := BPairs.Bp.typed hPairs.p hb; exact BInts.Bp.far_of hInts.p ho (by decide) hob, fun b hb => BPairs.Bp.far_of hPairs.p hInts.p.ri (by decide) hb, fun b hb => by obtain ⟨_, _, _, _, ho, hob⟩ := BInts.Bp.typed hInts.p hb; exact BPairs.Bp.far_of hPairs.p ho (by decide) hob⟩
set_option maxRecDepth 100000 in
set_option maxHeartbeats 16000000 in
theorem apart_any (bk : Nat) (viInts vwInts : Value) (lsInts wsInts : List Value) (zssInts : List (List Int)) (viPairs vwPairs : Value) (lsPairs wsPairs : List Value) (zssPairs : List (List BPairs.El)) (w : World) (hInts : Bs w bk viInts vwInts lsInts wsInts zssInts) (hPairs : BPairs.Bs w bk viPairs vwPairs lsPairs wsPairs zssPairs) (ho : Oth w bk) :
    Calls Tryz.prog 16 #[.pointer (some ⟨bk, 0, none⟩)] w fun r w' => r = .returned (.bool true) ∧ Kept (fun b => LsF lsInts b ∨ LsF lsPairs b) w w' := by
  have HD : Hid _ := And.intro (dis_of hInts hPairs) (And.intro (And.intro hInts.p.len hInts.p.sz) (And.intro hPairs.p.len hPairs.p.sz))
  have S0 : Hid _ := And.intro (hInts) (And.intro (hPairs) (And.intro (ho) (Kept.refl (fun b => LsF lsInts b ∨ LsF lsPairs b) w)))
  clear hInts hPairs ho
  go_enter Tryz.func16, Tryz.ntmps16
  go_wp2_with (first
    | (go_at_call 34; refine (still_any bk viInts vwInts lsInts wsInts zssInts _ (S0.out.1)).mono ?_; rintro r1 ws1 ⟨rfl, hb⟩; have S1 : Hid _ := And.intro ((S0.out.1).below hb) (And.intro ((S0.out.2.1).below hb) (And.intro ((S0.out.2.2.1).below hb) ((S0.out.2.2.2).trans (Kept.of_below hb)))); clear hb S0)
    | (go_at_call 35; refine (stillTokens_nil bk _ (S1.out.2.2.1).dTokens).mono ?_; rintro r9 w9 ⟨rfl, hw⟩; obtain rfl := hw.symm; clear hw)
    | (go_at_call 36; refine (stillTexts_nil bk _ (S1.out.2.2.1).dTexts).mono ?_; rintro r9 w9 ⟨rfl, hw⟩; obtain rfl := hw.symm; clear hw)
    | (go_at_call 37; refine (stillBools_nil bk _ (S1.out.2.2.1).dBools).mono ?_; rintro r9 w9 ⟨rfl, hw⟩; obtain rfl := hw.symm; clear hw)
    | (go_at_call 38; refine (stillSteps_nil bk _ (S1.out.2.2.1).dSteps).mono ?_; rintro r9 w9 ⟨rfl, hw⟩; obtain rfl := hw.symm; clear hw)
    | (go_at_call 39; refine (stillEdges_nil bk _ (S1.out.2.2.1).dEdges).mono ?_; rintro r9 w9 ⟨rfl, hw⟩; obtain rfl := hw.symm; clear hw)
    | (go_at_call 40; refine (stillNodes_nil bk _ (S1.out.2.2.1).dNodes).mono ?_; rintro r9 w9 ⟨rfl, hw⟩; obtain rfl := hw.symm; clear hw)
    | (go_at_call 41; refine (BPairs.still_any bk viPairs vwPairs lsPairs wsPairs zssPairs _ (S1.out.2.1)).mono ?_; rintro r1 ws2 ⟨rfl, hb⟩; have S2 : Hid _ := And.intro ((S1.out.1).below hb) (And.intro ((S1.out.2.1).below hb) (And.intro ((S1.out.2.2.1).below hb) ((S1.out.2.2.2).trans (Kept.of_below hb)))); clear hb S1)
    | (go_at_call 42; refine (stillRows_nil bk _ (S2.out.2.2.1).dRows).mono ?_; rintro r9 w9 ⟨rfl, hw⟩; obtain rfl := hw.symm; clear hw)
    | (go_at_call 43; refine (stillLines_nil bk _ (S2.out.2.2.1).dLines).mono ?_; rintro r9 w9 ⟨rfl, hw⟩; obtain rfl := hw.symm; clear hw)
    | (go_at_call 44; refine (stillWalks_nil bk _ (S2.out.2.2.1).dWalks).mono ?_; rintro r9 w9 ⟨rfl, hw⟩; obtain rfl := hw.symm; clear hw)
    | (go_at_call 45; refine (putI_any bk viInts lsInts zssInts _ (S2.out.1.p)).mono ?_; rintro r2 wp1 ⟨rfl, hp, hk⟩; have P1 : Hid _ := And.intro (hp) (And.intro (BPairs.Bp.keep (S2.out.2.1.p) hk HD.out.1.bkInts HD.out.1.rIntsPairs HD.out.1.lIntsPairs) (And.intro ((S2.out.2.2.1).kept hk HD.out.1.bkInts) ((S2.out.2.2.2).trans (hk.mono fun b _ hb => (.inl hb))))); clear hp hk S2)
    | (go_at_call 46; refine (putTokens_nil bk _ (P1.out.2.2.1).dTokens).mono ?_; rintro r9 w9 ⟨rfl, hw⟩; obtain rfl := hw.symm; clear hw)
    | (go_at_call 47; refine (putTexts_nil bk _ (P1.out.2.2.1).dTexts).mono ?_; rintro r9 w9 ⟨rfl, hw⟩; obtain rfl := hw.symm; clear hw)
    | (go_at_call 48; refine (putBools_nil bk _ (P1.out.2.2.1).dBools).mono ?_; rintro r9 w9 ⟨rfl, hw⟩; obtain rfl := hw.symm; clear hw)
    | (go_at_call 49; refine (putSteps_nil bk _ (P1.out.2.2.1).dSteps).mono ?_; rintro r9 w9 ⟨rfl, hw⟩; obtain rfl := hw.symm; clear hw)
    | (go_at_call 50; refine (putEdges_nil bk _ (P1.out.2.2.1).dEdges).mono ?_; rintro r9 w9 ⟨rfl, hw⟩; obtain rfl := hw.symm; clear hw)
    | (go_at_call 51; refine (putNodes_nil bk _ (P1.out.2.2.1).dNodes).mono ?_; rintro r9 w9 ⟨rfl, hw⟩; obtain rfl := hw.symm; clear hw)
    | (go_at_call 52; refine (BPairs.putI_any bk viPairs lsPairs zssPairs _ (P1.out.2.1)).mono ?_; rintro r2 wp2 ⟨rfl, hp, hk⟩; have P2 : Hid _ := And.intro (BInts.Bp.keep (P1.out.1) hk HD.out.1.bkPairs HD.out.1.rPairsInts HD.out.1.lPairsInts) (And.intro (hp) (And.intro ((P1.out.2.2.1).kept hk HD.out.1.bkPairs) ((P1.out.2.2.2).trans (hk.mono fun b _ hb => (.inr (hb)))))); clear hp hk P1)
    | (go_at_call 53; refine (putRows_nil bk _ (P2.out.2.2.1).dRows).mono ?_; rintro r9 w9 ⟨rfl, hw⟩; obtain rfl := hw.symm; clear hw)
    | (go_at_call 54; refine (putLines_nil bk _ (P2.out.2.2.1).dLines).mono ?_; rintro r9 w9 ⟨rfl, hw⟩; obtain rfl := hw.symm; clear hw)
    | (go_at_call 55; refine (putWalks_nil bk _ (P2.out.2.2.1).dWalks).mono ?_; rintro r9 w9 ⟨rfl, hw⟩; obtain rfl := hw.symm; clear hw)
    | (go_at_call 56; refine (growI_any bk viInts lsInts (allM zssInts) _ (P2.out.1)).mono ?_; rintro r3 wg1 ⟨voInts, osInts, rfl, hG⟩; have hM := And.intro (BInts.gr_marked hG) (And.intro hG.c0 (P2.out.2.2.2).size); have G1 : Hid _ := And.intro (hM) (And.intro (BPairs.Bp.keep (P2.out.2.1) hG.kp HD.out.1.bkInts HD.out.1.rIntsPairs HD.out.1.lIntsPairs) (And.intro ((P2.out.2.2.1).kept hG.kp HD.out.1.bkInts) ((P2.out.2.2.2).trans (hG.kp.mono fun b _ hb => (.inl hb))))); clear hM hG P2)
    | (go_at_call 57; refine (growTokens_nil bk _ (G1.out.2.2.1).dTokens).mono ?_; rintro r9 w9 ⟨rfl, hw⟩; obtain rfl := hw.symm; clear hw)
    | (go_at_call 58; refine (growTexts_nil bk _ (G1.out.2.2.1).dTexts).mono ?_; rintro r9 w9 ⟨rfl, hw⟩; obtain rfl := hw.symm; clear hw)
    | (go_at_call 59; refine (growBools_nil bk _ (G1.out.2.2.1).dBools).mono ?_; rintro r9 w9 ⟨rfl, hw⟩; obtain rfl := hw.symm; clear hw)
    | (go_at_call 60; refine (growSteps_nil bk _ (G1.out.2.2.1).dSteps).mono ?_; rintro r9 w9 ⟨rfl, hw⟩; obtain rfl := hw.symm; clear hw)
    | (go_at_call 61; refine (growEdges_nil bk _ (G1.out.2.2.1).dEdges).mono ?_; rintro r9 w9 ⟨rfl, hw⟩; obtain rfl := hw.symm; clear hw)
    | (go_at_call 62; refine (growNodes_nil bk _ (G1.out.2.2.1).dNodes).mono ?_; rintro r9 w9 ⟨rfl, hw⟩; obtain rfl := hw.symm; clear hw)
    | (go_at_call 63; refine (BPairs.growI_any bk viPairs lsPairs (BPairs.allM zssPairs) _ (G1.out.2.1)).mono ?_; rintro r3 wg2 ⟨voPairs, osPairs, rfl, hG⟩; have hM := And.intro (BPairs.gr_marked hG) (And.intro hG.c0 (G1.out.2.2.2).size); have G2 : Hid _ := And.intro (And.intro (And.intro ((G1.out.1).1.1.kept hG.kp (fun b hb hg => hb.elim (fun e => HD.out.1.lPairsInts b e hg) (fun e => e.elim (fun e => HD.out.1.rPairsInts b e hg) (fun e => by have := HD.out.1.ltPairs b hg; have := (G1.out.1).2.2; omega)))) ((G1.out.1).1.2.kept hG.kp (fun b hb hg => hb.elim (fun e => HD.out.1.lPairsInts b e hg) (fun e => e.elim (fun e => HD.out.1.rPairsInts b e hg) (fun e => by have := HD.out.1.ltPairs b hg; have := (G1.out.1).2.2; omega))))) (And.intro ((World.cell?_of_block (a := ⟨bk, 0, none⟩) (hG.kp.block bk (G1.out.2.2.1).lt HD.out.1.bkPairs)).trans (G1.out.1).2.1) (G1.out.1).2.2)) (And.intro (hM) (And.intro ((G1.out.2.2.1).kept hG.kp HD.out.1.bkPairs) ((G1.out.2.2.2).trans (hG.kp.mono fun b _ hb => (.inr (hb)))))); clear hM hG G1)
    | (go_at_call 64; refine (growRows_nil bk _ (G2.out.2.2.1).dRows).mono ?_; rintro r9 w9 ⟨rfl, hw⟩; obtain rfl := hw.symm; clear hw)
    | (go_at_call 65; refine (growLines_nil bk _ (G2.out.2.2.1).dLines).mono ?_; rintro r9 w9 ⟨rfl, hw⟩; obtain rfl := hw.symm; clear hw)
    | (go_at_call 66; refine (growWalks_nil bk _ (G2.out.2.2.1).dWalks).mono ?_; rintro r9 w9 ⟨rfl, hw⟩; obtain rfl := hw.symm; clear hw)
    | fail)
  refine (markedI_any voInts (zssInts.map fun z => z.length + 96) _ (G2.out.1).1.1.mr (by rw [List.length_map]; exact HD.out.2.1.1) (fun n hn => by obtain ⟨z, hz, rfl⟩ := List.mem_map.1 hn; have := HD.out.2.1.2 z hz; omega)).mono ?_
  rintro r4 wm1 ⟨rfl, hb⟩
  have M1 : Hid _ := And.intro (And.intro (And.intro ((G2.out.1).1.1.below hb) ((G2.out.1).1.2.below hb)) (And.intro (cell_up (G2.out.1).2.1 hb) (G2.out.1).2.2)) (And.intro (And.intro (And.intro ((G2.out.2.1).1.1.below hb) ((G2.out.2.1).1.2.below hb)) (And.intro (cell_up (G2.out.2.1).2.1 hb) (G2.out.2.1).2.2)) (And.intro ((G2.out.2.2.1).below hb) ((G2.out.2.2.2).trans (Kept.of_below hb))))
  clear hb G2
  have cInts := (M1.out.1).2.1
  go_wp2_with fail
  clear cInts
  refine (markedI_any viInts (zssInts.map List.length) _ (M1.out.1).1.2.mr (by rw [List.length_map]; exact HD.out.2.1.1) (fun n hn => by obtain ⟨z, hz, rfl⟩ := List.mem_map.1 hn; have := HD.out.2.1.2 z hz; omega)).mono ?_
  rintro r4 wm2 ⟨rfl, hb⟩
  have M2 : Hid _ := And.intro (And.intro (And.intro ((M1.out.1).1.1.below hb) ((M1.out.1).1.2.below hb)) (And.intro (cell_up (M1.out.1).2.1 hb) (M1.out.1).2.2)) (And.intro (And.intro (And.intro ((M1.out.2.1).1.1.below hb) ((M1.out.2.1).1.2.below hb)) (And.intro (cell_up (M1.out.2.1).2.1 hb) (M1.out.2.1).2.2)) (And.intro ((M1.out.2.2.1).below hb) ((M1.out.2.2.2).trans (Kept.of_below hb))))
  clear hb M1
  obtain ⟨dTokens, dTexts, dBools, dSteps, dEdges, dNodes, dRows, dLines, dWalks⟩ := M2.out.2.2.1
  go_wp2_with (first
    | (go_at_call 68; refine (markedTokens_nil _).mono ?_; rintro r9 w9 ⟨rfl, hw⟩; obtain rfl := hw.symm; clear hw)
    | (go_at_call 69; refine (markedTexts_nil _).mono ?_; rintro r9 w9 ⟨rfl, hw⟩; obtain rfl := hw.symm; clear hw)
    | (go_at_call 70; refine (markedBools_nil _).mono ?_; rintro r9 w9 ⟨rfl, hw⟩; obtain rfl := hw.symm; clear hw)
    | (go_at_call 71; refine (markedSteps_nil _).mono ?_; rintro r9 w9 ⟨rfl, hw⟩; obtain rfl := hw.symm; clear hw)
    | (go_at_call 72; refine (markedEdges_nil _).mono ?_; rintro r9 w9 ⟨rfl, hw⟩; obtain rfl := hw.symm; clear hw)
    | (go_at_call 73; refine (markedNodes_nil _).mono ?_; rintro r9 w9 ⟨rfl, hw⟩; obtain rfl := hw.symm; clear hw)
    | (go_at_call 75; refine (markedRows_nil _).mono ?_; rintro r9 w9 ⟨rfl, hw⟩; obtain rfl := hw.symm; clear hw)
    | (go_at_call 76; refine (markedLines_nil _).mono ?_; rintro r9 w9 ⟨rfl, hw⟩; obtain rfl := hw.symm; clear hw)
    | (go_at_call 77; refine (markedWalks_nil _).mono ?_; rintro r9 w9 ⟨rfl, hw⟩; obtain rfl := hw.symm; clear hw)
    | fail)
  clear dTokens dTexts dBools dSteps dEdges dNodes dRows dLines dWalks
  refine (BPairs.markedI_any voPairs (zssPairs.map fun z => z.length + 96) _ (M2.out.2.1).1.1.mr (by rw [List.length_map]; exact HD.out.2.2.1) (fun n hn => by obtain ⟨z, hz, rfl⟩ := List.mem_map.1 hn; have := HD.out.2.2.2 z hz; omega)).mono ?_
  rintro r4 wm3 ⟨rfl, hb⟩
  have M3 : Hid _ := And.intro (And.intro (And.intro ((M2.out.1).1.1.below hb) ((M2.out.1).1.2.below hb)) (And.intro (cell_up (M2.out.1).2.1 hb) (M2.out.1).2.2)) (And.intro (And.intro (And.intro ((M2.out.2.1).1.1.below hb) ((M2.out.2.1).1.2.below hb)) (And.intro (cell_up (M2.out.2.1).2.1 hb) (M2.out.2.1).2.2)) (And.intro ((M2.out.2.2.1).below hb) ((M2.out.2.2.2).trans (Kept.of_below hb))))
  clear hb M2
  have cPairs := (M3.out.2.1).2.1
  go_wp2_with fail
  clear cPairs
  refine (BPairs.markedI_any viPairs (zssPairs.map List.length) _ (M3.out.2.1).1.2.mr (by rw [List.length_map]; exact HD.out.2.2.1) (fun n hn => by obtain ⟨z, hz, rfl⟩ := List.mem_map.1 hn; have := HD.out.2.2.2 z hz; omega)).mono ?_
  rintro r4 wm4 ⟨rfl, hb⟩
  have M4 : Hid _ := And.intro (And.intro (And.intro ((M3.out.1).1.1.below hb) ((M3.out.1).1.2.below hb)) (And.intro (cell_up (M3.out.1).2.1 hb) (M3.out.1).2.2)) (And.intro (And.intro (And.intro ((M3.out.2.1).1.1.below hb) ((M3.out.2.1).1.2.below hb)) (And.intro (cell_up (M3.out.2.1).2.1 hb) (M3.out.2.1).2.2)) (And.intro ((M3.out.2.2.1).below hb) ((M3.out.2.2.2).trans (Kept.of_below hb))))
  clear hb M3
  obtain ⟨dTokens, dTexts, dBools, dSteps, dEdges, dNodes, dRows, dLines, dWalks⟩ := M4.out.2.2.1
  go_wp2_with (first
    | (go_at_call 68; refine (markedTokens_nil _).mono ?_; rintro r9 w9 ⟨rfl, hw⟩; obtain rfl := hw.symm; clear hw)
    | (go_at_call 69; refine (markedTexts_nil _).mono ?_; rintro r9 w9 ⟨rfl, hw⟩; obtain rfl := hw.symm; clear hw)
    | (go_at_call 70; refine (markedBools_nil _).mono ?_; rintro r9 w9 ⟨rfl, hw⟩; obtain rfl := hw.symm; clear hw)
    | (go_at_call 71; refine (markedSteps_nil _).mono ?_; rintro r9 w9 ⟨rfl, hw⟩; obtain rfl := hw.symm; clear hw)
    | (go_at_call 72; refine (markedEdges_nil _).mono ?_; rintro r9 w9 ⟨rfl, hw⟩; obtain rfl := hw.symm; clear hw)
    | (go_at_call 73; refine (markedNodes_nil _).mono ?_; rintro r9 w9 ⟨rfl, hw⟩; obtain rfl := hw.symm; clear hw)
    | (go_at_call 75; refine (markedRows_nil _).mono ?_; rintro r9 w9 ⟨rfl, hw⟩; obtain rfl := hw.symm; clear hw)
    | (go_at_call 76; refine (markedLines_nil _).mono ?_; rintro r9 w9 ⟨rfl, hw⟩; obtain rfl := hw.symm; clear hw)
    | (go_at_call 77; refine (markedWalks_nil _).mono ?_; rintro r9 w9 ⟨rfl, hw⟩; obtain rfl := hw.symm; clear hw)
    | fail)
  go_ret
  exact ⟨rfl, M4.out.2.2.2⟩
end Go.Proofs.YthnenpncajpibaaGreatDoor.ApIP
/- A book with lists of numbers and of pairs, made since a world: what stands while it takes lists. -/
namespace Go.Proofs.YthnenpncajpibaaGreatDoor
open Go.RowKit Go.Maps
def bookZ : Array Value := Array.replicate 22 (.slice none 0 0)
/-- The book; mi, mp: its lists lie below. -/
structure W2 (wB wr : World) (mi mp : Nat) (vi vw : Value) (ls ws : List Value) (zss : List (List Int)) (vp vq : Value) (lp wq : List Value) (pss : List (List BPairs.El)) : Prop where
  bi : Bs wr wB.heap.size vi vw ls ws zss
  bp : BPairs.Bs wr wB.heap.size vp vq lp wq pss
  ot : ApIP.Oth wr wB.heap.size
  bl : Below wB.heap.size wB wr
  ri : ∀ b, (vi.ownBlock = some b ∨ vw.ownBlock = some b) → wB.heap.size ≤ b
  rp : ∀ b, (vp.ownBlock = some b ∨ vq.ownBlock = some b) → wB.heap.size ≤ b
  li : ∀ l ∈ ls, ∀ b, l.ownBlock = some b → wB.heap.size ≤ b ∧ b < mi
  lp : ∀ l ∈ lp, ∀ b, l.ownBlock = some b → wB.heap.size ≤ b ∧ b < mp
def W2E (wB wr : World) (mi mp : Nat) : Prop := ∃ vi vw ls ws zss vp vq lp wq pss, W2 wB wr mi mp vi vw ls ws zss vp vq lp wq pss
theorem W2E.mono {wB wr : World} {mi mp mi' mp' : Nat} (h : W2E wB wr mi mp) (h1 : mi ≤ mi') (h2 : mp ≤ mp') : W2E wB wr mi' mp' := by
  obtain ⟨vi, vw, ls, ws, zss, vp, vq, lp, wq, pss, h⟩ := h
  exact ⟨vi, vw, ls, ws, zss, vp, vq, lp, wq, pss, h.bi, h.bp, h.ot, h.bl, h.ri, h.rp, fun l hl b hb => ⟨(h.li l hl b hb).1, by have := (h.li l hl b hb).2; omega⟩, fun l hl b hb => ⟨(h.lp l hl b hb).1, by have := (h.lp l hl b hb).2; omega⟩⟩
theorem W2E.below {wB wr w' : World} {mi mp : Nat} (h : W2E wB wr mi mp) (hb : Below wr.heap.size wr w') : W2E wB w' mi mp := by
  obtain ⟨vi, vw, ls, ws, zss, vp, vq, lp, wq, pss, h⟩ := h
  exact ⟨vi, vw, ls, ws, zss, vp, vq, lp, wq, pss, h.bi.below hb, h.bp.below hb, h.ot.below hb, h.bl.trans (hb.mono h.bl.size), h.ri, h.rp, h.li, h.lp⟩
theorem W2E.bl {wB wr : World} {mi mp : Nat} (h : W2E wB wr mi mp) : Below wB.heap.size wB wr := by
  obtain ⟨vi, vw, ls, ws, zss, vp, vq, lp, wq, pss, h⟩ := h
  exact h.bl
theorem w2_new (wB : World) : W2E wB (wB.alloc (.cells bookZ 49)) 0 0 := by
  have h := (MapKept.heap_alloc wB (.cells bookZ 49)).1
  have hc : ∀ k, k < 22 → (wB.alloc (.cells bookZ 49)).cell? ⟨wB.heap.size, k, none⟩ = some (.slice none 0 0) := fun k hk => by
    have h2 : bookZ[k]? = some (.slice none 0 0) := by unfold bookZ; rw [Array.getElem?_replicate, if_pos hk]
    exact cell0_of h h2
  refine ⟨.slice none 0 0, .slice none 0 0, [], [], [], .slice none 0 0, .slice none 0 0, [], [], [], ?_, ?_, ?_, (Below.refl _ _).alloc (Nat.le_refl _) _, fun b hb => by simp [Value.ownBlock] at hb, fun b hb => by simp [Value.ownBlock] at hb, fun l hl => by simp at hl, fun l hl => by simp at hl⟩
  · exact ⟨⟨hc _ (by omega), World.ownsRow_nil _ _ _ _, fun k l zs h1 => by simp at h1, ⟨fun l hl => by simp at hl, fun l hl => by simp at hl, by simp [Value.ownBlock], fun i j l m hl => by simp at hl⟩, by simp, fun zs h => by simp at h⟩, hc _ (by omega), World.ownsRow_nil _ _ _ _, fun k l zs h1 => by simp at h1, ⟨_, h, by unfold bookZ; simp⟩, fun k hk => by simp [Value.ownBlock] at hk⟩
  · exact ⟨⟨hc _ (by omega), World.ownsRow_nil _ _ _ _, fun k l zs h1 => by simp at h1, ⟨fun l hl => by simp at hl, fun l hl => by simp at hl, by simp [Value.ownBlock], fun i j l m hl => by simp at hl⟩, by simp, fun zs h => by simp at h⟩, hc _ (by omega), World.ownsRow_nil _ _ _ _, fun k l zs h1 => by simp at h1, ⟨_, h, by unfold bookZ; simp⟩, fun k hk => by simp [Value.ownBlock] at hk⟩
  · exact ⟨hc _ (by omega), hc _ (by omega), hc _ (by omega), hc _ (by omega), hc _ (by omega), hc _ (by omega), hc _ (by omega), hc _ (by omega), hc _ (by omega)⟩
/-- Blocks of other types stand. -/
def Fr (w w' : World) : Prop := w.heap.size ≤ w'.heap.size ∧ ∀ (g : Nat) (cs : Array Value) (t : TypeId), w.heap[g]? = some (.cells cs t (0, 0)) → 49 ≠ t → 29 ≠ t → 33 ≠ t → w'.heap[g]? = some (.cells cs t (0, 0))
theorem Fr.ownI {w w' : World} (h : Fr w w') {B : Nat} {v : Value} {zs : List Int} (ho : OwnI w B v zs) : OwnI w' B v zs := trow_at ho fun i hi => by
  obtain ⟨c, hc⟩ := row_cells ho hi
  rw [hc]; exact h.2 i c _ hc (by decide) (by decide) (by decide)
theorem Fr.ownP {w w' : World} (h : Fr w w') {B : Nat} {v : Value} {zs : List (Int × Int)} (ho : OwnP w B v zs) : OwnP w' B v zs := trow_at ho fun i hi => by
  obtain ⟨c, hc⟩ := row_cells ho hi
  rw [hc]; exact h.2 i c _ hc (by decide) (by decide) (by decide)
theorem typed_row {w : World} {B : Nat} {e : TypeId} {sz : Nat} {v : Value} {n : Nat} {xs : List Value} (h : w.ownsRow B e sz v n xs) {g : Nat} {cs : Array Value} {t : TypeId} (hg : w.heap[g]? = some (.cells cs t (0, 0))) (hne : e ≠ t) : v.ownBlock ≠ some g := own_bk h hg hne
theorem typed_bk {w : World} {bk g : Nat} {cs cs' : Array Value} {t u : TypeId} (h : w.heap[bk]? = some (.cells cs u (0, 0))) (hg : w.heap[g]? = some (.cells cs' t (0, 0))) (hne : u ≠ t) : g ≠ bk := fun e => by
  subst e
  rw [h] at hg
  injection hg with e
  injection e with _ e
  exact hne e
/-- One more list of numbers. -/
theorem W2E.ints {wB wr : World} {mi mp : Nat} (h : W2E wB wr mi mp) (v : Value) (cs : List Int) (B : Nat) (hO : OwnI wr B v cs) (hB : wB.heap.size ≤ B) (hm : mi ≤ B) (hsz : cs.length ≤ 1000000) (M : Nat) (hM : mi ≤ M) (hv : ∀ b, v.ownBlock = some b → b < M) :
    Calls Tryz.prog 11 #[.pointer (some ⟨wB.heap.size, 0, none⟩), v] wr fun r w' => r = .returned (.tuple #[]) ∧ W2E wB w' M mp ∧ Fr wr w' := by
  obtain ⟨vi, vw, ls, ws, zss, vp, vq, lp, wq, pss, h⟩ := h
  have hO0 : OwnI wr 0 v cs := row_base hO (Nat.zero_le _)
  have hlt2 : ∀ l ∈ lp, ∀ b, l.ownBlock = some b → wB.heap.size ≤ b ∧ b < mp := h.lp
  by_cases hlen : zss.length < 400
  · refine (ints_any wB.heap.size vi vw v ls ws zss cs wr h.bi hO0 (fun l hl q hq e => ?_) hlen hsz).mono ?_
    · have h1 := (h.li l hl q hq).2
      have h2 := (hO.lt q e).1
      omega
    rintro r w' ⟨rfl, vi', vw', v1, hN⟩
    have hup : ∀ b, (b = wB.heap.size ∨ vi.ownBlock = some b ∨ vw.ownBlock = some b) → wB.heap.size ≤ b := fun b hb => by
      rcases hb with rfl | hb
      · exact Nat.le_refl _
      · exact h.ri b hb
    obtain ⟨cs0, hc0, _⟩ := h.bi.bt
    refine ⟨rfl, ⟨vi', vw', _, _, _, vp, vq, lp, wq, pss, hN.b, ?_, ?_, h.bl.trans (hN.k.below h.bl.size hup), fun b hb => ?_, h.rp, fun l hl b hb => ?_, hlt2⟩, hN.k.size, fun g cs t hg h1 h2 h3 => ?_⟩
    · refine h.bp.other hN.k (hN.o _ (by omega)) (hN.o _ (by omega)) hN.b.bt fun b hb => ?_
      rcases hb with hb | hb | hb
      · exact .inl hb
      · exact .inr ⟨_, _, _, _, _, _, h.bi.p.ri, hb, by decide, by decide⟩
      · exact .inr ⟨_, _, _, _, _, _, h.bi.rw, hb, by decide, by decide⟩
    · exact ⟨(hN.o _ (by omega)).trans h.ot.dTokens, (hN.o _ (by omega)).trans h.ot.dTexts, (hN.o _ (by omega)).trans h.ot.dBools, (hN.o _ (by omega)).trans h.ot.dSteps, (hN.o _ (by omega)).trans h.ot.dEdges, (hN.o _ (by omega)).trans h.ot.dNodes, (hN.o _ (by omega)).trans h.ot.dRows, (hN.o _ (by omega)).trans h.ot.dLines, (hN.o _ (by omega)).trans h.ot.dWalks⟩
    · rcases hN.f b hb with e | e
      · exact h.ri b e
      · have := h.bl.size; omega
    · rcases List.mem_append.1 hl with hl | hl
      · exact ⟨(h.li l hl b hb).1, by have := (h.li l hl b hb).2; omega⟩
      · rw [List.mem_singleton.1 hl] at hb
        have := hO.lt b hb
        have := hv b hb
        omega
    · refine (hN.k.block g (t_lt hg) fun hf => ?_).trans hg
      rcases hf with hf | hf | hf
      · exact typed_bk hc0 hg h1 hf
      · exact typed_row h.bi.p.ri hg h2 hf
      · exact typed_row h.bi.rw hg h2 hf
  · refine (ints_full wB.heap.size vi vw v ls ws zss wr h.bi hlen).mono ?_
    rintro r w' ⟨rfl, rfl⟩
    exact ⟨rfl, ⟨vi, vw, ls, ws, zss, vp, vq, lp, wq, pss, h.bi, h.bp, h.ot, h.bl, h.ri, h.rp, fun l hl b hb => ⟨(h.li l hl b hb).1, by have := (h.li l hl b hb).2; omega⟩, hlt2⟩, Nat.le_refl _, fun g cs t hg _ _ _ => hg⟩
theorem pC_eq (ps : List (Int × Int)) : pC ps = BPairs.C ps := by
  unfold pC BPairs.C
  rw [List.flatMap_def]
  rfl
theorem own_pairs {w : World} {B : Nat} {v : Value} {ps : List (Int × Int)} (h : OwnP w B v ps) : BPairs.Own w B v ps := by
  unfold OwnP at h
  rw [pC_eq] at h
  exact h
/-- One more list of pairs. -/
theorem W2E.pairs {wB wr : World} {mi mp : Nat} (h : W2E wB wr mi mp) (v : Value) (ps : List (Int × Int)) (B : Nat) (hP : OwnP wr B v ps) (hB : wB.heap.size ≤ B) (hm : mp ≤ B) (hsz : ps.length ≤ 1000000) (M : Nat) (hM : mp ≤ M) (hv : ∀ b, v.ownBlock = some b → b < M) :
    Calls Tryz.prog 18 #[.pointer (some ⟨wB.heap.size, 0, none⟩), v] wr fun r w' => r = .returned (.tuple #[]) ∧ W2E wB w' mi M ∧ Fr wr w' := by
  obtain ⟨vi, vw, ls, ws, zss, vp, vq, lp, wq, pss, h⟩ := h
  have hO := own_pairs hP
  have hO0 : BPairs.Own wr 0 v ps := row_base hO (Nat.zero_le _)
  by_cases hlen : pss.length < 400
  · refine (BPairs.ints_any wB.heap.size vp vq v lp wq pss ps wr h.bp hO0 (fun l hl q hq e => ?_) hlen hsz).mono ?_
    · have h1 := (h.lp l hl q hq).2
      have h2 := (hO.lt q e).1
      omega
    rintro r w' ⟨rfl, vi', vw', v1, hN⟩
    have hup : ∀ b, (b = wB.heap.size ∨ vp.ownBlock = some b ∨ vq.ownBlock = some b) → wB.heap.size ≤ b := fun b hb => by
      rcases hb with rfl | hb
      · exact Nat.le_refl _
      · exact h.rp b hb
    obtain ⟨cs0, hc0, _⟩ := h.bp.bt
    refine ⟨rfl, ⟨vi, vw, ls, ws, zss, vi', vw', _, _, _, ?_, hN.b, ?_, h.bl.trans (hN.k.below h.bl.size hup), h.ri, fun b hb => ?_, h.li, fun l hl b hb => ?_⟩, hN.k.size, fun g cs t hg h1 h2 h3 => ?_⟩
    · refine h.bi.other hN.k (hN.o _ (by omega) (by omega)) (hN.o _ (by omega) (by omega)) hN.b.bt fun b hb => ?_
      rcases hb with hb | hb | hb
      · exact .inl hb
      · exact .inr ⟨_, _, _, _, _, _, h.bp.p.ri, hb, by decide, by decide⟩
      · exact .inr ⟨_, _, _, _, _, _, h.bp.rw, hb, by decide, by decide⟩
    · exact ⟨(hN.o _ (by omega) (by omega)).trans h.ot.dTokens, (hN.o _ (by omega) (by omega)).trans h.ot.dTexts, (hN.o _ (by omega) (by omega)).trans h.ot.dBools, (hN.o _ (by omega) (by omega)).trans h.ot.dSteps, (hN.o _ (by omega) (by omega)).trans h.ot.dEdges, (hN.o _ (by omega) (by omega)).trans h.ot.dNodes, (hN.o _ (by omega) (by omega)).trans h.ot.dRows, (hN.o _ (by omega) (by omega)).trans h.ot.dLines, (hN.o _ (by omega) (by omega)).trans h.ot.dWalks⟩
    · rcases hN.f b hb with e | e
      · exact h.rp b e
      · have := h.bl.size; omega
    · rcases List.mem_append.1 hl with hl | hl
      · exact ⟨(h.lp l hl b hb).1, by have := (h.lp l hl b hb).2; omega⟩
      · rw [List.mem_singleton.1 hl] at hb
        have := hO.lt b hb
        have := hv b hb
        omega
    · refine (hN.k.block g (t_lt hg) fun hf => ?_).trans hg
      rcases hf with hf | hf | hf
      · exact typed_bk hc0 hg h1 hf
      · exact typed_row h.bp.p.ri hg h3 hf
      · exact typed_row h.bp.rw hg h3 hf
  · refine (BPairs.ints_full wB.heap.size vp vq v lp wq pss wr h.bp hlen).mono ?_
    rintro r w' ⟨rfl, rfl⟩
    exact ⟨rfl, ⟨vi, vw, ls, ws, zss, vp, vq, lp, wq, pss, h.bi, h.bp, h.ot, h.bl, h.ri, h.rp, h.li, fun l hl b hb => ⟨(h.lp l hl b hb).1, by have := (h.lp l hl b hb).2; omega⟩⟩, Nat.le_refl _, fun g cs t hg _ _ _ => hg⟩
/-- The book's Apart. -/
theorem W2E.apart {wB wr : World} {mi mp : Nat} (h : W2E wB wr mi mp) :
    Calls Tryz.prog 16 #[.pointer (some ⟨wB.heap.size, 0, none⟩)] wr fun r w' => r = .returned (.bool true) ∧ Below wB.heap.size wB w' := by
  obtain ⟨vi, vw, ls, ws, zss, vp, vq, lp, wq, pss, h⟩ := h
  refine (ApIP.apart_any wB.heap.size vi vw ls ws zss vp vq lp wq pss wr h.bi h.bp h.ot).mono ?_
  rintro r w' ⟨rfl, hk⟩
  exact ⟨rfl, h.bl.trans (hk.below h.bl.size fun b hb => hb.elim (fun ⟨l, hl, e⟩ => (h.li l hl b e).1) (fun ⟨l, hl, e⟩ => (h.lp l hl b e).1))⟩
end Go.Proofs.YthnenpncajpibaaGreatDoor
/- The statement TermAll as a call: whatever comes in, it returns true, and nothing that was there has turned. -/
namespace Go.Proofs.YthnenpncajpibaaGreatDoor
open Go.RowKit Go.Maps
attribute [local go_sem ↓] Go.wp_at_zero Go.wp_at_succ
set_option maxRecDepth 100000 in
set_option maxHeartbeats 1600000 in
theorem lawAll_long (ao : Option Addr) (n cap : Nat) (w : World) (hn : 100 < n) (hm : n ≤ maxLen) :
    Calls Tryz.prog 4 #[.slice ao n cap] w fun r w' => r = .returned (.bool true) ∧ Below w.heap.size w w' := by
  unfold maxLen at hm
  have h1 : (100 : Int) < (n : Int) := by omega
  go_enter Tryz.func4, Tryz.ntmps4
  go_wp2_with (go_at_call 5; refine (alive3 _).mono ?_; rintro r w' ⟨rfl, hb⟩)
  go_ret
  exact ⟨rfl, hb⟩
set_option maxRecDepth 100000 in
set_option maxHeartbeats 16000000 in
theorem lawAll_short (v : Value) (l : List Tm) (aA : Addr) (w : World) (hl : l.length ≤ 100) (hT : HasT w v l) (hrm : ∀ t ∈ l, Room t) (hE : Sent w 0 aA) :
    Calls Tryz.prog 4 #[v] w fun r w' => r = .returned (.bool true) ∧ Below w.heap.size w w' := by
  obtain ⟨ao, cap, hv, _⟩ := id hT
  obtain ⟨n, hn⟩ : ∃ n, n = l.length := ⟨_, rfl⟩
  rw [← hn] at hl hv
  have h1 : ¬ (100 : Int) < (n : Int) := by omega
  subst hv
  have HO : Hid _ := And.intro hT (And.intro hn (And.intro hrm hE))
  clear hT hn hrm hE
  go_enter Tryz.func4, Tryz.ntmps4
  go_wp2_with fail
  refine (newA w).mono ?_
  rintro r w1 ⟨rfl, F1, hS1, hF1, hb1, hG1⟩
  have H1 : Hid _ := And.intro hS1 (And.intro hF1 hb1)
  clear hS1 hF1 hb1 hG1
  go_wp2_with fail
  refine (rnew_any w1).mono ?_
  rintro r w2 ⟨rfl, ⟨G1, hR1, hG1⟩, hb2⟩
  have HP : Hid (Pr w w2 w.heap.size w1.heap.size [⟨1, 0, 0, 0, [], []⟩]) := pr_new H1.out.1 H1.out.2.1 H1.out.2.2 hR1 hG1 hb2
  clear H1 hR1 hG1 hb2
  generalize w.heap.size = b, w1.heap.size = c at HP ⊢
  go_wp2_with fail
  refine (alive3 w2).mono ?_
  rintro r w3 ⟨rfl, hb3⟩
  have hPut := put_pr (.slice ao n cap) l b c _ aA w w3 (HP.out.below hb3) HO.out.1 HO.out.2.2.1 (by have := HO.out.2.1; simp; omega) HO.out.2.2.2
  have HPut : Hid _ := hPut
  clear HP hb3 hPut
  go_wp2_with fail
  refine Calls.mono HPut.out ?_
  rintro r wB ⟨rfl, L, hP4, hL4⟩
  have hlL : L.length ≤ 101 := by have := HO.out.2.1; simp at hL4; omega
  obtain ⟨F, G, hS, hR, hd', hF, hG, hbl, hGo⟩ := _root_.id hP4
  obtain ⟨ay, cy, hc⟩ := hR.cell
  have hcl := World.block_lt_of_cell? wB _ hc
  have HK : Hid _ := And.intro hP4 (And.intro hS (And.intro hR (And.intro hGo hbl)))
  clear HPut hP4 hL4 hS hR hd' hF hG hbl hGo
  go_wp2_with fail
  go_loopg [6] (2 * L.length) (fun q kv wr => ∃ (k : Nat), q = 2 * L.length - k ∧ k ≤ 2 * L.length ∧ kv = .int .i64 k ∧ W2E wB wr wr.heap.size wr.heap.size)
  case atStart => exact ⟨0, rfl, Nat.zero_le _, rfl, (w2_new wB).mono (Nat.zero_le _) (Nat.zero_le _)⟩
  case round =>
    obtain ⟨k, rfl, hk, rfl, hW⟩ := hrel
    have hc1 := cell_up hc hW.bl
    by_cases hlt : k < 2 * L.length
    · have q1 : (k : Int) < 2 * (L.length : Int) := by omega
      have q2 : (0 : Int) < (L.length : Int) := by omega
      obtain ⟨j, hj, hjl⟩ : ∃ j : Nat, (k : Int) % (L.length : Int) = (j : Int) ∧ j < L.length := ⟨k % L.length, by rw [Int.natCast_emod], Nat.mod_lt _ (by omega)⟩
      obtain ⟨t, ht⟩ : ∃ t, L[j]? = some t := ⟨L[j]'hjl, List.getElem?_eq_getElem _⟩
      have hS := HK.out.2.1.below hW.bl
      have hGt := get_yes b L F j t wr hS ht
      unfold tmV at hGt
      have wf := hS.wf t (List.mem_of_getElem? ht)
      have H1 : Hid _ := And.intro hGt (And.intro hW (And.intro hS wf))
      clear hGt hW hS wf ht
      go_wp2_with fail
      refine Calls.mono H1.out.1 ?_
      rintro r w1' ⟨v1, v2, rfl, hn1, hp1, hb1⟩
      obtain ⟨ao1, cap1, rfl⟩ := row_shape hn1
      obtain ⟨ao2, cap2, rfl⟩ := row_shape hp1
      have hc2 := cell_up hc1 hb1
      have hcl2 := World.block_lt_of_cell? w1' _ hc2
      have H2 : Hid _ := And.intro hn1 (And.intro hp1 hb1)
      clear hn1 hp1 hb1 hc1
      go_wp2_with fail
      obtain ⟨W1, hW1⟩ : ∃ W1, W1 = w1'.alloc (.cells #[.int .i64 t.kind, .int .i64 t.label, .int .i64 t.a, .int .i64 t.b, .slice ao1 t.names.length cap1, .slice ao2 t.pairs.length cap2] 35) := ⟨_, rfl⟩
      rw [← hW1]
      have hbx : W1.heap[w1'.heap.size]? = some (.cells #[.int .i64 t.kind, .int .i64 t.label, .int .i64 t.a, .int .i64 t.b, .slice ao1 t.names.length cap1, .slice ao2 t.pairs.length cap2] 35 (0, 0)) := by rw [hW1]; exact (MapKept.heap_alloc w1' _).1
      have hbW : Below w1'.heap.size w1' W1 := by rw [hW1]; exact (Below.refl _ _).alloc (Nat.le_refl _) _
      have hb1W : Below wr.heap.size wr W1 := H2.out.2.2.trans (hbW.mono H2.out.2.2.size)
      have hCo := consts_yes b L F j W1 (H1.out.2.2.1.below hb1W) HK.out.2.2.2.1 hjl
      have H3 : Hid _ := And.intro hCo (And.intro hbx (And.intro hbW hb1W))
      clear hCo hbx hbW hb1W hW1
      refine Calls.mono H3.out.1 ?_
      rintro r w2' ⟨v3, cs, ts, rfl, hO3, hWi, hCs, hcl3, hb2⟩
      obtain ⟨ao3, cap3, rfl⟩ := row_shape hO3
      have hb12 : Below w1'.heap.size w1' w2' := H3.out.2.2.1.trans (hb2.mono H3.out.2.2.1.size)
      have hbr2 : Below wr.heap.size wr w2' := H3.out.2.2.2.trans (hb2.mono H3.out.2.2.2.size)
      have hbx2 := (hb2.block _ (t_lt H3.out.2.1)).trans H3.out.2.1
      obtain ⟨y0, y1, y2, y3, y4, y5, _⟩ := six6 hbx2
      have hn2 : OwnI w2' wr.heap.size (.slice ao1 t.names.length cap1) t.names := trow_at H2.out.1 fun i hi => hb12.block i (H2.out.1.lt i hi).2
      have hp2 : OwnP w2' wr.heap.size (.slice ao2 t.pairs.length cap2) t.pairs := trow_at H2.out.2.1 fun i hi => hb12.block i (H2.out.2.1.lt i hi).2
      have hIn := (H1.out.2.1.below hbr2).ints (.slice ao1 t.names.length cap1) t.names wr.heap.size hn2 H1.out.2.1.bl.size (Nat.le_refl _) (by have := H1.out.2.2.2.nl; omega) w1'.heap.size H2.out.2.2.size (fun b hb => (H2.out.1.lt b hb).2)
      have H4 : Hid _ := And.intro hIn (And.intro hp2 (And.intro hO3 (And.intro hbx2 (And.intro hcl3 (And.intro hb2 hbr2)))))
      clear hIn hp2 hO3 hbx2 hb2 hbr2 hb12 hn2 hWi hCs hc2 hcl2
      go_wp2_with fail
      refine Calls.mono H4.out.1 ?_
      rintro r w3' ⟨rfl, hW3, hF3⟩
      have hbx3 := hF3.2 _ _ _ H4.out.2.2.2.1 (by decide) (by decide) (by decide)
      clear y0 y1 y2 y3 y4 y5
      obtain ⟨y0, y1, y2, y3, y4, y5, _⟩ := six6 hbx3
      have hPa := hW3.pairs (.slice ao2 t.pairs.length cap2) t.pairs wr.heap.size (hF3.ownP H4.out.2.1) H1.out.2.1.bl.size (Nat.le_refl _) (by have := H1.out.2.2.2.pl; omega) w1'.heap.size H2.out.2.2.size (fun b hb => (H2.out.2.1.lt b hb).2)
      have H5 : Hid _ := And.intro hPa (And.intro (hF3.ownI H4.out.2.2.1) hF3.1)
      clear hW3 hF3 hbx3 hPa
      go_wp2_with fail
      refine Calls.mono H5.out.1 ?_
      rintro r w4' ⟨rfl, hW4, hF4⟩
      clear y0 y1 y2 y3 y4 y5
      have hO4 := hF4.ownI H5.out.2.1
      have hIn := hW4.ints (.slice ao3 cs.length cap3) cs W1.heap.size hO4 (by have h1 := H1.out.2.1.bl.size; have h2 := H3.out.2.2.2.size; omega) H3.out.2.2.1.size (by omega) w4'.heap.size (by have h1 := H3.out.2.2.1.size; have h2 := H4.out.2.2.2.2.2.1.size; have h3 := hF4.1; have h4 := H5.out.2.2; omega) (fun b hb => (hO4.lt b hb).2)
      have hsz4 : w1'.heap.size ≤ w4'.heap.size := by have h1 := H3.out.2.2.1.size; have h2 := H4.out.2.2.2.2.2.1.size; have h3 := hF4.1; have h4 := H5.out.2.2; omega
      have H6 : Hid _ := hIn
      clear hIn hW4 hF4 hO4
      go_wp2_with fail
      refine Calls.mono H6.out ?_
      rintro r w5' ⟨rfl, hW5, hF5⟩
      have H7 : Hid (W2E wB w5' w5'.heap.size w5'.heap.size) := hW5.mono hF5.1 (by have := hF5.1; omega)
      clear hW5 hF5 H1 H2 H3 H4 H5 H6
      go_wp2_with fail
      go_roundg (2 * L.length - (k + 1))
      case measure => omega
      case rel => exact ⟨k + 1, rfl, by omega, by go_num, H7.out⟩
    · obtain rfl : k = 2 * L.length := by omega
      have q1 : ¬ ((2 * L.length : Nat) : Int) < 2 * (L.length : Int) := by omega
      have H1 : Hid _ := hW.apart
      clear hW
      go_wp2_with fail
      refine Calls.mono H1.out ?_
      rintro r w1' ⟨rfl, hb1⟩
      have H2 : Hid (Pr w w1' b c L) := HK.out.1.below hb1
      clear hb1 H1 hc1 hc hcl HK
      go_wp2_with fail
      go_loopg [11] L.length (fun q iv wr => ∃ i : Nat, q = L.length - i ∧ i ≤ L.length ∧ iv = .int .i64 i ∧ Pr w wr b c L)
      case atStart => exact ⟨0, rfl, Nat.zero_le _, rfl, H2.out⟩
      case round =>
        obtain ⟨i, rfl, hi, rfl, hPr⟩ := hrel
        clear H2
        obtain ⟨F, G, hS, hR, hd, hF, hG, hbl, hGo⟩ := _root_.id hPr
        obtain ⟨ay, cy, hc2⟩ := hR.cell
        by_cases hlt : i < L.length
        · obtain ⟨t, ht⟩ : ∃ t, L[i]? = some t := ⟨L[i]'hlt, List.getElem?_eq_getElem _⟩
          have q0 : (0 : Int) ≤ (i : Int) := by omega
          have q1 : (i : Int) < (L.length : Int) := by omega
          have hGt := get_yes b L F i t wr hS ht
          unfold tmV at hGt
          have wf := hS.wf t (List.mem_of_getElem? ht)
          have HGt : Hid _ := hGt
          have HR : Hid _ := And.intro hPr (And.intro hR (And.intro ht wf))
          clear hGt hPr hR hd hF hG hbl hGo hS wf ht
          go_wp2_with fail
          refine Calls.mono HGt.out ?_
          rintro r w6 ⟨v1, v2, rfl, hn6, hp6, hb6⟩
          clear HGt hc2
          obtain ⟨ao1, cap1, rfl⟩ := row_shape hn6
          obtain ⟨ao2, cap2, rfl⟩ := row_shape hp6
          have hn6' := hn6.has
          have hp6' := hp6.has
          have H6 : Hid _ := And.intro hn6' (And.intro hp6' hb6)
          clear hn6 hp6 hb6 hn6' hp6'
          go_upto_region 21 with fail
          obtain ⟨W6, hW6⟩ : ∃ W6, W6 = w6.alloc (.cells #[.int .i64 t.kind, .int .i64 t.label, .int .i64 t.a, .int .i64 t.b, .slice ao1 t.names.length cap1, .slice ao2 t.pairs.length cap2] 35) := ⟨_, rfl⟩
          rw [← hW6]
          have hbx : W6.heap[w6.heap.size]? = some (.cells #[.int .i64 t.kind, .int .i64 t.label, .int .i64 t.a, .int .i64 t.b, .slice ao1 t.names.length cap1, .slice ao2 t.pairs.length cap2] 35 (0, 0)) := by rw [hW6]; exact (MapKept.heap_alloc w6 _).1
          have hbW : Below w6.heap.size w6 W6 := by rw [hW6]; exact (Below.refl _ _).alloc (Nat.le_refl _) _
          have hb7 : Below wr.heap.size wr W6 := H6.out.2.2.trans (hbW.mono H6.out.2.2.size)
          obtain ⟨y0, y1, y2, y3, y4, y5, _⟩ := six6 hbx
          obtain ⟨gq, cq, vn, vp, hA⟩ := (HR.out.2.1.below hb7).at HR.out.2.2.1
          obtain ⟨hc, x0, x1, x2, x3, x4, x5, hn7, hp7⟩ := _root_.id hA
          obtain ⟨an, cn, rfl, _⟩ := _root_.id hn7
          obtain ⟨ap, cp, rfl, _⟩ := _root_.id hp7
          have wf := HR.out.2.2.2
          have hST := (fun W (hb : Below W6.heap.size W6 W) => sameTerm_b t t _ _ _ _ W ((H6.out.1.below hbW).below hb) ((H6.out.2.1.below hbW).below hb) (hn7.below hb) (hp7.below hb) (by have := wf.nl; omega) (by have := wf.pl; omega) (by have := wf.nl; omega) (by have := wf.pl; omega))
          rw [same_self] at hST
          unfold tmV at hST
          have HST : Hid _ := hST
          have H7 : Hid (Pr w W6 b c L) := HR.out.1.below hb7
          clear hST hbx hbW hb7 hA hn7 hp7 hW6 H6 wf HR
          go_cut [103] (fun s103 wx => s103 = .bool false ∧ Pr w wx b c L)
          case first =>
            go_region_held3 (fun w' => (w'.cell? ⟨w6.heap.size, 0, none⟩ = some (.int .i64 t.kind) ∧ w'.cell? ⟨w6.heap.size, 1, none⟩ = some (.int .i64 t.label) ∧ w'.cell? ⟨w6.heap.size, 2, none⟩ = some (.int .i64 t.a) ∧ w'.cell? ⟨w6.heap.size, 3, none⟩ = some (.int .i64 t.b) ∧ w'.cell? ⟨w6.heap.size, 4, none⟩ = some (.slice ao1 t.names.length cap1) ∧ w'.cell? ⟨w6.heap.size, 5, none⟩ = some (.slice ao2 t.pairs.length cap2)) ∧ w'.cell? ⟨c, 0, none⟩ = some (.slice (some ⟨gq, 0, none⟩) L.length cq) ∧ w'.cell? ⟨gq, i * 6, none⟩ = some (.int .i64 t.kind) ∧ w'.cell? ⟨gq, i * 6 + 1, none⟩ = some (.int .i64 t.label) ∧ w'.cell? ⟨gq, i * 6 + 2, none⟩ = some (.int .i64 t.a) ∧ w'.cell? ⟨gq, i * 6 + 3, none⟩ = some (.int .i64 t.b) ∧ w'.cell? ⟨gq, i * 6 + 4, none⟩ = some (.slice an t.names.length cn) ∧ w'.cell? ⟨gq, i * 6 + 5, none⟩ = some (.slice ap t.pairs.length cp)) (go_keep)
              ((first
                | (go_at_call 19; refine (HST.out _ (by repeat (first | exact Below.refl _ _ | assumption | refine Below.drew ?_ | refine Below.setCell ?_ (by simp) _ | refine Below.alloc ?_ (by simp) _))).mono ?_; rintro r8 w8 ⟨rfl, hb8'⟩; have hb8 := below_of_drew3 hb8'; have H8 : Hid (Pr w w8 b c L) := H7.out.below hb8; have y0 := cell_up y0 hb8; have y1 := cell_up y1 hb8; have y2 := cell_up y2 hb8; have y3 := cell_up y3 hb8; have y4 := cell_up y4 hb8; have y5 := cell_up y5 hb8; have hc := cell_up hc hb8; have x0 := cell_up x0 hb8; have x1 := cell_up x1 hb8; have x2 := cell_up x2 hb8; have x3 := cell_up x3 hb8; have x4 := cell_up x4 hb8; have x5 := cell_up x5 hb8; clear hb8 hb8' HST)
                | fail))
            all_goals (refine Met.intro ?_; apply_assumption; refine Met.intro ?_; apply_assumption; (repeat apply Exists.intro); refine ⟨?rel, rfl⟩; case rel => exact ⟨rfl, by first | exact H8.out | exact H8.out.below (below_drewN (Below.refl _ _) _)⟩)
          case rest =>
            obtain ⟨rfl, hP8⟩ := hcut
            have H8 : Hid (Pr w wc b c L) := hP8
            clear hP8 HST H7 hc x0 x1 x2 x3 x4 x5 y0 y1 y2 y3 y4 y5
            go_wp2_with fail
            go_roundg (L.length - (i + 1))
            case measure => omega
            case rel => exact ⟨i + 1, rfl, by omega, by go_num, H8.out⟩
        · obtain rfl : i = L.length := by omega
          have q1 : ¬ (L.length : Int) < (L.length : Int) := by omega
          have H9 : Hid _ := hbl
          clear hPr hR hd hF hG hbl hGo hS
          go_wp2_with fail
          go_ret
          exact ⟨rfl, H9.out⟩
theorem lawAll_any (v : Value) (l : List Tm) (aA aI aL : Addr) (w : World) (hm : l.length ≤ maxLen) (hT : HasT w v l) (hrm : ∀ t ∈ l, Room t) (hE : ErrT w aA aI aL) :
    Calls Tryz.prog 4 #[v] w fun r w' => r = .returned (.bool true) ∧ Below w.heap.size w w' := by
  by_cases h : l.length ≤ 100
  · exact lawAll_short v l aA w h hT hrm hE.a
  · obtain ⟨ao, cap, rfl, _⟩ := hT
    exact lawAll_long ao l.length cap w (by omega) hm
end Go.Proofs.YthnenpncajpibaaGreatDoor
