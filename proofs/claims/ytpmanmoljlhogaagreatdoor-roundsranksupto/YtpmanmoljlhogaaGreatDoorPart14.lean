/- Texts of this claim, joined: BookApIR, BookWIR, SySmI, BkRows, RoRows, RoDRanks, RoLong. -/
import Derived.Test.YtpmanmoljlhogaaGreatDoorPart12
import Derived.Test.YtpmanmoljlhogaaGreatDoorPart13
import Derived.Test.YtpmanmoljlhogaaGreatDoorPart1
import Derived.Deep.DeepCutAuto
import Derived.Test.YtpmanmoljlhogaaGreatDoorPart0
import Derived.Deep.QuietTactic
import Derived.BigQuiet
import Derived.Deep.RegionHeld3
import Derived.Test.YtpmanmoljlhogaaGreatDoorPart8
import Derived.Test.YtpmanmoljlhogaaGreatDoorPart11
import Derived.Deep.AppendLies
import Derived.Test.YtpmanmoljlhogaaGreatDoorPart10
/- Contract of the book's Apart, where it has lists of these kinds alone: Ints, Rows. (Written by mkap.py.) -/
namespace Go.Proofs.YtpmanmoljlhogaaGreatDoor.ApIR
open Go.RowKit Go.Maps
attribute [local go_sem ↓] Go.wp_at_zero Go.wp_at_succ
/-- Of the other kinds the book has none. -/
structure Oth (w : World) (bk : Nat) : Prop where
  dTokens : w.cell? ⟨bk, 2, none⟩ = some (.slice none 0 0)
  dTexts : w.cell? ⟨bk, 4, none⟩ = some (.slice none 0 0)
  dBools : w.cell? ⟨bk, 6, none⟩ = some (.slice none 0 0)
  dSteps : w.cell? ⟨bk, 8, none⟩ = some (.slice none 0 0)
  dEdges : w.cell? ⟨bk, 10, none⟩ = some (.slice none 0 0)
  dNodes : w.cell? ⟨bk, 12, none⟩ = some (.slice none 0 0)
  dPairs : w.cell? ⟨bk, 14, none⟩ = some (.slice none 0 0)
  dLines : w.cell? ⟨bk, 18, none⟩ = some (.slice none 0 0)
  dWalks : w.cell? ⟨bk, 20, none⟩ = some (.slice none 0 0)
theorem Oth.block {w w' : World} {bk : Nat} (h : Oth w bk) (hb : w'.heap[bk]? = w.heap[bk]?) : Oth w' bk :=
  ⟨(World.cell?_of_block (a := ⟨bk, 2, none⟩) hb).trans h.dTokens, (World.cell?_of_block (a := ⟨bk, 4, none⟩) hb).trans h.dTexts, (World.cell?_of_block (a := ⟨bk, 6, none⟩) hb).trans h.dBools, (World.cell?_of_block (a := ⟨bk, 8, none⟩) hb).trans h.dSteps, (World.cell?_of_block (a := ⟨bk, 10, none⟩) hb).trans h.dEdges, (World.cell?_of_block (a := ⟨bk, 12, none⟩) hb).trans h.dNodes, (World.cell?_of_block (a := ⟨bk, 14, none⟩) hb).trans h.dPairs, (World.cell?_of_block (a := ⟨bk, 18, none⟩) hb).trans h.dLines, (World.cell?_of_block (a := ⟨bk, 20, none⟩) hb).trans h.dWalks⟩
theorem Oth.lt {w : World} {bk : Nat} (h : Oth w bk) : bk < w.heap.size := World.block_lt_of_cell? w _ h.dTokens
theorem Oth.below {w w' : World} {bk : Nat} (h : Oth w bk) (hb : Below w.heap.size w w') : Oth w' bk := h.block (hb.block bk h.lt)
theorem Oth.kept {F : Nat → Prop} {w w' : World} {bk : Nat} (h : Oth w bk) (hk : Kept F w w') (hF : ¬ F bk) : Oth w' bk := h.block (hk.block bk h.lt hF)
/-- Lists of unlike kinds lie apart. -/
structure Dis (w : World) (bk : Nat) (viInts : Value) (lsInts : List Value) (viRows : Value) (lsRows : List Value) : Prop where
  ltInts : ∀ b, LsF lsInts b → b < w.heap.size
  bkInts : ¬ LsF lsInts bk
  ltRows : ∀ b, LsF lsRows b → b < w.heap.size
  bkRows : ¬ LsF lsRows bk
  rIntsRows : ∀ b, viRows.ownBlock = some b → ¬ LsF lsInts b
  lIntsRows : ∀ b, LsF lsRows b → ¬ LsF lsInts b
  rRowsInts : ∀ b, viInts.ownBlock = some b → ¬ LsF lsRows b
  lRowsInts : ∀ b, LsF lsInts b → ¬ LsF lsRows b
theorem dis_of {w : World} {bk : Nat} {viInts vwInts : Value} {lsInts wsInts : List Value} {zssInts : List (List Int)} {viRows vwRows : Value} {lsRows wsRows : List Value} {zssRows : List (List BRows.El)} (hInts : Bs w bk viInts vwInts lsInts wsInts zssInts) (hRows : BRows.Bs w bk viRows vwRows lsRows wsRows zssRows) (hXRows : ∀ b, viInts.ownBlock = some b → ¬ LsF lsRows b) : Dis w bk viInts lsInts viRows lsRows :=
  ⟨fun _ hb => BInts.Bp.lsf_lt hInts.p hb, BInts.Bp.far_bk hInts.p, fun _ hb => BRows.Bp.lsf_lt hRows.p hb, BRows.Bp.far_bk hRows.p, fun _ hb => BInts.Bp.far_of hInts.p hRows.p.ri (by decide) hb, fun _ hb => by obtain ⟨_, _, _, _, ho, hob⟩ := BRows.Bp.typed hRows.p hb; exact BInts.Bp.far_of hInts.p ho (by decide) hob, hXRows, fun _ hb => by obtain ⟨_, _, _, _, ho, hob⟩ := BInts.Bp.typed hInts.p hb; exact BRows.Bp.far_of hRows.p ho (by decide) hob⟩
set_option maxRecDepth 100000 in
set_option maxHeartbeats 16000000 in
theorem apart_any (bk : Nat) (viInts vwInts : Value) (lsInts wsInts : List Value) (zssInts : List (List Int)) (viRows vwRows : Value) (lsRows wsRows : List Value) (zssRows : List (List BRows.El)) (w : World) (hInts : Bs w bk viInts vwInts lsInts wsInts zssInts) (hRows : BRows.Bs w bk viRows vwRows lsRows wsRows zssRows) (hXRows : ∀ b, viInts.ownBlock = some b → ¬ LsF lsRows b) (hRRows : BRows.Rd w zssRows) (ho : Oth w bk) :
    Calls Tryz.prog 16 #[.pointer (some ⟨bk, 0, none⟩)] w fun r w' => r = .returned (.bool true) ∧ Kept (fun b => LsF lsInts b ∨ LsF lsRows b) w w' := by
  have HD : Hid _ := And.intro (dis_of hInts hRows hXRows) (And.intro (And.intro hInts.p.len hInts.p.sz) (And.intro hRows.p.len hRows.p.sz))
  have S0 : Hid _ := And.intro (hInts) (And.intro (And.intro hRows hRRows) (And.intro (ho) (Kept.refl (fun b => LsF lsInts b ∨ LsF lsRows b) w)))
  clear hInts hRows hRRows hXRows ho
  go_enter Tryz.func16, Tryz.ntmps16
  go_wp2_with (first
    | (go_at_call 38; refine (still_any bk viInts vwInts lsInts wsInts zssInts _ (S0.out.1)).mono ?_; rintro r1 ws1 ⟨rfl, hb⟩; have S1 : Hid _ := And.intro ((S0.out.1).below hb) (And.intro (And.intro ((S0.out.2.1).1.below hb) ((S0.out.2.1).2.below hb)) (And.intro ((S0.out.2.2.1).below hb) ((S0.out.2.2.2).trans (Kept.of_below hb)))); clear hb S0)
    | (go_at_call 39; refine (stillTokens_nil bk _ (S1.out.2.2.1).dTokens).mono ?_; rintro r9 w9 ⟨rfl, hw⟩; obtain rfl := hw.symm; clear hw)
    | (go_at_call 40; refine (stillTexts_nil bk _ (S1.out.2.2.1).dTexts).mono ?_; rintro r9 w9 ⟨rfl, hw⟩; obtain rfl := hw.symm; clear hw)
    | (go_at_call 41; refine (stillBools_nil bk _ (S1.out.2.2.1).dBools).mono ?_; rintro r9 w9 ⟨rfl, hw⟩; obtain rfl := hw.symm; clear hw)
    | (go_at_call 42; refine (stillSteps_nil bk _ (S1.out.2.2.1).dSteps).mono ?_; rintro r9 w9 ⟨rfl, hw⟩; obtain rfl := hw.symm; clear hw)
    | (go_at_call 43; refine (stillEdges_nil bk _ (S1.out.2.2.1).dEdges).mono ?_; rintro r9 w9 ⟨rfl, hw⟩; obtain rfl := hw.symm; clear hw)
    | (go_at_call 44; refine (stillNodes_nil bk _ (S1.out.2.2.1).dNodes).mono ?_; rintro r9 w9 ⟨rfl, hw⟩; obtain rfl := hw.symm; clear hw)
    | (go_at_call 45; refine (stillPairs_nil bk _ (S1.out.2.2.1).dPairs).mono ?_; rintro r9 w9 ⟨rfl, hw⟩; obtain rfl := hw.symm; clear hw)
    | (go_at_call 46; refine (BRows.still_any bk viRows vwRows lsRows wsRows zssRows _ (S1.out.2.1).1 (S1.out.2.1).2).mono ?_; rintro r1 ws2 ⟨rfl, hb⟩; have S2 : Hid _ := And.intro ((S1.out.1).below hb) (And.intro (And.intro ((S1.out.2.1).1.below hb) ((S1.out.2.1).2.below hb)) (And.intro ((S1.out.2.2.1).below hb) ((S1.out.2.2.2).trans (Kept.of_below hb)))); clear hb S1)
    | (go_at_call 47; refine (stillLines_nil bk _ (S2.out.2.2.1).dLines).mono ?_; rintro r9 w9 ⟨rfl, hw⟩; obtain rfl := hw.symm; clear hw)
    | (go_at_call 48; refine (stillWalks_nil bk _ (S2.out.2.2.1).dWalks).mono ?_; rintro r9 w9 ⟨rfl, hw⟩; obtain rfl := hw.symm; clear hw)
    | (go_at_call 49; refine (putI_any bk viInts lsInts zssInts _ (S2.out.1.p)).mono ?_; rintro r2 wp1 ⟨rfl, hp, hk⟩; have P1 : Hid _ := And.intro (hp) (And.intro (And.intro (BRows.Bp.keep (S2.out.2.1.1.p) hk HD.out.1.bkInts HD.out.1.rIntsRows HD.out.1.lIntsRows) True.intro) (And.intro ((S2.out.2.2.1).kept hk HD.out.1.bkInts) ((S2.out.2.2.2).trans (hk.mono fun _ _ hb => (.inl hb))))); clear hp hk S2)
    | (go_at_call 50; refine (putTokens_nil bk _ (P1.out.2.2.1).dTokens).mono ?_; rintro r9 w9 ⟨rfl, hw⟩; obtain rfl := hw.symm; clear hw)
    | (go_at_call 51; refine (putTexts_nil bk _ (P1.out.2.2.1).dTexts).mono ?_; rintro r9 w9 ⟨rfl, hw⟩; obtain rfl := hw.symm; clear hw)
    | (go_at_call 52; refine (putBools_nil bk _ (P1.out.2.2.1).dBools).mono ?_; rintro r9 w9 ⟨rfl, hw⟩; obtain rfl := hw.symm; clear hw)
    | (go_at_call 53; refine (putSteps_nil bk _ (P1.out.2.2.1).dSteps).mono ?_; rintro r9 w9 ⟨rfl, hw⟩; obtain rfl := hw.symm; clear hw)
    | (go_at_call 54; refine (putEdges_nil bk _ (P1.out.2.2.1).dEdges).mono ?_; rintro r9 w9 ⟨rfl, hw⟩; obtain rfl := hw.symm; clear hw)
    | (go_at_call 55; refine (putNodes_nil bk _ (P1.out.2.2.1).dNodes).mono ?_; rintro r9 w9 ⟨rfl, hw⟩; obtain rfl := hw.symm; clear hw)
    | (go_at_call 56; refine (putPairs_nil bk _ (P1.out.2.2.1).dPairs).mono ?_; rintro r9 w9 ⟨rfl, hw⟩; obtain rfl := hw.symm; clear hw)
    | (go_at_call 57; refine (BRows.putI_any bk viRows lsRows zssRows _ (P1.out.2.1.1)).mono ?_; rintro r2 wp2 ⟨rfl, mssRows, hp, hmk, hk⟩; have P2 : Hid _ := And.intro (BInts.Bp.keep (P1.out.1) hk HD.out.1.bkRows HD.out.1.rRowsInts HD.out.1.lRowsInts) (And.intro (And.intro hp (hmk.base (P1.out.2.2.2).size)) (And.intro ((P1.out.2.2.1).kept hk HD.out.1.bkRows) ((P1.out.2.2.2).trans (hk.mono fun _ _ hb => (.inr (hb)))))); clear hp hk hmk P1)
    | (go_at_call 58; refine (putLines_nil bk _ (P2.out.2.2.1).dLines).mono ?_; rintro r9 w9 ⟨rfl, hw⟩; obtain rfl := hw.symm; clear hw)
    | (go_at_call 59; refine (putWalks_nil bk _ (P2.out.2.2.1).dWalks).mono ?_; rintro r9 w9 ⟨rfl, hw⟩; obtain rfl := hw.symm; clear hw)
    | (go_at_call 60; refine (growI_any bk viInts lsInts (allM zssInts) _ (P2.out.1)).mono ?_; rintro r3 wg1 ⟨voInts, osInts, rfl, hG⟩; have hM := And.intro (BInts.gr_marked hG) (And.intro hG.c0 (P2.out.2.2.2).size); have G1 : Hid _ := And.intro (hM) (And.intro (And.intro (BRows.Bp.keep (P2.out.2.1).1 hG.kp HD.out.1.bkInts HD.out.1.rIntsRows HD.out.1.lIntsRows) ((P2.out.2.1).2.up hG.kp (fun g _ hg _ hf => by have := HD.out.1.ltInts g hf; omega))) (And.intro ((P2.out.2.2.1).kept hG.kp HD.out.1.bkInts) ((P2.out.2.2.2).trans (hG.kp.mono fun _ _ hb => (.inl hb))))); clear hM hG P2)
    | (go_at_call 61; refine (growTokens_nil bk _ (G1.out.2.2.1).dTokens).mono ?_; rintro r9 w9 ⟨rfl, hw⟩; obtain rfl := hw.symm; clear hw)
    | (go_at_call 62; refine (growTexts_nil bk _ (G1.out.2.2.1).dTexts).mono ?_; rintro r9 w9 ⟨rfl, hw⟩; obtain rfl := hw.symm; clear hw)
    | (go_at_call 63; refine (growBools_nil bk _ (G1.out.2.2.1).dBools).mono ?_; rintro r9 w9 ⟨rfl, hw⟩; obtain rfl := hw.symm; clear hw)
    | (go_at_call 64; refine (growSteps_nil bk _ (G1.out.2.2.1).dSteps).mono ?_; rintro r9 w9 ⟨rfl, hw⟩; obtain rfl := hw.symm; clear hw)
    | (go_at_call 65; refine (growEdges_nil bk _ (G1.out.2.2.1).dEdges).mono ?_; rintro r9 w9 ⟨rfl, hw⟩; obtain rfl := hw.symm; clear hw)
    | (go_at_call 66; refine (growNodes_nil bk _ (G1.out.2.2.1).dNodes).mono ?_; rintro r9 w9 ⟨rfl, hw⟩; obtain rfl := hw.symm; clear hw)
    | (go_at_call 67; refine (growPairs_nil bk _ (G1.out.2.2.1).dPairs).mono ?_; rintro r9 w9 ⟨rfl, hw⟩; obtain rfl := hw.symm; clear hw)
    | (go_at_call 68; refine (BRows.growI_any bk viRows lsRows mssRows _ (G1.out.2.1).1).mono ?_; rintro r3 wg2 ⟨voRows, osRows, rfl, hG⟩; have hM := And.intro (BRows.gr_marked hG (G1.out.2.1).1 (G1.out.2.1).2 (G1.out.2.2.2).size) (And.intro hG.c0 (G1.out.2.2.2).size); have G2 : Hid _ := And.intro (And.intro (And.intro ((G1.out.1).1.1.kept hG.kp (fun b hb hg => hb.elim (fun e => HD.out.1.lRowsInts b e hg) (fun e => e.elim (fun e => HD.out.1.rRowsInts b e hg) (fun e => by have := HD.out.1.ltRows b hg; have := (G1.out.1).2.2; omega)))) ((G1.out.1).1.2.kept hG.kp (fun b hb hg => hb.elim (fun e => HD.out.1.lRowsInts b e hg) (fun e => e.elim (fun e => HD.out.1.rRowsInts b e hg) (fun e => by have := HD.out.1.ltRows b hg; have := (G1.out.1).2.2; omega))))) (And.intro ((World.cell?_of_block (a := ⟨bk, 0, none⟩) (hG.kp.block bk (G1.out.2.2.1).lt HD.out.1.bkRows)).trans (G1.out.1).2.1) (G1.out.1).2.2)) (And.intro (hM) (And.intro ((G1.out.2.2.1).kept hG.kp HD.out.1.bkRows) ((G1.out.2.2.2).trans (hG.kp.mono fun _ _ hb => (.inr (hb)))))); clear hM hG G1)
    | (go_at_call 69; refine (growLines_nil bk _ (G2.out.2.2.1).dLines).mono ?_; rintro r9 w9 ⟨rfl, hw⟩; obtain rfl := hw.symm; clear hw)
    | (go_at_call 70; refine (growWalks_nil bk _ (G2.out.2.2.1).dWalks).mono ?_; rintro r9 w9 ⟨rfl, hw⟩; obtain rfl := hw.symm; clear hw)
    | fail)
  refine (markedI_any voInts (zssInts.map fun z => z.length + 96) _ (G2.out.1).1.1.mr (by rw [List.length_map]; exact HD.out.2.1.1) (fun n hn => by obtain ⟨z, hz, rfl⟩ := List.mem_map.1 hn; have := HD.out.2.1.2 z hz; omega)).mono ?_
  rintro r4 wm1 ⟨rfl, hb⟩
  have M1 : Hid _ := And.intro (And.intro (And.intro ((G2.out.1).1.1.below hb) ((G2.out.1).1.2.below hb)) (And.intro (cell_up (G2.out.1).2.1 hb) (G2.out.1).2.2)) (And.intro (And.intro (And.intro ((G2.out.2.1).1.1.below hb) ((G2.out.2.1).1.2.below hb)) (And.intro (cell_up (G2.out.2.1).2.1 hb) (G2.out.2.1).2.2)) (And.intro ((G2.out.2.2.1).below hb) ((G2.out.2.2.2).trans (Kept.of_below hb))))
  clear hb G2
  have cInts := (M1.out.1).2.1
  go_wp2_with fail
  clear cInts
  refine (markedI_any viInts (zssInts.map List.length) _ (M1.out.1).1.2.mr (by rw [List.length_map]; exact HD.out.2.1.1) (fun n hn => by obtain ⟨z, hz, rfl⟩ := List.mem_map.1 hn; have := HD.out.2.1.2 z hz; omega)).mono ?_
  rintro r4 wm2 ⟨rfl, hb⟩
  have M2 : Hid _ := And.intro (And.intro (And.intro ((M1.out.1).1.1.below hb) ((M1.out.1).1.2.below hb)) (And.intro (cell_up (M1.out.1).2.1 hb) (M1.out.1).2.2)) (And.intro (And.intro (And.intro ((M1.out.2.1).1.1.below hb) ((M1.out.2.1).1.2.below hb)) (And.intro (cell_up (M1.out.2.1).2.1 hb) (M1.out.2.1).2.2)) (And.intro ((M1.out.2.2.1).below hb) ((M1.out.2.2.2).trans (Kept.of_below hb))))
  clear hb M1
  obtain ⟨dTokens, dTexts, dBools, dSteps, dEdges, dNodes, dPairs, dLines, dWalks⟩ := M2.out.2.2.1
  go_wp2_with (first
    | (go_at_call 72; refine (markedTokens_nil _).mono ?_; rintro r9 w9 ⟨rfl, hw⟩; obtain rfl := hw.symm; clear hw)
    | (go_at_call 73; refine (markedTexts_nil _).mono ?_; rintro r9 w9 ⟨rfl, hw⟩; obtain rfl := hw.symm; clear hw)
    | (go_at_call 74; refine (markedBools_nil _).mono ?_; rintro r9 w9 ⟨rfl, hw⟩; obtain rfl := hw.symm; clear hw)
    | (go_at_call 75; refine (markedSteps_nil _).mono ?_; rintro r9 w9 ⟨rfl, hw⟩; obtain rfl := hw.symm; clear hw)
    | (go_at_call 76; refine (markedEdges_nil _).mono ?_; rintro r9 w9 ⟨rfl, hw⟩; obtain rfl := hw.symm; clear hw)
    | (go_at_call 77; refine (markedNodes_nil _).mono ?_; rintro r9 w9 ⟨rfl, hw⟩; obtain rfl := hw.symm; clear hw)
    | (go_at_call 78; refine (markedPairs_nil _).mono ?_; rintro r9 w9 ⟨rfl, hw⟩; obtain rfl := hw.symm; clear hw)
    | (go_at_call 80; refine (markedLines_nil _).mono ?_; rintro r9 w9 ⟨rfl, hw⟩; obtain rfl := hw.symm; clear hw)
    | (go_at_call 81; refine (markedWalks_nil _).mono ?_; rintro r9 w9 ⟨rfl, hw⟩; obtain rfl := hw.symm; clear hw)
    | fail)
  clear dTokens dTexts dBools dSteps dEdges dNodes dPairs dLines dWalks
  refine (BRows.markedI_any voRows (zssRows.map fun z => z.length + 96) _ (M2.out.2.1).1.1.mr (by rw [List.length_map]; exact HD.out.2.2.1) (fun n hn => by obtain ⟨z, hz, rfl⟩ := List.mem_map.1 hn; have := HD.out.2.2.2 z hz; omega)).mono ?_
  rintro r4 wm3 ⟨rfl, hb⟩
  have M3 : Hid _ := And.intro (And.intro (And.intro ((M2.out.1).1.1.below hb) ((M2.out.1).1.2.below hb)) (And.intro (cell_up (M2.out.1).2.1 hb) (M2.out.1).2.2)) (And.intro (And.intro (And.intro ((M2.out.2.1).1.1.below hb) ((M2.out.2.1).1.2.below hb)) (And.intro (cell_up (M2.out.2.1).2.1 hb) (M2.out.2.1).2.2)) (And.intro ((M2.out.2.2.1).below hb) ((M2.out.2.2.2).trans (Kept.of_below hb))))
  clear hb M2
  have cRows := (M3.out.2.1).2.1
  go_wp2_with fail
  clear cRows
  refine (BRows.markedI_any viRows (zssRows.map List.length) _ (M3.out.2.1).1.2.mr (by rw [List.length_map]; exact HD.out.2.2.1) (fun n hn => by obtain ⟨z, hz, rfl⟩ := List.mem_map.1 hn; have := HD.out.2.2.2 z hz; omega)).mono ?_
  rintro r4 wm4 ⟨rfl, hb⟩
  have M4 : Hid _ := And.intro (And.intro (And.intro ((M3.out.1).1.1.below hb) ((M3.out.1).1.2.below hb)) (And.intro (cell_up (M3.out.1).2.1 hb) (M3.out.1).2.2)) (And.intro (And.intro (And.intro ((M3.out.2.1).1.1.below hb) ((M3.out.2.1).1.2.below hb)) (And.intro (cell_up (M3.out.2.1).2.1 hb) (M3.out.2.1).2.2)) (And.intro ((M3.out.2.2.1).below hb) ((M3.out.2.2.2).trans (Kept.of_below hb))))
  clear hb M3
  obtain ⟨dTokens, dTexts, dBools, dSteps, dEdges, dNodes, dPairs, dLines, dWalks⟩ := M4.out.2.2.1
  go_wp2_with (first
    | (go_at_call 72; refine (markedTokens_nil _).mono ?_; rintro r9 w9 ⟨rfl, hw⟩; obtain rfl := hw.symm; clear hw)
    | (go_at_call 73; refine (markedTexts_nil _).mono ?_; rintro r9 w9 ⟨rfl, hw⟩; obtain rfl := hw.symm; clear hw)
    | (go_at_call 74; refine (markedBools_nil _).mono ?_; rintro r9 w9 ⟨rfl, hw⟩; obtain rfl := hw.symm; clear hw)
    | (go_at_call 75; refine (markedSteps_nil _).mono ?_; rintro r9 w9 ⟨rfl, hw⟩; obtain rfl := hw.symm; clear hw)
    | (go_at_call 76; refine (markedEdges_nil _).mono ?_; rintro r9 w9 ⟨rfl, hw⟩; obtain rfl := hw.symm; clear hw)
    | (go_at_call 77; refine (markedNodes_nil _).mono ?_; rintro r9 w9 ⟨rfl, hw⟩; obtain rfl := hw.symm; clear hw)
    | (go_at_call 78; refine (markedPairs_nil _).mono ?_; rintro r9 w9 ⟨rfl, hw⟩; obtain rfl := hw.symm; clear hw)
    | (go_at_call 80; refine (markedLines_nil _).mono ?_; rintro r9 w9 ⟨rfl, hw⟩; obtain rfl := hw.symm; clear hw)
    | (go_at_call 81; refine (markedWalks_nil _).mono ?_; rintro r9 w9 ⟨rfl, hw⟩; obtain rfl := hw.symm; clear hw)
    | fail)
  go_ret
  exact ⟨rfl, M4.out.2.2.2⟩
end Go.Proofs.YtpmanmoljlhogaaGreatDoor.ApIR
/- A book with lists of these kinds, made since a world: what stands while it takes lists: Ints, Rows. (Written by mkwb.py.) -/
namespace Go.Proofs.YtpmanmoljlhogaaGreatDoor.WIR
open Go.RowKit Go.Maps
attribute [local go_sem ↓] Go.wp_at_zero Go.wp_at_succ
def bookZ : Array Value := Array.replicate 22 (.slice none 0 0)
/-- The book. P: where its lists lie; X: blocks that no row of the kind within uses. -/
structure St (wB wr : World) (PInts PRows XRows : Nat → Prop) (vInts uInts : Value) (lInts mInts : List Value) (zInts : List (List Int)) (vRows uRows : Value) (lRows mRows : List Value) (zRows : List (List BRows.El)) : Prop where
  bInts : Bs wr wB.heap.size vInts uInts lInts mInts zInts
  bRows : BRows.Bs wr wB.heap.size vRows uRows lRows mRows zRows
  roRows : ∀ us ∈ zRows, ∀ z ∈ us, ∃ zs, zs.length ≤ 1000000 ∧ OwnI wr 0 (BRows.sl z) zs
  ot : ApIR.Oth wr wB.heap.size
  bw : Below wB.heap.size wB wr
  rInts : ∀ b, (vInts.ownBlock = some b ∨ uInts.ownBlock = some b) → wB.heap.size ≤ b
  hInts : ∀ l ∈ lInts, ∀ b, l.ownBlock = some b → wB.heap.size ≤ b ∧ PInts b
  rRows : ∀ b, (vRows.ownBlock = some b ∨ uRows.ownBlock = some b) → wB.heap.size ≤ b
  hRows : ∀ l ∈ lRows, ∀ b, l.ownBlock = some b → wB.heap.size ≤ b ∧ PRows b
  xRows : ∀ b, XRows b → b < wr.heap.size ∧ vInts.ownBlock ≠ some b ∧ uInts.ownBlock ≠ some b
  xlRows : ∀ l, (l ∈ lRows ∨ l ∈ mRows) → ∀ b, l.ownBlock = some b → XRows b
def E (wB wr : World) (PInts PRows XRows : Nat → Prop) : Prop := ∃ vInts uInts lInts mInts zInts vRows uRows lRows mRows zRows, St wB wr PInts PRows XRows vInts uInts lInts mInts zInts vRows uRows lRows mRows zRows
theorem E.mono {wB wr : World} {PInts PRows XRows : Nat → Prop} {PInts' PRows' : Nat → Prop} (h : E wB wr PInts PRows XRows) (qInts : ∀ b, b < wr.heap.size → PInts b → PInts' b) (qRows : ∀ b, b < wr.heap.size → PRows b → PRows' b) : E wB wr PInts' PRows' XRows := by
  obtain ⟨vInts, uInts, lInts, mInts, zInts, vRows, uRows, lRows, mRows, zRows, h⟩ := h
  exact ⟨vInts, uInts, lInts, mInts, zInts, vRows, uRows, lRows, mRows, zRows, h.bInts, h.bRows, h.roRows, h.ot, h.bw, h.rInts, fun l hl b hb => ⟨(h.hInts l hl b hb).1, qInts b (BInts.Bp.lsf_lt h.bInts.p ⟨l, hl, hb⟩) (h.hInts l hl b hb).2⟩, h.rRows, fun l hl b hb => ⟨(h.hRows l hl b hb).1, qRows b (BRows.Bp.lsf_lt h.bRows.p ⟨l, hl, hb⟩) (h.hRows l hl b hb).2⟩, h.xRows, h.xlRows⟩
theorem E.below {wB wr w' : World} {PInts PRows XRows : Nat → Prop} (h : E wB wr PInts PRows XRows) (hb : Below wr.heap.size wr w') : E wB w' PInts PRows XRows := by
  obtain ⟨vInts, uInts, lInts, mInts, zInts, vRows, uRows, lRows, mRows, zRows, h⟩ := h
  exact ⟨vInts, uInts, lInts, mInts, zInts, vRows, uRows, lRows, mRows, zRows, h.bInts.below hb, h.bRows.below hb, fun us hu z hz => by obtain ⟨zs, h1, h2⟩ := h.roRows us hu z hz; exact ⟨zs, h1, trow_at h2 fun i hi => hb.block i (h2.lt i hi).2⟩, h.ot.below hb, h.bw.trans (hb.mono h.bw.size), h.rInts, h.hInts, h.rRows, h.hRows, fun b hx => ⟨by have := (h.xRows b hx).1; have := hb.size; omega, (h.xRows b hx).2⟩, h.xlRows⟩
theorem E.bw {wB wr : World} {PInts PRows XRows : Nat → Prop} (h : E wB wr PInts PRows XRows) : Below wB.heap.size wB wr := by
  obtain ⟨vInts, uInts, lInts, mInts, zInts, vRows, uRows, lRows, mRows, zRows, h⟩ := h
  exact h.bw
/-- Blocks that came since are none that the book's rows use. -/
theorem E.moreRows {wB wr w' : World} {PInts PRows XRows : Nat → Prop} (h : E wB wr PInts PRows XRows) (hb : Below wr.heap.size wr w') {Y : Nat → Prop} (hY : ∀ b, Y b → wr.heap.size ≤ b ∧ b < w'.heap.size) : E wB w' PInts PRows (fun b => XRows b ∨ Y b) := by
  obtain ⟨vInts, uInts, lInts, mInts, zInts, vRows, uRows, lRows, mRows, zRows, h⟩ := h
  exact ⟨vInts, uInts, lInts, mInts, zInts, vRows, uRows, lRows, mRows, zRows, h.bInts.below hb, h.bRows.below hb, fun us hu z hz => by obtain ⟨zs, h1, h2⟩ := h.roRows us hu z hz; exact ⟨zs, h1, trow_at h2 fun i hi => hb.block i (h2.lt i hi).2⟩, h.ot.below hb, h.bw.trans (hb.mono h.bw.size), h.rInts, h.hInts, h.rRows, h.hRows, fun b hx => hx.elim (fun hx => ⟨by have := (h.xRows b hx).1; have := hb.size; omega, (h.xRows b hx).2⟩) (fun hx => ⟨(hY b hx).2, fun e => by have := (h.bInts.p.ri.lt b e).2; have := (hY b hx).1; omega, fun e => by have := (h.bInts.rw.lt b e).2; have := (hY b hx).1; omega⟩), fun l hl b hb => .inl (h.xlRows l hl b hb)⟩
theorem new (wB : World) : E wB (wB.alloc (.cells bookZ 40)) (fun _ => False) (fun _ => False) (fun _ => False) := by
  have h := (MapKept.heap_alloc wB (.cells bookZ 40)).1
  have hc : ∀ k, k < 22 → (wB.alloc (.cells bookZ 40)).cell? ⟨wB.heap.size, k, none⟩ = some (.slice none 0 0) := fun k hk => by
    have h2 : bookZ[k]? = some (.slice none 0 0) := by unfold bookZ; rw [Array.getElem?_replicate, if_pos hk]
    exact cell0_of h h2
  exact ⟨.slice none 0 0, .slice none 0 0, [], [], [], .slice none 0 0, .slice none 0 0, [], [], [], ⟨⟨hc _ (by omega), World.ownsRow_nil _ _ _ _, fun k l zs h1 => by simp at h1, ⟨fun l hl => by simp at hl, fun l hl => by simp at hl, by simp [Value.ownBlock], fun i j l m hl => by simp at hl⟩, by simp, fun zs h => by simp at h⟩, hc _ (by omega), World.ownsRow_nil _ _ _ _, fun k l zs h1 => by simp at h1, ⟨_, h, by unfold bookZ; simp⟩, fun k hk => by simp [Value.ownBlock] at hk⟩, ⟨⟨hc _ (by omega), World.ownsRow_nil _ _ _ _, fun k l zs h1 => by simp at h1, ⟨fun l hl => by simp at hl, fun l hl => by simp at hl, by simp [Value.ownBlock], fun i j l m hl => by simp at hl⟩, by simp, fun zs h => by simp at h⟩, hc _ (by omega), World.ownsRow_nil _ _ _ _, fun k l zs h1 => by simp at h1, ⟨_, h, by unfold bookZ; simp⟩, fun k hk => by simp [Value.ownBlock] at hk⟩, fun us hu => by simp at hu, ⟨hc _ (by omega), hc _ (by omega), hc _ (by omega), hc _ (by omega), hc _ (by omega), hc _ (by omega), hc _ (by omega), hc _ (by omega), hc _ (by omega)⟩, (Below.refl _ _).alloc (Nat.le_refl _) _, fun b hb => by simp [Value.ownBlock] at hb, fun l hl => by simp at hl, fun b hb => by simp [Value.ownBlock] at hb, fun l hl => by simp at hl, fun b hb => hb.elim, fun l hl => by simp at hl⟩
/-- Blocks of other types stand, and those of X. -/
def Fr (XRows : Nat → Prop) (w w' : World) : Prop := w.heap.size ≤ w'.heap.size ∧ ∀ (g : Nat) (cs : Array Value) (t : TypeId), w.heap[g]? = some (.cells cs t (0, 0)) → 40 ≠ t → (57 ≠ t ∨ XRows g) → 28 ≠ t → w'.heap[g]? = some (.cells cs t (0, 0))
theorem Fr.refl (XRows : Nat → Prop) (w : World) : Fr XRows w w := ⟨Nat.le_refl _, fun _ _ _ h _ _ _ => h⟩
theorem Fr.trans {XRows : Nat → Prop} {a b c : World} (h : Fr XRows a b) (k : Fr XRows b c) : Fr XRows a c := ⟨Nat.le_trans h.1 k.1, fun g cs t hg c0 c1 c2 => k.2 g cs t (h.2 g cs t hg c0 c1 c2) c0 c1 c2⟩
theorem Fr.of_below {XRows : Nat → Prop} {a b : World} (h : Below a.heap.size a b) : Fr XRows a b := ⟨h.size, fun g _ _ hg _ _ _ => (h.block g (t_lt hg)).trans hg⟩
theorem Fr.own {XRows : Nat → Prop} {w w' : World} (h : Fr XRows w w') {B : Nat} {e : TypeId} {sz : Nat} {v : Value} {n : Nat} {xs : List Value} (ho : w.ownsRow B e sz v n xs) (hc : ∀ b, v.ownBlock = some b → 40 ≠ e ∧ (57 ≠ e ∨ XRows b) ∧ 28 ≠ e) : w'.ownsRow B e sz v n xs := trow_at ho fun i hi => by
  obtain ⟨c, hr⟩ := row_cells ho hi
  obtain ⟨c0, c1, c2⟩ := hc i hi
  rw [hr]; exact h.2 i c _ hr c0 c1 c2
theorem Fr.ownInts {XRows : Nat → Prop} {w w' : World} (h : Fr XRows w w') {B : Nat} {v : Value} {n : Nat} {xs : List Value} (ho : w.ownsRow B 3 1 v n xs) : w'.ownsRow B 3 1 v n xs := h.own ho fun _ _ => ⟨by decide, .inl (by decide), by decide⟩
theorem Fr.ownTokens {XRows : Nat → Prop} {w w' : World} (h : Fr XRows w w') {B : Nat} {v : Value} {n : Nat} {xs : List Value} (ho : w.ownsRow B 140 4 v n xs) : w'.ownsRow B 140 4 v n xs := h.own ho fun _ _ => ⟨by decide, .inl (by decide), by decide⟩
theorem Fr.ownTexts {XRows : Nat → Prop} {w w' : World} (h : Fr XRows w w') {B : Nat} {v : Value} {n : Nat} {xs : List Value} (ho : w.ownsRow B 9 1 v n xs) : w'.ownsRow B 9 1 v n xs := h.own ho fun _ _ => ⟨by decide, .inl (by decide), by decide⟩
theorem Fr.ownBools {XRows : Nat → Prop} {w w' : World} (h : Fr XRows w w') {B : Nat} {v : Value} {n : Nat} {xs : List Value} (ho : w.ownsRow B 4 1 v n xs) : w'.ownsRow B 4 1 v n xs := h.own ho fun _ _ => ⟨by decide, .inl (by decide), by decide⟩
theorem Fr.ownSteps {XRows : Nat → Prop} {w w' : World} (h : Fr XRows w w') {B : Nat} {v : Value} {n : Nat} {xs : List Value} (ho : w.ownsRow B 116 2 v n xs) : w'.ownsRow B 116 2 v n xs := h.own ho fun _ _ => ⟨by decide, .inl (by decide), by decide⟩
theorem Fr.ownEdges {XRows : Nat → Prop} {w w' : World} (h : Fr XRows w w') {B : Nat} {v : Value} {n : Nat} {xs : List Value} (ho : w.ownsRow B 66 3 v n xs) : w'.ownsRow B 66 3 v n xs := h.own ho fun _ _ => ⟨by decide, .inl (by decide), by decide⟩
theorem Fr.ownNodes {XRows : Nat → Prop} {w w' : World} (h : Fr XRows w w') {B : Nat} {v : Value} {n : Nat} {xs : List Value} (ho : w.ownsRow B 147 2 v n xs) : w'.ownsRow B 147 2 v n xs := h.own ho fun _ _ => ⟨by decide, .inl (by decide), by decide⟩
theorem Fr.ownPairs {XRows : Nat → Prop} {w w' : World} (h : Fr XRows w w') {B : Nat} {v : Value} {n : Nat} {xs : List Value} (ho : w.ownsRow B 150 2 v n xs) : w'.ownsRow B 150 2 v n xs := h.own ho fun _ _ => ⟨by decide, .inl (by decide), by decide⟩
theorem typed_bk {w : World} {bk g : Nat} {cs cs' : Array Value} {t u : TypeId} (h : w.heap[bk]? = some (.cells cs u (0, 0))) (hg : w.heap[g]? = some (.cells cs' t (0, 0))) (hne : u ≠ t) : g ≠ bk := fun e => by
  subst e
  rw [h] at hg
  injection hg with e
  injection e with _ e
  exact hne e
/-- One more list of Ints. -/
theorem E.addInts {wB wr : World} {PInts PRows XRows : Nat → Prop} (h : E wB wr PInts PRows XRows) (v : Value) (zs : List Int) (B : Nat) (hO : OwnI wr B v zs) (hB : wB.heap.size ≤ B) (hv : ∀ b, v.ownBlock = some b → ¬ PInts b) (hsz : zs.length ≤ 1000000) :
    Calls Tryz.prog 36 #[.pointer (some ⟨wB.heap.size, 0, none⟩), v] wr fun r w' => r = .returned (.tuple #[]) ∧ (E wB w' (fun b => PInts b ∨ v.ownBlock = some b) PRows XRows) ∧ Fr XRows wr w' := by
  obtain ⟨vInts, uInts, lInts, mInts, zInts, vRows, uRows, lRows, mRows, zRows, h⟩ := h
  have hO0 : OwnI wr 0 v zs := row_base hO (Nat.zero_le _)
  by_cases hlen : zInts.length < 400
  · refine (ints_any wB.heap.size vInts uInts v lInts mInts zInts zs wr h.bInts hO0 (fun l hl q hq e => hv q e (h.hInts l hl q hq).2) hlen hsz).mono ?_
    rintro r w' ⟨rfl, vi', vw', v1, hN⟩
    have hup : ∀ b, (b = wB.heap.size ∨ vInts.ownBlock = some b ∨ uInts.ownBlock = some b) → wB.heap.size ≤ b := fun b hb => by
      rcases hb with rfl | hb
      · exact Nat.le_refl _
      · exact h.rInts b hb
    obtain ⟨cs0, hc0, _⟩ := h.bInts.bt
    have hFr : Fr XRows wr w' := ⟨hN.k.size, fun g cs t hg c0 c1 _ => by
      refine (hN.k.block g (t_lt hg) fun hf => ?_).trans hg
      rcases hf with hf | hf | hf
      · exact typed_bk hc0 hg c0 hf
      · rcases c1 with c1 | c1
        · exact own_bk h.bInts.p.ri hg c1 hf
        · exact (h.xRows g c1).2.1 hf
      · rcases c1 with c1 | c1
        · exact own_bk h.bInts.rw hg c1 hf
        · exact (h.xRows g c1).2.2 hf⟩
    have hxF : ∀ l, (l ∈ lRows ∨ l ∈ mRows) → ∀ b, l.ownBlock = some b → ¬ (b = wB.heap.size ∨ vInts.ownBlock = some b ∨ uInts.ownBlock = some b) := fun l hl b hb hf => by
      have hx := h.xRows b (h.xlRows l hl b hb)
      rcases hf with rfl | hf | hf
      · rcases hl with hl | hl
        · obtain ⟨k, hk, rfl⟩ := List.getElem_of_mem hl
          have hz : zRows[k]? = some (zRows[k]'(by rw [← h.bRows.p.ll]; exact hk)) := List.getElem?_eq_getElem _
          exact own_bk (h.bRows.p.li k _ _ (List.getElem?_eq_getElem hk) hz) hc0 (by decide) hb
        · obtain ⟨k, hk, rfl⟩ := List.getElem_of_mem hl
          have hwl : mRows.length = zRows.length := by have := h.bRows.rw.1; rw [Nat.mul_one] at this; exact this
          have hz : zRows[k]? = some (zRows[k]'(by rw [← hwl]; exact hk)) := List.getElem?_eq_getElem _
          exact own_bk (h.bRows.lw k _ _ (List.getElem?_eq_getElem hk) hz) hc0 (by decide) hb
      · exact hx.2.1 hf
      · exact hx.2.2 hf
    exact ⟨rfl, ⟨vi', vw', _, _, _, vRows, uRows, lRows, mRows, zRows, hN.b, h.bRows.far hN.k (hN.o _ (by omega)) (hN.o _ (by omega)) hN.b.bt (fun b hb hf => by
        rcases hf with rfl | hf | hf
        · exact own_bk h.bRows.p.ri hc0 (by decide) hb
        · exact own_ne h.bRows.p.ri h.bInts.p.ri (by decide) b hb hf
        · exact own_ne h.bRows.p.ri h.bInts.rw (by decide) b hb hf) (fun b hb hf => by
        rcases hf with rfl | hf | hf
        · exact own_bk h.bRows.rw hc0 (by decide) hb
        · exact own_ne h.bRows.rw h.bInts.p.ri (by decide) b hb hf
        · exact own_ne h.bRows.rw h.bInts.rw (by decide) b hb hf) (fun l hl b hb => hxF l (.inl hl) b hb) (fun l hl b hb => hxF l (.inr hl) b hb), fun us hu z hz => by obtain ⟨ys, h1, h2⟩ := h.roRows us hu z hz; exact ⟨ys, h1, hFr.ownInts h2⟩, ⟨(hN.o _ (by omega)).trans h.ot.dTokens, (hN.o _ (by omega)).trans h.ot.dTexts, (hN.o _ (by omega)).trans h.ot.dBools, (hN.o _ (by omega)).trans h.ot.dSteps, (hN.o _ (by omega)).trans h.ot.dEdges, (hN.o _ (by omega)).trans h.ot.dNodes, (hN.o _ (by omega)).trans h.ot.dPairs, (hN.o _ (by omega)).trans h.ot.dLines, (hN.o _ (by omega)).trans h.ot.dWalks⟩, h.bw.trans (hN.k.below h.bw.size hup), fun b hb => by
        rcases hN.f b hb with e | e
        · exact h.rInts b e
        · have := h.bw.size; omega, fun l hl b hb => by
        rcases List.mem_append.1 hl with hl | hl
        · exact ⟨(h.hInts l hl b hb).1, .inl (h.hInts l hl b hb).2⟩
        · rw [List.mem_singleton.1 hl] at hb
          have := hO.lt b hb
          exact ⟨by omega, .inr hb⟩, h.rRows, h.hRows, fun b hx => ⟨by have := (h.xRows b hx).1; have := hN.k.size; omega, fun e => by
        rcases hN.f b (.inl e) with f | f
        · exact f.elim (h.xRows b hx).2.1 (h.xRows b hx).2.2
        · have := (h.xRows b hx).1; omega, fun e => by
        rcases hN.f b (.inr e) with f | f
        · exact f.elim (h.xRows b hx).2.1 (h.xRows b hx).2.2
        · have := (h.xRows b hx).1; omega⟩, h.xlRows⟩, hFr⟩
  · refine (ints_full wB.heap.size vInts uInts v lInts mInts zInts wr h.bInts hlen).mono ?_
    rintro r w' ⟨rfl, rfl⟩
    exact ⟨rfl, ⟨vInts, uInts, lInts, mInts, zInts, vRows, uRows, lRows, mRows, zRows, h.bInts, h.bRows, h.roRows, h.ot, h.bw, h.rInts, fun l hl b hb => ⟨(h.hInts l hl b hb).1, .inl (h.hInts l hl b hb).2⟩, h.rRows, h.hRows, h.xRows, h.xlRows⟩, Fr.refl _ _⟩
/-- One more list of Rows. -/
theorem E.addRows {wB wr : World} {PInts PRows XRows : Nat → Prop} (h : E wB wr PInts PRows XRows) (v : Value) (zs : List BRows.El) (B : Nat) (hO : BRows.Own wr B v zs) (hB : wB.heap.size ≤ B) (hv : ∀ b, v.ownBlock = some b → ¬ PRows b) (hsz : zs.length ≤ 1000000) (hx : ∀ b, v.ownBlock = some b → XRows b) (hr : ∀ z ∈ zs, ∃ ys, ys.length ≤ 1000000 ∧ OwnI wr 0 (BRows.sl z) ys) :
    Calls Tryz.prog 37 #[.pointer (some ⟨wB.heap.size, 0, none⟩), v] wr fun r w' => r = .returned (.tuple #[]) ∧ (∃ Y : Nat → Prop, E wB w' PInts (fun b => PRows b ∨ v.ownBlock = some b) (fun b => XRows b ∨ Y b)) ∧ Fr XRows wr w' := by
  obtain ⟨vInts, uInts, lInts, mInts, zInts, vRows, uRows, lRows, mRows, zRows, h⟩ := h
  have hO0 : BRows.Own wr 0 v zs := row_base hO (Nat.zero_le _)
  by_cases hlen : zRows.length < 400
  · refine (BRows.ints_any wB.heap.size vRows uRows v lRows mRows zRows zs wr h.bRows hO0 (fun l hl q hq e => hv q e (h.hRows l hl q hq).2) hlen hsz).mono ?_
    rintro r w' ⟨rfl, vi', vw', v1, hN⟩
    have hup : ∀ b, (b = wB.heap.size ∨ vRows.ownBlock = some b ∨ uRows.ownBlock = some b) → wB.heap.size ≤ b := fun b hb => by
      rcases hb with rfl | hb
      · exact Nat.le_refl _
      · exact h.rRows b hb
    obtain ⟨cs0, hc0, _⟩ := h.bRows.bt
    have hFr : Fr XRows wr w' := ⟨hN.k.size, fun g cs t hg c0 _ c2 => by
      refine (hN.k.block g (t_lt hg) fun hf => ?_).trans hg
      rcases hf with hf | hf | hf
      · exact typed_bk hc0 hg c0 hf
      · exact own_bk h.bRows.p.ri hg c2 hf
      · exact own_bk h.bRows.rw hg c2 hf⟩
    have hv1 : ∀ b, v1.ownBlock = some b → wr.heap.size ≤ b := hN.n
    have hv2 : ∀ b, v1.ownBlock = some b → b < w'.heap.size := fun b hb => by
      have hlw : mRows.length = zRows.length := by have := h.bRows.rw.1; rw [Nat.mul_one] at this; exact this
      exact ((hN.b.lw zRows.length v1 zs (by rw [List.getElem?_append_right (by omega), hlw, Nat.sub_self]; rfl) (by rw [List.getElem?_append_right (Nat.le_refl _), Nat.sub_self]; rfl)).lt b hb).2
    exact ⟨rfl, ⟨fun b => v1.ownBlock = some b, vInts, uInts, lInts, mInts, zInts, vi', vw', _, _, _, h.bInts.other hN.k (hN.o _ (by omega) (by omega)) (hN.o _ (by omega) (by omega)) hN.b.bt (fun b hb => by
        rcases hb with hb | hb | hb
        · exact .inl hb
        · exact .inr ⟨_, _, _, _, _, _, h.bRows.p.ri, hb, by decide, by decide⟩
        · exact .inr ⟨_, _, _, _, _, _, h.bRows.rw, hb, by decide, by decide⟩), hN.b, fun us hu z hz => by
        rcases List.mem_append.1 hu with hu | hu
        · obtain ⟨ys, h1, h2⟩ := h.roRows us hu z hz
          exact ⟨ys, h1, hFr.ownInts h2⟩
        · rw [List.mem_singleton.1 hu] at hz
          obtain ⟨ys, h1, h2⟩ := hr z hz
          exact ⟨ys, h1, hFr.ownInts h2⟩, ⟨(hN.o _ (by omega) (by omega)).trans h.ot.dTokens, (hN.o _ (by omega) (by omega)).trans h.ot.dTexts, (hN.o _ (by omega) (by omega)).trans h.ot.dBools, (hN.o _ (by omega) (by omega)).trans h.ot.dSteps, (hN.o _ (by omega) (by omega)).trans h.ot.dEdges, (hN.o _ (by omega) (by omega)).trans h.ot.dNodes, (hN.o _ (by omega) (by omega)).trans h.ot.dPairs, (hN.o _ (by omega) (by omega)).trans h.ot.dLines, (hN.o _ (by omega) (by omega)).trans h.ot.dWalks⟩, h.bw.trans (hN.k.below h.bw.size hup), h.rInts, h.hInts, fun b hb => by
        rcases hN.f b hb with e | e
        · exact h.rRows b e
        · have := h.bw.size; omega, fun l hl b hb => by
        rcases List.mem_append.1 hl with hl | hl
        · exact ⟨(h.hRows l hl b hb).1, .inl (h.hRows l hl b hb).2⟩
        · rw [List.mem_singleton.1 hl] at hb
          have := hO.lt b hb
          exact ⟨by omega, .inr hb⟩, fun b hx => hx.elim (fun hx => ⟨by have := (h.xRows b hx).1; have := hN.k.size; omega, (h.xRows b hx).2⟩) (fun hx => ⟨hv2 b hx, fun e => by have := (h.bInts.p.ri.lt b e).2; have := hv1 b hx; omega, fun e => by have := (h.bInts.rw.lt b e).2; have := hv1 b hx; omega⟩), fun l hl b hb => by
        rcases hl with hl | hl
        · rcases List.mem_append.1 hl with hl | hl
          · exact .inl (h.xlRows l (.inl hl) b hb)
          · rw [List.mem_singleton.1 hl] at hb; exact .inl (hx b hb)
        · rcases List.mem_append.1 hl with hl | hl
          · exact .inl (h.xlRows l (.inr hl) b hb)
          · rw [List.mem_singleton.1 hl] at hb; exact .inr hb⟩, hFr⟩
  · refine (BRows.ints_full wB.heap.size vRows uRows v lRows mRows zRows wr h.bRows hlen).mono ?_
    rintro r w' ⟨rfl, rfl⟩
    exact ⟨rfl, ⟨fun _ => False, vInts, uInts, lInts, mInts, zInts, vRows, uRows, lRows, mRows, zRows, h.bInts, h.bRows, h.roRows, h.ot, h.bw, h.rInts, h.hInts, h.rRows, fun l hl b hb => ⟨(h.hRows l hl b hb).1, .inl (h.hRows l hl b hb).2⟩, fun b hb => hb.elim (h.xRows b) (fun hf => hf.elim), fun l hl b hb => .inl (h.xlRows l hl b hb)⟩, Fr.refl _ _⟩
/-- The book's Apart. -/
theorem E.apart {wB wr : World} {PInts PRows XRows : Nat → Prop} (h : E wB wr PInts PRows XRows) :
    Calls Tryz.prog 16 #[.pointer (some ⟨wB.heap.size, 0, none⟩)] wr fun r w' => r = .returned (.bool true) ∧ Below wB.heap.size wB w' := by
  obtain ⟨vInts, uInts, lInts, mInts, zInts, vRows, uRows, lRows, mRows, zRows, h⟩ := h
  refine (ApIR.apart_any wB.heap.size vInts uInts lInts mInts zInts vRows uRows lRows mRows zRows wr h.bInts h.bRows (fun b hb ⟨l, hl, e⟩ => (h.xRows b (h.xlRows l (.inl hl) b e)).2.1 hb) (fun us hu z hz => by obtain ⟨zs, h1, h2⟩ := h.roRows us hu z hz; exact ⟨zs, h1, h2.has⟩) h.ot).mono ?_
  rintro r w' ⟨rfl, hk⟩
  exact ⟨rfl, h.bw.trans (hk.below h.bw.size fun b hb => hb.elim (fun ⟨l, hl, e⟩ => (h.hInts l hl b e).1) (fun hb => (fun ⟨l, hl, e⟩ => (h.hRows l hl b e).1) hb))⟩
/-- A list of lists, all of them in memory from B on, no two in one block. -/
def RowsRows (w : World) (B : Nat) (v : Value) (D : List (List Int)) : Prop :=
  ∃ us : List Value, w.ownsRow B 57 1 v D.length us ∧ (∀ (k : Nat) (r : List Int), D[k]? = some r → ∃ u, us[k]? = some u ∧ OwnI w B u r) ∧ ∀ (i j : Nat) (u x : Value) (b : Nat), us[i]? = some u → us[j]? = some x → i ≠ j → u.ownBlock = some b → x.ownBlock ≠ some b
def asRows : Value → BRows.El
  | .slice a n c => (a, n, c)
  | _ => (none, 0, 0)
theorem asRows_sl {u : Value} (h : ∃ a n c, u = .slice a n c) : BRows.sl (asRows u) = u := by
  obtain ⟨a, n, c, rfl⟩ := h
  rfl
theorem asRows_C : ∀ (us : List Value), (∀ u ∈ us, ∃ a n c, u = .slice a n c) → BRows.C (us.map asRows) = us
  | [], _ => rfl
  | u :: r, h => by
    have ih := asRows_C r fun x hx => h x (List.mem_cons_of_mem _ hx)
    have h1 := asRows_sl (h u List.mem_cons_self)
    unfold BRows.C at ih ⊢
    rw [List.map_cons, List.flatMap_cons, ih]
    show [BRows.sl (asRows u)] ++ r = _
    rw [h1]
    rfl
set_option maxRecDepth 100000 in
set_option maxHeartbeats 4000000 in
theorem E.manyRows {wB wr : World} {PInts PRows XRows : Nat → Prop} (h : E wB wr PInts PRows XRows) (v : Value) (D : List (List Int)) (B : Nat) (hR : RowsRows wr B v D) (hB : wB.heap.size ≤ B) (hP : ∀ b, PInts b → b < B) (hQ : ∀ b, PRows b → b < B) (hx : ∀ b, v.ownBlock = some b → XRows b) (hD : D.length ≤ 1000000) (hr : ∀ r ∈ D, r.length ≤ 1000000) :
    Calls Tryz.prog 15 #[.pointer (some ⟨wB.heap.size, 0, none⟩), v] wr fun r w' => r = .returned (.tuple #[]) ∧ (∃ Y : Nat → Prop, E wB w' (fun b => b < w'.heap.size) (fun b => b < w'.heap.size) (fun b => XRows b ∨ Y b)) ∧ Fr XRows wr w' := by
  obtain ⟨us, hrow, hrows, hdis⟩ := hR
  obtain ⟨w0, hw0⟩ : ∃ w0, w0 = wr := ⟨_, rfl⟩
  rw [← hw0] at h hrow hrows ⊢
  clear hw0
  have hul : us.length = D.length := by have := hrow.1; rw [Nat.mul_one] at this; exact this
  obtain ⟨ao, cap, rfl⟩ := row_shape hrow
  obtain ⟨n, hn⟩ : ∃ n, n = D.length := ⟨_, rfl⟩
  have HH : Hid _ := And.intro hrow (And.intro hrows (And.intro hdis (And.intro hul (And.intro hx (And.intro hr hn)))))
  have HP : Hid _ := And.intro hP hQ
  have h1 : E wB w0 (fun b => b < B ∨ ∃ j u, j < 0 ∧ us[j]? = some u ∧ u.ownBlock = some b) PRows XRows := h.mono (fun b _ hb => .inl (hP b hb)) (fun b _ hb => hb)
  have H1 : Hid _ := h1
  rw [← hn] at hD ⊢
  clear h hrow hrows hdis hul hx hr hn hP hQ h1
  go_enter Tryz.func15, Tryz.ntmps15
  go_wp2_with fail
  go_loopg [4] n (fun q iv wr => ∃ k : Nat, q = n - k ∧ k ≤ n ∧ iv = .int .i64 k ∧ E wB wr (fun b => b < B ∨ ∃ j u, j < k ∧ us[j]? = some u ∧ u.ownBlock = some b) PRows XRows ∧ Fr XRows w0 wr)
  case atStart => exact ⟨0, rfl, Nat.zero_le _, rfl, H1.out, Fr.refl _ _⟩
  case round =>
    obtain ⟨k, rfl, hk, rfl, hW, hF⟩ := hrel
    clear H1
    have hrw := hF.own HH.out.1 fun b hb => ⟨by decide, .inr (HH.out.2.2.2.2.1 b hb), by decide⟩
    by_cases hlt : k < n
    · obtain ⟨r, hrk⟩ : ∃ r, D[k]? = some r := ⟨D[k]'(by have := HH.out.2.2.2.2.2.2; omega), List.getElem?_eq_getElem _⟩
      obtain ⟨u, huk, hu0⟩ := HH.out.2.1 k r hrk
      have hu : OwnI wr B u r := hF.ownInts hu0
      obtain ⟨g, c, hf, _, _⟩ := World.ownsRow.form hrw (by have := HH.out.2.2.2.2.2.2; omega)
      injection hf with e1 e2 e3
      subst e1
      have c0 : wr.cell? ⟨g, k, none⟩ = some u := by rw [hrw.cellAt k (by have := HH.out.2.2.2.2.2.2; omega), huk]
      obtain ⟨au, cu, rfl⟩ := row_shape hu
      have q0 : (0 : Int) ≤ (k : Int) := by omega
      have q1 : (k : Int) < (n : Int) := by omega
      have hT := E.addInts hW (.slice au r.length cu) r B hu hB (fun b hb hp => by
        rcases hp with hp | ⟨j, y, hj, hy, hyb⟩
        · have := (hu.lt b hb).1; omega
        · exact HH.out.2.2.1 j k y _ b hy huk (by omega) hyb hb) (HH.out.2.2.2.2.2.1 r (List.mem_of_getElem? hrk))
      have HT : Hid _ := And.intro hT (And.intro hF huk)
      clear hT hF hW hrk huk hu hu0 hrw e2 e3
      go_wp2_with (go_at_call 36; refine Calls.mono HT.out.1 ?_; rintro r2 w2 ⟨rfl, hW2, hF2⟩; have H2 : Hid _ := And.intro hW2 hF2; clear hW2 hF2)
      go_roundg (n - (k + 1))
      case measure => omega
      case rel => exact ⟨k + 1, rfl, by omega, by go_num, H2.out.1.mono (fun b _ hb => by
        rcases hb with (hb | ⟨j, y, hj, hy, hyb⟩) | hb
        · exact .inl hb
        · exact .inr ⟨j, y, by omega, hy, hyb⟩
        · exact .inr ⟨k, _, by omega, HT.out.2.2, hb⟩) (fun b _ hb => hb), HT.out.2.1.trans H2.out.2⟩
    · obtain rfl : k = n := by omega
      have q1 : ¬ (k : Int) < (k : Int) := by omega
      have hsl : ∀ u ∈ us, ∃ a n c, u = .slice a n c := fun u hu => by
        obtain ⟨j, hj, rfl⟩ := List.getElem_of_mem hu
        obtain ⟨y, hy, ho⟩ := HH.out.2.1 j _ (List.getElem?_eq_getElem (by have := HH.out.2.2.2.1; omega : j < D.length))
        rw [List.getElem?_eq_getElem hj] at hy
        cases hy
        obtain ⟨a, c, e⟩ := row_shape ho
        exact ⟨a, _, c, e⟩
      have hOw : BRows.Own wr B (.slice ao k cap) (us.map asRows) := by
        unfold BRows.Own
        rw [List.length_map, asRows_C us hsl, HH.out.2.2.2.1]
        have := hrw
        rw [← HH.out.2.2.2.2.2.2] at this ⊢
        exact this
      have hL := E.addRows hW (.slice ao k cap) (us.map asRows) B hOw hB (fun b hb hq => by rw [HH.out.2.2.2.2.2.2] at hb; have := (hrw.lt b hb).1; have := HP.out.2 b hq; omega) (by rw [List.length_map, HH.out.2.2.2.1, ← HH.out.2.2.2.2.2.2]; exact hD) (fun b hb => by rw [HH.out.2.2.2.2.2.2] at hb; exact HH.out.2.2.2.2.1 b hb) (fun z hz => by
        obtain ⟨u, hu, rfl⟩ := List.mem_map.1 hz
        rw [asRows_sl (hsl u hu)]
        obtain ⟨j, hj, rfl⟩ := List.getElem_of_mem hu
        have hjD : j < D.length := by have := HH.out.2.2.2.1; omega
        obtain ⟨y, hy, ho⟩ := HH.out.2.1 j _ (List.getElem?_eq_getElem hjD)
        rw [List.getElem?_eq_getElem hj] at hy
        cases hy
        exact ⟨D[j], HH.out.2.2.2.2.2.1 _ (List.getElem_mem hjD), row_base (hF.ownInts ho) (Nat.zero_le _)⟩)
      have HL : Hid _ := And.intro hL hF
      clear hL hF hW hrw hOw hsl
      go_wp2_with (go_at_call 37; refine Calls.mono HL.out.1 ?_; rintro r2 w2 ⟨rfl, hW2, hF2⟩; have H2 : Hid _ := And.intro hW2 hF2; clear hW2 hF2)
      go_end0
      obtain ⟨⟨Y, hY⟩, hF2⟩ := H2.out
      exact ⟨rfl, ⟨Y, hY.mono (fun b hb _ => hb) (fun b hb _ => hb)⟩, HL.out.2.trans hF2⟩
end Go.Proofs.YtpmanmoljlhogaaGreatDoor.WIR
/- The book's SameInts on equal lists. -/
namespace Go.Proofs.YtpmanmoljlhogaaGreatDoor
open Go.RowKit
set_option maxRecDepth 100000 in
set_option maxHeartbeats 1000000 in
theorem sameInts_any (va vb : Value) (zs : List Int) (w : World) (hn : zs.length ≤ 1000000) (hA : HasI w va zs) (hB : HasI w vb zs) :
    Calls Tryz.prog 24 #[va, vb] w fun e w' => e = .returned (.bool true) ∧ Below w.heap.size w w' := by
  obtain ⟨ao, cap, rfl, hcA⟩ := hA
  obtain ⟨ao', cap', rfl, hcB⟩ := hB
  obtain ⟨n, hN⟩ : ∃ n, n = zs.length := ⟨_, rfl⟩
  have HH : Hid ((∀ (i : Nat) (z : Int), zs[i]? = some z → ∃ a, ao = some a ∧ w.cell? (a.add i) = some (.int .i64 z)) ∧ (∀ (i : Nat) (z : Int), zs[i]? = some z → ∃ a, ao' = some a ∧ w.cell? (a.add i) = some (.int .i64 z)) ∧ n = zs.length) := ⟨hcA, hcB, hN⟩
  rw [← hN] at hn ⊢
  clear hcA hcB hN
  have q : ((n : Int) != (n : Int)) = false := by simp
  go_enter Tryz.func24, Tryz.ntmps24
  go_wp2
  go_loopg [5] n (fun g i wr => ∃ j m : Nat, g = n - j ∧ j ≤ n ∧ i = .int .i64 j ∧ wr = w.drewN m)
  case atStart => exact ⟨0, 0, rfl, Nat.zero_le _, rfl, rfl⟩
  case round =>
    obtain ⟨j, m, rfl, hj, rfl, rfl⟩ := hrel
    by_cases hlt : j < n
    · obtain ⟨z, hz⟩ : ∃ z, zs[j]? = some z := ⟨zs[j]'(by have := HH.out.2.2; omega), List.getElem?_eq_getElem _⟩
      obtain ⟨a, rfl, c0⟩ := HH.out.1 j z hz
      obtain ⟨b, rfl, d0⟩ := HH.out.2.1 j z hz
      clear hz
      have q0 : (0 : Int) ≤ (j : Int) := by omega
      have q1 : (j : Int) < (n : Int) := by omega
      go_wp2_with fail
      go_quiet (fail)
      go_wp2
      go_roundg (n - (j + 1))
      case measure => omega
      case rel => exact ⟨j + 1, _, rfl, by omega, by go_num, by first | rfl | exact World.drewN_drewN _ _ _⟩
    · have q1 : ¬ (j : Int) < (n : Int) := by omega
      go_wp2
      go_ret
      exact ⟨rfl, below_drewN (Below.refl _ _) _⟩
end Go.Proofs.YtpmanmoljlhogaaGreatDoor
/- Lists of lists of numbers in memory, as a book takes them; the book's SameRows on equal ones. -/
namespace Go.Proofs.YtpmanmoljlhogaaGreatDoor
open Go.RowKit Go.Maps
attribute [local go_sem ↓] Go.wp_at_zero Go.wp_at_succ
theorem own_blkI {w : World} {B g n : Nat} {zs : List Int} {cs : Array Value} (h : w.heap[g]? = some (.cells cs 3 (0, 0))) (hc : cs.toList = iC zs) (hB : B ≤ g) (hl : zs.length = n) (hn : n ≤ 1000000) : OwnI w B (.slice (some ⟨g, 0, none⟩) n n) zs := by
  subst hl
  have hs : cs.size = zs.length * 1 := by rw [← Array.length_toList, hc, iC_length]
  refine ⟨iC_length zs, .inr ⟨g, zs.length, cs, rfl, hB, h, Nat.le_refl _, by unfold maxLen; omega, hs, ?_⟩⟩
  rw [hc]
  exact List.take_of_length_le (by rw [iC_length]; exact Nat.le_refl _)
theorem rows_nil (W : World) (B : Nat) : WIR.RowsRows W B (.slice none 0 0) [] := ⟨[], World.ownsRow_nil _ _ _ _, fun k r h => by simp at h, fun i j u x b h => by simp at h⟩
theorem RowsRows.below {W W' : World} {B : Nat} {v : Value} {D : List (List Int)} (h : WIR.RowsRows W B v D) (hb : Below W.heap.size W W') : WIR.RowsRows W' B v D := by
  obtain ⟨us, h1, h2, h3⟩ := h
  refine ⟨us, trow_at h1 fun b e => hb.block b (h1.lt b e).2, fun k r hk => ?_, h3⟩
  obtain ⟨u, hu, ho⟩ := h2 k r hk
  exact ⟨u, hu, trow_at ho fun b e => hb.block b (ho.lt b e).2⟩
theorem RowsRows.base {W : World} {B B' : Nat} {v : Value} {D : List (List Int)} (h : WIR.RowsRows W B v D) (hb : B' ≤ B) : WIR.RowsRows W B' v D := by
  obtain ⟨us, h1, h2, h3⟩ := h
  refine ⟨us, row_base h1 hb, fun k r hk => ?_, h3⟩
  obtain ⟨u, hu, ho⟩ := h2 k r hk
  exact ⟨u, hu, row_base ho hb⟩
/-- They stand while a book takes lists. -/
theorem RowsRows.fr {W W' : World} {X : Nat → Prop} {B : Nat} {v : Value} {D : List (List Int)} (h : WIR.RowsRows W B v D) (hf : WIR.Fr X W W') (hx : ∀ b, v.ownBlock = some b → X b) : WIR.RowsRows W' B v D := by
  obtain ⟨us, h1, h2, h3⟩ := h
  refine ⟨us, hf.own h1 fun b hb => ⟨by decide, .inr (hx b hb), by decide⟩, fun k r hk => ?_, h3⟩
  obtain ⟨u, hu, ho⟩ := h2 k r hk
  exact ⟨u, hu, hf.ownInts ho⟩
theorem RowsRows.lt {W : World} {B : Nat} {v : Value} {D : List (List Int)} (h : WIR.RowsRows W B v D) : ∀ b, v.ownBlock = some b → B ≤ b ∧ b < W.heap.size := by
  obtain ⟨us, h1, _⟩ := h
  exact h1.lt
/-- The value is a list of these lists. -/
def HasRR (w : World) (v : Value) (D : List (List Int)) : Prop :=
  ∃ (ao : Option Addr) (cap : Nat), v = .slice ao D.length cap ∧ ∀ k r, D[k]? = some r → ∃ b u, ao = some ⟨b, 0, none⟩ ∧ w.cell? ⟨b, k, none⟩ = some u ∧ HasI w u r
theorem RowsRows.has {w : World} {B : Nat} {v : Value} {D : List (List Int)} (h : WIR.RowsRows w B v D) : HasRR w v D := by
  obtain ⟨us, h1, h2, _⟩ := h
  rcases h1.2 with ⟨rfl, h0⟩ | ⟨g, cap, cur, rfl, _⟩
  · refine ⟨none, 0, by rw [h0], fun k r hr => ?_⟩
    have := (List.getElem?_eq_some_iff.1 hr).1
    omega
  · refine ⟨some ⟨g, 0, none⟩, cap, rfl, fun k r hr => ?_⟩
    have hk := (List.getElem?_eq_some_iff.1 hr).1
    obtain ⟨u, hu, ho⟩ := h2 k r hr
    exact ⟨g, u, rfl, by rw [h1.cellAt k (by omega)]; exact hu, ho.has⟩
theorem rr_b {w wr : World} {P : Prop} (h : P ∧ Hid (Below w.heap.size w wr)) : Below w.heap.size w wr := h.2.out
theorem bel_up {a b c : World} (h : Below b.heap.size b c) (k : Below a.heap.size a b) : Below a.heap.size a c := k.trans (h.mono k.size)
theorem rr_up {w2 wa wb : World} {a0 a1 : Addr} {x0 x1 : Value} (hb : Below wa.heap.size wa wb) (h : (wa.cell? a0 = some x0 ∧ wa.cell? a1 = some x1) ∧ Hid (Below w2.heap.size w2 wa)) : (wb.cell? a0 = some x0 ∧ wb.cell? a1 = some x1) ∧ Hid (Below w2.heap.size w2 wb) :=
  ⟨⟨(hb.cell (World.block_lt_of_cell? wa _ h.1.1)).trans h.1.1, (hb.cell (World.block_lt_of_cell? wa _ h.1.2)).trans h.1.2⟩, (bel_up hb h.2.out : Below w2.heap.size w2 wb)⟩
set_option maxRecDepth 100000 in
set_option maxHeartbeats 2000000 in
theorem sameRows_any (va vb : Value) (D : List (List Int)) (w : World) (hn : D.length ≤ 1000000) (hr : ∀ r ∈ D, r.length ≤ 1000000) (hA : HasRR w va D) (hB : HasRR w vb D) :
    Calls Tryz.prog 14 #[va, vb] w fun e w' => e = .returned (.bool true) ∧ Below w.heap.size w w' := by
  obtain ⟨ao, cap, rfl, hcA⟩ := hA
  obtain ⟨ao', cap', rfl, hcB⟩ := hB
  obtain ⟨n, hN⟩ : ∃ n, n = D.length := ⟨_, rfl⟩
  rw [← hN] at hn ⊢
  have HC : Hid _ := And.intro hN (And.intro hr (And.intro hcA hcB))
  clear hN hr hcA hcB
  have q : ((n : Int) != (n : Int)) = false := by simp
  go_enter Tryz.func14, Tryz.ntmps14
  go_wp2
  go_loopg [5] n (fun g i wr => ∃ j : Nat, g = n - j ∧ j ≤ n ∧ i = .int .i64 j ∧ Below w.heap.size w wr)
  case atStart => exact ⟨0, rfl, Nat.zero_le _, rfl, Below.refl _ _⟩
  case round =>
    obtain ⟨j, rfl, hj, rfl, hbr⟩ := hrel
    by_cases hlt : j < n
    · obtain ⟨r, hr⟩ : ∃ r, D[j]? = some r := ⟨D[j]'(by have := HC.out.1; omega), List.getElem?_eq_getElem _⟩
      obtain ⟨b, u, rfl, cA, hA⟩ := HC.out.2.2.1 j r hr
      obtain ⟨b', u', rfl, cB, hB⟩ := HC.out.2.2.2 j r hr
      have hS := fun W (hb : Below wr.heap.size wr W) => sameInts_any u u' r W (HC.out.2.1 r (List.mem_of_getElem? hr)) ((hA.below hbr).below hb) ((hB.below hbr).below hb)
      have c1 := cell_up cA hbr
      have c2 := cell_up cB hbr
      have HS : Hid _ := And.intro hS hbr
      clear hr hA hB hS hbr cA cB
      have q0 : (0 : Int) ≤ (j : Int) := by omega
      have q1 : (j : Int) < (n : Int) := by omega
      go_upto_region 6 with fail
      go_region_held3 (fun w' => (w'.cell? ⟨b, j, none⟩ = some u ∧ w'.cell? ⟨b', j, none⟩ = some u') ∧ Hid (Below wr.heap.size wr w')) (first | exact rr_up hb2 (by assumption) | exact ⟨⟨c1, c2⟩, ((Below.refl _ _).drew : Below wr.heap.size wr wr.drew)⟩ | go_keep)
        ((first
          | (go_at_call 24; refine Calls.mono (HS.out.1 _ (rr_b (by assumption))) ?_; rintro r w2 ⟨rfl, hb2⟩)
          | fail))
      have H2 : Hid _ := rr_b (by assumption)
      clear hb2 c1 c2
      rename_i hS3
      clear hS3
      go_wp2_with fail
      go_roundg (n - (j + 1))
      case measure => omega
      case rel => exact ⟨j + 1, rfl, by omega, by go_num, bel_up H2.out HS.out.2⟩
    · have q1 : ¬ (j : Int) < (n : Int) := by omega
      have HS : Hid _ := And.intro hbr trivial
      clear hbr
      go_wp2
      go_ret
      exact ⟨rfl, HS.out.1⟩
end Go.Proofs.YtpmanmoljlhogaaGreatDoor
/- The rounds as rows that a book takes. -/
namespace Go.Proofs.YtpmanmoljlhogaaGreatDoor
open Go.RowKit Go.Maps
theorem natC_iC (l : List Nat) : natC l = iC (natI l) := by simp [natC, iC, natI]
/-- The lists of all rounds. -/
def roundsD (m : Nat) (out : Nat → List Ro.St) (R : Nat) : List (List Int) := (List.range (R + 1)).map fun j => natI (Ro.rnd m out j)
theorem roundsD_len (m : Nat) (out : Nat → List Ro.St) (R : Nat) : (roundsD m out R).length = R + 1 := by simp [roundsD]
theorem roundsD_at {m R k : Nat} {out : Nat → List Ro.St} {r : List Int} (h : (roundsD m out R)[k]? = some r) : k < R + 1 ∧ r = natI (Ro.rnd m out k) := by
  have hk := (List.getElem?_eq_some_iff.1 h).1
  rw [roundsD_len] at hk
  unfold roundsD at h
  rw [List.getElem?_map, List.getElem?_range hk] at h
  exact ⟨hk, (Option.some.inj h).symm⟩
theorem natI_len (l : List Nat) : (natI l).length = l.length := by simp [natI]
theorem rows_rounds {W : World} {B m R : Nat} {out : Nat → List Ro.St} {u : Value} {xs : List Rd} (hm : m ≤ 1000) (hl : xs.length = R + 1) (hO : OwnRs W B m u xs) (hR : RwAt W B m out xs) : WIR.RowsRows W B u (roundsD m out R) := by
  refine ⟨xs.map (hdr m), ?_, fun k r hk => ?_, fun i j a x b hi hj hne ha hx => ?_⟩
  · rw [roundsD_len, ← hl]
    exact hO
  · obtain ⟨hkl, rfl⟩ := roundsD_at hk
    obtain ⟨x, hx⟩ : ∃ x, xs[k]? = some x := ⟨xs[k]'(by omega), List.getElem?_eq_getElem _⟩
    obtain ⟨_, h2, cs, h3, h4⟩ := hR.row k x hx
    refine ⟨hdr m x, by rw [List.getElem?_map, hx]; rfl, ?_⟩
    exact own_blkI h3 (by rw [h4, natC_iC]) h2 (by rw [natI_len, Ro.rnd_len]) (by omega)
  · rw [List.getElem?_map] at hi hj
    cases h1 : xs[i]? with
    | none => rw [h1] at hi; cases hi
    | some y =>
      cases h2 : xs[j]? with
      | none => rw [h2] at hj; cases hj
      | some z =>
        rw [h1] at hi
        rw [h2] at hj
        simp only [Option.map_some, Option.some.injEq] at hi hj
        subst hi; subst hj
        simp only [hdr, Value.ownBlock, Option.some.injEq] at ha hx
        obtain ⟨hil, rfl⟩ := List.getElem?_eq_some_iff.1 h1
        obtain ⟨hjl, rfl⟩ := List.getElem?_eq_some_iff.1 h2
        have hp := List.pairwise_iff_getElem.1 hR.up
        rcases Nat.lt_or_gt_of_ne hne with h3 | h3
        · have := hp i j hil hjl h3; omega
        · have := hp j i hjl hil h3; omega
end Go.Proofs.YtpmanmoljlhogaaGreatDoor
/- Contract of the document's Ranks: the ranks of all states. -/
namespace Go.Proofs.YtpmanmoljlhogaaGreatDoor
open Go.RowKit Go.Maps
attribute [local go_sem ↓] Go.wp_at_zero Go.wp_at_succ
/-- The rows of a table so far: those ahead of p whole, of p as many as q. -/
def tabR (m : Nat) (f : Nat → Nat → Int) (p q i : Nat) : List Int := if i < p then (List.range m).map (f i) else if i = p then (List.range q).map (f i) else []
theorem tabR_next (m : Nat) (f : Nat → Nat → Int) (p q i : Nat) : (if i = p then tabR m f p q p ++ [f p q] else tabR m f p q i) = tabR m f p (q + 1) i := by
  unfold tabR
  by_cases h : i = p
  · subst h; simp [List.range_succ]
  · simp [h]
theorem tabR_row (m : Nat) (f : Nat → Nat → Int) (p i : Nat) : tabR m f p m i = tabR m f (p + 1) 0 i := by
  unfold tabR
  by_cases h : i < p
  · rw [if_pos h, if_pos (by omega)]
  · by_cases h2 : i = p
    · subst h2; simp
    · rw [if_neg h, if_neg h2, if_neg (by omega)]; split <;> simp
theorem tabR_len (m : Nat) (f : Nat → Nat → Int) (p q : Nat) : (tabR m f p q p).length = q := by unfold tabR; simp
set_option linter.unusedSimpArgs false in
set_option maxRecDepth 100000 in
set_option maxHeartbeats 8000000 in
theorem docRanks_any (m : Nat) (k s : Int) (v : Value) (es : List Sy.Ed) (w : World) (hv : HasE w v es) (hq : Sy.right m k s es = true) :
    Calls Tryz.prog 20 #[sysV m k s v] w fun r w' => ∃ g us R, r = .returned (.slice (some ⟨g, 0, none⟩) m m) ∧ Ro.Last m (outOf m es) R ∧ Arr 57 w w' g us ∧ OutsI w' w.heap.size us m (fun p => (List.range m).map (Ro.rank m (outOf m es) R p)) := by
  obtain ⟨i0, hi0, hz0, hz1, hz2⟩ := info_parts Tryz.infoI3
  have hm : m ≤ 1000 := by have := (right_parts hq).1; omega
  have hv0 := hv
  obtain ⟨ao, cap, rfl, _, _⟩ := hv0
  obtain ⟨L, hL⟩ : ∃ L, L = es.length := ⟨_, rfl⟩
  obtain ⟨w1, hw1⟩ : ∃ w1, w1 = w.alloc (.cells #[.int .i64 m, .int .i64 k, .int .i64 s, .slice ao L cap] 24) := ⟨_, rfl⟩
  have hb1 : Below w.heap.size w w1 := by rw [hw1]; exact (Below.refl _ _).alloc (Nat.le_refl _) _
  have hg1 : w1.heap[w.heap.size]? = some (.cells #[.int .i64 m, .int .i64 k, .int .i64 s, .slice ao L cap] 24 (0, 0)) := by rw [hw1]; exact heap_alloc_new w _
  have hD := docRounds_any m k s _ es w1 (hv.below hb1) hq
  rw [← hL] at hD ⊢
  unfold sysV at hD ⊢
  obtain ⟨x0, x1, x2, x3⟩ := four_cells hg1
  have H1 : Hid _ := And.intro hw1 (And.intro hb1 (And.intro hg1 hD))
  clear hv hq hL hw1 hb1 hg1 hD
  go_enter Tryz.func20, Tryz.ntmps20
  go_upto_region 1 with fail
  rw [← H1.out.1]
  go_wp2_with fail
  refine Calls.mono H1.out.2.2.2 ?_
  rintro r w2 ⟨u, xs, R, rfl, hRl, hxl, hO, hRw, hb2⟩
  have hRk := fun (W : World) (hb : Below w2.heap.size w2 W) (p q : Nat) (hp : p < m) (hq : q < m) => docRank_any m p q R (outOf m es) u xs w1.heap.size w1.heap.size W hm hRl hxl (trow_at hO fun b e => hb.block b (hO.lt b e).2) (hRw.keep fun _ _ _ hc => res_up6 hb hc) hp hq
  have hA0 := arr_new 57 (.slice none 0 0) rfl m w2
  have hmk := makeRI m (by omega) w2
  have hg2 := res_up6 hb2 H1.out.2.2.1
  clear x0 x1 x2 x3
  obtain ⟨x0, x1, x2, x3⟩ := four_cells hg2
  obtain ⟨ua, un, uc, rfl⟩ : ∃ a n c, u = .slice a n c := by
    rcases hO.2 with ⟨rfl, _⟩ | ⟨g9, c9, _, rfl, _⟩
    · exact ⟨_, _, _, rfl⟩
    · exact ⟨_, _, _, rfl⟩
  have H2 : Hid _ := And.intro (bel6 hb2 H1.out.2.1) (And.intro hRl (And.intro hRk (And.intro hA0 hg2)))
  clear hO hRw hb2 hRk hA0 hg2 hRl hxl
  go_wp2_with fail
  go_loopg [5] m (fun z pv wr => ∃ (p : Nat) (us : List Value), z = m - p ∧ p ≤ m ∧ pv = .int .i64 p ∧ Arr 57 w2 wr w2.heap.size us ∧ OutsI wr w2.heap.size us m (tabR m (Ro.rank m (outOf m es) R) p 0))
  case atStart => exact ⟨0, _, rfl, Nat.zero_le _, rfl, H2.out.2.2.2.1, (outsI_new _ _ _).congr fun i _ => by unfold tabR; simp⟩
  case round =>
    obtain ⟨p, us, rfl, hp, rfl, hA, hOs⟩ := hrel
    clear x0 x1 x2 x3
    obtain ⟨x0, x1, x2, x3⟩ := four_cells (res_up6 hA.bl H2.out.2.2.2.2)
    by_cases hlt : p < m
    · have p1 : (p : Int) < (m : Int) := by omega
      have HA : Hid _ := And.intro hA hOs
      obtain ⟨wp, hwp⟩ : ∃ wp, wp = wr := ⟨_, rfl⟩
      rw [← hwp] at HA x0 x1 x2 x3 ⊢
      clear hA hOs hwp
      go_wp2_with fail
      go_loopg [6] m (fun z qv wr => ∃ (q : Nat) (us : List Value), z = m - q ∧ q ≤ m ∧ qv = .int .i64 q ∧ Arr 57 w2 wr w2.heap.size us ∧ OutsI wr w2.heap.size us m (tabR m (Ro.rank m (outOf m es) R) p q))
      case atStart => exact ⟨0, us, rfl, Nat.zero_le _, rfl, HA.out.1, HA.out.2⟩
      case round =>
        obtain ⟨q, us, rfl, hq, rfl, hA, hOs⟩ := hrel
        clear x0 x1 x2 x3
        obtain ⟨x0, x1, x2, x3⟩ := four_cells (res_up6 hA.bl H2.out.2.2.2.2)
        by_cases hqm : q < m
        · have p2 : (q : Int) < (m : Int) := by omega
          have p3 : (0 : Int) ≤ (p : Int) := by omega
          obtain ⟨uu, hu, hOu⟩ := hOs.row p hlt
          obtain ⟨au, cu, rfl⟩ := row_shape hOu
          obtain ⟨N, hN⟩ : ∃ N, N = (tabR m (Ro.rank m (outOf m es) R) p q p).length := ⟨_, rfl⟩
          have hNl : N ≤ 1000 := by rw [tabR_len] at hN; omega
          rw [← hN] at hu
          have hOu' : wr.ownsRow w2.heap.size 3 1 (.slice au N cu) N (iC (tabR m (Ro.rank m (outOf m es) R) p q p)) := by have h1 := hOu; unfold OwnI at h1; rw [← hN] at h1; exact h1
          have cu0 := hA.cell hu
          have cuf := hA.free p
          have hgw := hA.lt
          obtain ⟨rk, hrk⟩ : ∃ rk, rk = Ro.rank m (outOf m es) R p q := ⟨_, rfl⟩
          have hCk := fun W (hb : Below wr.heap.size wr W) => H2.out.2.2.1 W (bel6 hb hA.bl) p q hlt hqm
          rw [← hrk] at hCk
          have hml : N + 1 ≤ maxLen := by unfold maxLen; omega
          have hby : (N + 1) * 8 ≤ 140737488355328 := by omega
          have HKP : Hid (∀ b, (Value.slice au N cu).ownBlock = some b → w2.heap.size ≤ b ∧ b ≠ w2.heap.size) := (fun b hb => ⟨(hOu'.lt b hb).1, fun e => by
            obtain ⟨cs9, hc9, _⟩ := hA.ids
            exact own_bk hOu' hc9 (by decide) (by rw [← e]; exact hb)⟩ : ∀ b, (Value.slice au N cu).ownBlock = some b → w2.heap.size ≤ b ∧ b ≠ w2.heap.size)
          have hsz := hA.bl.size
          have HB : Hid _ := And.intro hA (And.intro hOs (And.intro hu (And.intro hOu' (And.intro hN (And.intro hrk hCk)))))
          clear hA hOs hu hOu hOu' hN hrk hCk
          go_upto_region 9 with fail
          refine wp_region_held_drew (S := (fun _ => True)) (by kernel_rfl) ?_ (fun hHeld => ?_)
          · trivial
          refine wpAnyH_take (i := 0) (oi := _) (v := ?_) rfl (by kernel_rfl) (by kernel_rfl) (by kernel_rfl) (fun _ _ _ h => h) (Or.inl ⟨by rfl, ?_⟩) (by assumption) ?_
          rotate_left
          · (intro w hSw; (try dsimp only at hSw); go_simp; (try with_reducible rfl))
          (try simp only [List.getElem_toArray, List.getElem_cons_succ, List.getElem_cons_zero, Act.put, List.setIfInBounds_toArray, List.set_cons_zero, List.set_cons_succ])
          refine wpAnyH_take (i := 1) (oi := _) (v := ?_) rfl (by kernel_rfl) (by kernel_rfl) (by kernel_rfl) (fun _ _ _ h => h) (Or.inl ⟨by rfl, ?_⟩) (by assumption) ?_
          rotate_left
          · (intro w hSw; (try dsimp only at hSw); go_simp; (try with_reducible rfl))
          (try simp only [List.getElem_toArray, List.getElem_cons_succ, List.getElem_cons_zero, Act.put, List.setIfInBounds_toArray, List.set_cons_zero, List.set_cons_succ])
          refine wpAnyH_take (i := 2) (oi := _) (v := ?_) rfl (by kernel_rfl) (by kernel_rfl) (by kernel_rfl) (fun _ _ _ h => h) (Or.inl ⟨by rfl, ?_⟩) (by assumption) ?_
          rotate_left
          · (intro w hSw; (try dsimp only at hSw); go_simp; (try with_reducible rfl))
          (try simp only [List.getElem_toArray, List.getElem_cons_succ, List.getElem_cons_zero, Act.put, List.setIfInBounds_toArray, List.set_cons_zero, List.set_cons_succ])
          refine wpAnyH_take (i := 3) (oi := _) (v := ?_) rfl (by kernel_rfl) (by kernel_rfl) (by kernel_rfl) (fun _ _ _ h => h) (Or.inl ⟨by rfl, ?_⟩) (by assumption) ?_
          rotate_left
          · (intro w hSw; (try dsimp only at hSw); go_simp; (try with_reducible rfl))
          (try simp only [List.getElem_toArray, List.getElem_cons_succ, List.getElem_cons_zero, Act.put, List.setIfInBounds_toArray, List.set_cons_zero, List.set_cons_succ])
          refine wpAnyH_take (i := 4) (oi := _) (v := ?_) rfl (by kernel_rfl) (by kernel_rfl) (by kernel_rfl) (fun _ _ _ h => h) (Or.inl ⟨by rfl, ?_⟩) (by assumption) ?_
          rotate_left
          · (intro w hSw; (try dsimp only at hSw); go_simp; (try with_reducible rfl))
          (try simp only [List.getElem_toArray, List.getElem_cons_succ, List.getElem_cons_zero, Act.put, List.setIfInBounds_toArray, List.set_cons_zero, List.set_cons_succ])
          refine wpAnyH_take (i := 6) (oi := _) (v := ?_) rfl (by kernel_rfl) (by kernel_rfl) (by kernel_rfl) (fun _ _ _ h => h) (Or.inl ⟨by rfl, ?_⟩) (by assumption) ?_
          rotate_left
          · (intro w hSw; (try dsimp only at hSw); go_simp; (try with_reducible rfl))
          (try simp only [List.getElem_toArray, List.getElem_cons_succ, List.getElem_cons_zero, Act.put, List.setIfInBounds_toArray, List.set_cons_zero, List.set_cons_succ])
          refine wpAnyH_take (i := 7) (oi := _) (v := ?_) rfl (by kernel_rfl) (by kernel_rfl) (by kernel_rfl) (fun _ _ _ h => h) (Or.inl ⟨by rfl, ?_⟩) (by assumption) ?_
          rotate_left
          · (intro w hSw; (try dsimp only at hSw); go_simp; (try with_reducible rfl))
          (try simp only [List.getElem_toArray, List.getElem_cons_succ, List.getElem_cons_zero, Act.put, List.setIfInBounds_toArray, List.set_cons_zero, List.set_cons_succ])
          refine wpAnyH_take (i := 8) (oi := _) (v := ?_) rfl (by kernel_rfl) (by kernel_rfl) (by kernel_rfl) (fun _ _ _ h => h) (Or.inl ⟨by rfl, ?_⟩) (by assumption) ?_
          rotate_left
          · (intro w hSw; (try dsimp only at hSw); go_simp; (try with_reducible rfl))
          (try simp only [List.getElem_toArray, List.getElem_cons_succ, List.getElem_cons_zero, Act.put, List.setIfInBounds_toArray, List.set_cons_zero, List.set_cons_succ])
          refine wpAnyH_ready (rs := [5, 9]) (by kernel_rfl) (by simp) ?_
          refine AllReadyH.cons (o := _) rfl (fun K hK => ?_) ?_
          · go_simp
            refine hK.out _ _ ?_ (fun hHeld => ?_)
            · trivial
            clear hK K
            (try simp only [List.getElem_toArray, List.getElem_cons_succ, List.getElem_cons_zero, Act.put, List.setIfInBounds_toArray, List.set_cons_zero, List.set_cons_succ])
            refine wpAnyH_ready (rs := [9]) (by kernel_rfl) (by simp) ?_
            refine AllReadyH.cons (o := _) rfl (fun K hK => ?_) ?_
            · (go_simp; go_at_call 19; refine Calls.mono (HB.out.2.2.2.2.2.2 _ ((Below.refl _ wr).drew)) ?_; rintro r w5 ⟨rfl, hb5'⟩; have hb5 : Below wr.heap.size wr w5 := (Below.refl _ wr).drew.trans hb5'; have cu1 := cell_up cu0 hb5; have H5 : Hid _ := And.intro hb5 (And.intro (HB.out.1.below hb5) (And.intro (HB.out.2.1.below hb5) (trow_at HB.out.2.2.2.1 fun b e => hb5.block b (HB.out.2.2.2.1.lt b e).2))); have hs5 := hb5.size; have cu3 : (w5.alloc (.cells #[.int .i64 rk] 3)).cell? ⟨w2.heap.size, p, none⟩ = some (.slice au N cu) := (cell_up cu1 ((Below.refl _ _).alloc (Nat.le_refl _) _)); clear hb5 hb5' cu0)
              (try go_wp2_with fail)
              refine hK.out _ _ ?_ (fun hHeld => ?_)
              · trivial
              clear hK K
              (try simp only [List.getElem_toArray, List.getElem_cons_succ, List.getElem_cons_zero, Act.put, List.setIfInBounds_toArray, List.set_cons_zero, List.set_cons_succ])
              refine wpAnyH_ready (rs := [10]) (by kernel_rfl) (by simp) ?_
              refine AllReadyH.cons (o := _) rfl (fun K hK => ?_) ?_
              · go_simp
                refine hK.out _ _ ?_ (fun hHeld => ?_)
                · trivial
                clear hK K
                (try simp only [List.getElem_toArray, List.getElem_cons_succ, List.getElem_cons_zero, Act.put, List.setIfInBounds_toArray, List.set_cons_zero, List.set_cons_succ])
                refine wpAnyH_ready (rs := [11]) (by kernel_rfl) (by simp) ?_
                refine AllReadyH.cons (o := _) rfl (fun K hK => ?_) ?_
                · (refine step_append_lies _ (by rfl) _ _ _ (by rfl) w2.heap.size 3 i0 _ 1 8 Tryz.underlying57 hi0 hz0 hz1 hz2 rfl (by decide) (.slice au N cu) N (iC (tabR m (Ro.rank m (outOf m es) R) p q p)) (by rfl) (H5.out.2.2.2.alloc _) ⟨w5.heap.size, 0, none⟩ 1 1 [.int .i64 rk] (by rfl) (by rfl) (World.news_of_block (cs := #[.int .i64 rk]) (t := 3) (fr := (0, 0)) (heap_alloc_new w5 _)) (by simp [Value.oneCell']) Nat.one_pos hml hby (by simp; omega) (w5.heap.size + 1) (by simp) ?_; intro g4 k4 w4 hown4 hgrow4 hat4 hlt4; have hk4 : Kept (fun b => (Value.slice au N cu).ownBlock = some b) w5 w4 := grown_alloc hgrow4; have hA4 := H5.out.2.1.kept hk4 HKP.out; have cu2 := hA4.cell HB.out.2.2.1; have cuf2 := hA4.free p; have H4 : Hid _ := And.intro hown4 (And.intro hk4 (And.intro hat4 hA4)); clear hown4 hgrow4 hat4 hlt4 hk4 hA4 cu1 cu3)
                  refine hK.out _ _ ?_ (fun hHeld => ?_)
                  · trivial
                  clear hK K
                  (try simp only [List.getElem_toArray, List.getElem_cons_succ, List.getElem_cons_zero, Act.put, List.setIfInBounds_toArray, List.set_cons_zero, List.set_cons_succ])
                  refine wpAnyH_take (i := 12) (oi := _) (v := ?_) rfl (by kernel_rfl) (by kernel_rfl) (by kernel_rfl) (fun _ _ _ h => h) (Or.inl ⟨by rfl, ?_⟩) (by assumption) ?_
                  rotate_left
                  · (intro w hSw; (try dsimp only at hSw); go_simp; (try with_reducible rfl))
                  (try simp only [List.getElem_toArray, List.getElem_cons_succ, List.getElem_cons_zero, Act.put, List.setIfInBounds_toArray, List.set_cons_zero, List.set_cons_succ])
                  refine wpAnyH_ready (rs := [13]) (by kernel_rfl) (by simp) ?_
                  refine AllReadyH.cons (o := _) rfl (fun K hK => ?_) ?_
                  · go_simp
                    refine hK.out _ _ ?_ (fun hHeld => ?_)
                    · trivial
                    clear hK K
                    (try simp only [List.getElem_toArray, List.getElem_cons_succ, List.getElem_cons_zero, Act.put, List.setIfInBounds_toArray, List.set_cons_zero, List.set_cons_succ])
                    refine wpAnyH_done (by kernel_rfl) ?_ _
                    (try go_simp)
                    have hG := outsI_grow rk H5.out.2.2.1 hlt HB.out.2.2.1 HB.out.2.2.2.2.1 H4.out.1 H4.out.2.1 H4.out.2.2.1 H4.out.2.2.2
                    have HG : Hid _ := hG
                    clear hG cu2 cuf2
                    go_wp2_with fail
                    go_roundg (m - (q + 1))
                    case measure => omega
                    case rel => exact ⟨q + 1, _, rfl, by omega, by go_num, HG.out.1, HG.out.2.1.congr fun i _ => by rw [HB.out.2.2.2.2.2.1]; exact tabR_next _ _ _ _ _⟩
                  exact AllReadyH.nil
                exact AllReadyH.nil
              exact AllReadyH.nil
            exact AllReadyH.nil
          refine AllReadyH.cons (o := _) rfl (fun K hK => ?_) ?_
          · (go_simp; go_at_call 19; refine Calls.mono (HB.out.2.2.2.2.2.2 _ ((Below.refl _ wr).drew)) ?_; rintro r w5 ⟨rfl, hb5'⟩; have hb5 : Below wr.heap.size wr w5 := (Below.refl _ wr).drew.trans hb5'; have cu1 := cell_up cu0 hb5; have H5 : Hid _ := And.intro hb5 (And.intro (HB.out.1.below hb5) (And.intro (HB.out.2.1.below hb5) (trow_at HB.out.2.2.2.1 fun b e => hb5.block b (HB.out.2.2.2.1.lt b e).2))); have hs5 := hb5.size; have cu3 : (w5.alloc (.cells #[.int .i64 rk] 3)).cell? ⟨w2.heap.size, p, none⟩ = some (.slice au N cu) := (cell_up cu1 ((Below.refl _ _).alloc (Nat.le_refl _) _)); clear hb5 hb5' cu0)
            (try go_wp2_with fail)
            refine hK.out _ _ ?_ (fun hHeld => ?_)
            · trivial
            clear hK K
            (try simp only [List.getElem_toArray, List.getElem_cons_succ, List.getElem_cons_zero, Act.put, List.setIfInBounds_toArray, List.set_cons_zero, List.set_cons_succ])
            refine wpAnyH_ready (rs := [5, 10]) (by kernel_rfl) (by simp) ?_
            refine AllReadyH.cons (o := _) rfl (fun K hK => ?_) ?_
            · go_simp
              refine hK.out _ _ ?_ (fun hHeld => ?_)
              · trivial
              clear hK K
              (try simp only [List.getElem_toArray, List.getElem_cons_succ, List.getElem_cons_zero, Act.put, List.setIfInBounds_toArray, List.set_cons_zero, List.set_cons_succ])
              refine wpAnyH_ready (rs := [10]) (by kernel_rfl) (by simp) ?_
              refine AllReadyH.cons (o := _) rfl (fun K hK => ?_) ?_
              · go_simp
                refine hK.out _ _ ?_ (fun hHeld => ?_)
                · trivial
                clear hK K
                (try simp only [List.getElem_toArray, List.getElem_cons_succ, List.getElem_cons_zero, Act.put, List.setIfInBounds_toArray, List.set_cons_zero, List.set_cons_succ])
                refine wpAnyH_ready (rs := [11]) (by kernel_rfl) (by simp) ?_
                refine AllReadyH.cons (o := _) rfl (fun K hK => ?_) ?_
                · (refine step_append_lies _ (by rfl) _ _ _ (by rfl) w2.heap.size 3 i0 _ 1 8 Tryz.underlying57 hi0 hz0 hz1 hz2 rfl (by decide) (.slice au N cu) N (iC (tabR m (Ro.rank m (outOf m es) R) p q p)) (by rfl) (H5.out.2.2.2.alloc _) ⟨w5.heap.size, 0, none⟩ 1 1 [.int .i64 rk] (by rfl) (by rfl) (World.news_of_block (cs := #[.int .i64 rk]) (t := 3) (fr := (0, 0)) (heap_alloc_new w5 _)) (by simp [Value.oneCell']) Nat.one_pos hml hby (by simp; omega) (w5.heap.size + 1) (by simp) ?_; intro g4 k4 w4 hown4 hgrow4 hat4 hlt4; have hk4 : Kept (fun b => (Value.slice au N cu).ownBlock = some b) w5 w4 := grown_alloc hgrow4; have hA4 := H5.out.2.1.kept hk4 HKP.out; have cu2 := hA4.cell HB.out.2.2.1; have cuf2 := hA4.free p; have H4 : Hid _ := And.intro hown4 (And.intro hk4 (And.intro hat4 hA4)); clear hown4 hgrow4 hat4 hlt4 hk4 hA4 cu1 cu3)
                  refine hK.out _ _ ?_ (fun hHeld => ?_)
                  · trivial
                  clear hK K
                  (try simp only [List.getElem_toArray, List.getElem_cons_succ, List.getElem_cons_zero, Act.put, List.setIfInBounds_toArray, List.set_cons_zero, List.set_cons_succ])
                  refine wpAnyH_take (i := 12) (oi := _) (v := ?_) rfl (by kernel_rfl) (by kernel_rfl) (by kernel_rfl) (fun _ _ _ h => h) (Or.inl ⟨by rfl, ?_⟩) (by assumption) ?_
                  rotate_left
                  · (intro w hSw; (try dsimp only at hSw); go_simp; (try with_reducible rfl))
                  (try simp only [List.getElem_toArray, List.getElem_cons_succ, List.getElem_cons_zero, Act.put, List.setIfInBounds_toArray, List.set_cons_zero, List.set_cons_succ])
                  refine wpAnyH_ready (rs := [13]) (by kernel_rfl) (by simp) ?_
                  refine AllReadyH.cons (o := _) rfl (fun K hK => ?_) ?_
                  · go_simp
                    refine hK.out _ _ ?_ (fun hHeld => ?_)
                    · trivial
                    clear hK K
                    (try simp only [List.getElem_toArray, List.getElem_cons_succ, List.getElem_cons_zero, Act.put, List.setIfInBounds_toArray, List.set_cons_zero, List.set_cons_succ])
                    refine wpAnyH_done (by kernel_rfl) ?_ _
                    (try go_simp)
                    have hG := outsI_grow rk H5.out.2.2.1 hlt HB.out.2.2.1 HB.out.2.2.2.2.1 H4.out.1 H4.out.2.1 H4.out.2.2.1 H4.out.2.2.2
                    have HG : Hid _ := hG
                    clear hG cu2 cuf2
                    go_wp2_with fail
                    go_roundg (m - (q + 1))
                    case measure => omega
                    case rel => exact ⟨q + 1, _, rfl, by omega, by go_num, HG.out.1, HG.out.2.1.congr fun i _ => by rw [HB.out.2.2.2.2.2.1]; exact tabR_next _ _ _ _ _⟩
                  exact AllReadyH.nil
                exact AllReadyH.nil
              exact AllReadyH.nil
            refine AllReadyH.cons (o := _) rfl (fun K hK => ?_) ?_
            · go_simp
              refine hK.out _ _ ?_ (fun hHeld => ?_)
              · trivial
              clear hK K
              (try simp only [List.getElem_toArray, List.getElem_cons_succ, List.getElem_cons_zero, Act.put, List.setIfInBounds_toArray, List.set_cons_zero, List.set_cons_succ])
              refine wpAnyH_ready (rs := [5]) (by kernel_rfl) (by simp) ?_
              refine AllReadyH.cons (o := _) rfl (fun K hK => ?_) ?_
              · go_simp
                refine hK.out _ _ ?_ (fun hHeld => ?_)
                · trivial
                clear hK K
                (try simp only [List.getElem_toArray, List.getElem_cons_succ, List.getElem_cons_zero, Act.put, List.setIfInBounds_toArray, List.set_cons_zero, List.set_cons_succ])
                refine wpAnyH_ready (rs := [11]) (by kernel_rfl) (by simp) ?_
                refine AllReadyH.cons (o := _) rfl (fun K hK => ?_) ?_
                · (refine step_append_lies _ (by rfl) _ _ _ (by rfl) w2.heap.size 3 i0 _ 1 8 Tryz.underlying57 hi0 hz0 hz1 hz2 rfl (by decide) (.slice au N cu) N (iC (tabR m (Ro.rank m (outOf m es) R) p q p)) (by rfl) (H5.out.2.2.2.alloc _) ⟨w5.heap.size, 0, none⟩ 1 1 [.int .i64 rk] (by rfl) (by rfl) (World.news_of_block (cs := #[.int .i64 rk]) (t := 3) (fr := (0, 0)) (heap_alloc_new w5 _)) (by simp [Value.oneCell']) Nat.one_pos hml hby (by simp; omega) (w5.heap.size + 1) (by simp) ?_; intro g4 k4 w4 hown4 hgrow4 hat4 hlt4; have hk4 : Kept (fun b => (Value.slice au N cu).ownBlock = some b) w5 w4 := grown_alloc hgrow4; have hA4 := H5.out.2.1.kept hk4 HKP.out; have cu2 := hA4.cell HB.out.2.2.1; have cuf2 := hA4.free p; have H4 : Hid _ := And.intro hown4 (And.intro hk4 (And.intro hat4 hA4)); clear hown4 hgrow4 hat4 hlt4 hk4 hA4 cu1 cu3)
                  refine hK.out _ _ ?_ (fun hHeld => ?_)
                  · trivial
                  clear hK K
                  (try simp only [List.getElem_toArray, List.getElem_cons_succ, List.getElem_cons_zero, Act.put, List.setIfInBounds_toArray, List.set_cons_zero, List.set_cons_succ])
                  refine wpAnyH_take (i := 12) (oi := _) (v := ?_) rfl (by kernel_rfl) (by kernel_rfl) (by kernel_rfl) (fun _ _ _ h => h) (Or.inl ⟨by rfl, ?_⟩) (by assumption) ?_
                  rotate_left
                  · (intro w hSw; (try dsimp only at hSw); go_simp; (try with_reducible rfl))
                  (try simp only [List.getElem_toArray, List.getElem_cons_succ, List.getElem_cons_zero, Act.put, List.setIfInBounds_toArray, List.set_cons_zero, List.set_cons_succ])
                  refine wpAnyH_ready (rs := [13]) (by kernel_rfl) (by simp) ?_
                  refine AllReadyH.cons (o := _) rfl (fun K hK => ?_) ?_
                  · go_simp
                    refine hK.out _ _ ?_ (fun hHeld => ?_)
                    · trivial
                    clear hK K
                    (try simp only [List.getElem_toArray, List.getElem_cons_succ, List.getElem_cons_zero, Act.put, List.setIfInBounds_toArray, List.set_cons_zero, List.set_cons_succ])
                    refine wpAnyH_done (by kernel_rfl) ?_ _
                    (try go_simp)
                    have hG := outsI_grow rk H5.out.2.2.1 hlt HB.out.2.2.1 HB.out.2.2.2.2.1 H4.out.1 H4.out.2.1 H4.out.2.2.1 H4.out.2.2.2
                    have HG : Hid _ := hG
                    clear hG cu2 cuf2
                    go_wp2_with fail
                    go_roundg (m - (q + 1))
                    case measure => omega
                    case rel => exact ⟨q + 1, _, rfl, by omega, by go_num, HG.out.1, HG.out.2.1.congr fun i _ => by rw [HB.out.2.2.2.2.2.1]; exact tabR_next _ _ _ _ _⟩
                  exact AllReadyH.nil
                exact AllReadyH.nil
              exact AllReadyH.nil
            exact AllReadyH.nil
          exact AllReadyH.nil
        · obtain rfl : q = m := by omega
          have p2 : ¬ (q : Int) < (q : Int) := by omega
          have HB : Hid _ := And.intro hA hOs
          clear hA hOs
          go_wp2_with fail
          go_roundg (q - (p + 1))
          case measure => omega
          case rel => exact ⟨p + 1, us, rfl, by omega, by go_num, HB.out.1, HB.out.2.congr fun i _ => tabR_row _ _ _ _⟩
    · obtain rfl : p = m := by omega
      have p1 : ¬ (p : Int) < (p : Int) := by omega
      have HA : Hid _ := And.intro hA hOs
      clear hA hOs
      go_wp2_with fail
      go_ret
      refine ⟨_, rfl, us, R, H2.out.2.1, HA.out.1.back H2.out.1, ?_⟩
      exact (HA.out.2.congr fun i hi => by unfold tabR; rw [if_pos hi]).base H2.out.1.size
end Go.Proofs.YtpmanmoljlhogaaGreatDoor
/- Contract of the program's Ranks of too many states; ranks as rows that a book takes. -/
namespace Go.Proofs.YtpmanmoljlhogaaGreatDoor
open Go.RowKit Go.Maps
attribute [local go_sem ↓] Go.wp_at_zero Go.wp_at_succ
set_option maxRecDepth 100000 in
set_option maxHeartbeats 4000000 in
theorem ranks_long (hS : SortOk 1000000) (m : Nat) (k s : Int) (v : Value) (es : List Sy.Ed) (a a2 : Addr) (w : World) (hA : Sent w 14 a) (hA2 : Sent w 1 a2) (hv : BEdges.Has w v es) (hm : es.length ≤ 100000) (hq : Sy.right m k s es = true) (h3 : 300 < m) :
    Calls Tryz.prog 21 #[sysV m k s v] w fun r w' => ∃ b, r = .returned (.tuple #[.slice none 0 0, .iface 76 (.pointer (some ⟨b, 0, none⟩))]) ∧ Chain w' 0 0 a2 [rndB] (.iface 76 (.pointer (some ⟨b, 0, none⟩))) ∧ Below w.heap.size w w' := by
  have hv0 := hv
  obtain ⟨ao, cap, rfl, _⟩ := hv0
  obtain ⟨L, hL⟩ : ∃ L, L = es.length := ⟨_, rfl⟩
  obtain ⟨w1, hw1⟩ : ∃ w1, w1 = w.alloc (.cells #[.int .i64 m, .int .i64 k, .int .i64 s, .slice ao L cap] 24) := ⟨_, rfl⟩
  have hb1 : Below w.heap.size w w1 := by rw [hw1]; exact (Below.refl _ _).alloc (Nat.le_refl _) _
  have hg1 : w1.heap[w.heap.size]? = some (.cells #[.int .i64 m, .int .i64 k, .int .i64 s, .slice ao L cap] 24 (0, 0)) := by rw [hw1]; exact heap_alloc_new w _
  have hN := roundsOf_ok hS m k s _ es a w1 (hA.below hb1) (hv.below hb1) hm hq
  rw [← hL] at hN ⊢
  unfold sysV at hN ⊢
  have H1 : Hid _ := And.intro hw1 (And.intro hb1 (And.intro hN (And.intro hg1 hA2)))
  obtain ⟨x0, x1, x2, x3⟩ := four_cells hg1
  clear hA hA2 hv hm hq hw1 hb1 hg1 hN hL
  go_enter Tryz.func21, Tryz.ntmps21
  go_upto_region 1 with fail
  rw [← H1.out.1]
  go_wp2_with fail
  refine Calls.mono H1.out.2.2.1 ?_
  rintro r w2 ⟨b1, b2, gs, rfl, hO2⟩
  unfold roundsV
  have hb02 := bel6 hO2.bl H1.out.2.1
  have hA2 := H1.out.2.2.2.2.below hb02
  have hgl := hA2.1
  have hFt := rfault_any 305 (.pointer (some a2)) w2 a2 [] rfl
  clear x0 x1 x2 x3
  obtain ⟨x0, x1, x2, x3⟩ := four_cells (res_up6 hO2.bl H1.out.2.2.2.1)
  have g4 : (300 : Int) < (m : Int) := by omega
  have H2 : Hid _ := And.intro hFt hb02
  clear hO2 hb02 hA2 hFt
  go_wp2_with fail
  refine Calls.mono H2.out.1 ?_
  rintro r w3 ⟨b, rfl, hC3, hb3⟩
  have H3 : Hid _ := And.intro hC3 (bel6 hb3 H2.out.2)
  clear hC3 hb3
  go_wp2_with fail
  go_ret2
  exact ⟨_, rfl, H3.out.1, H3.out.2⟩
/-- The ranks of all states, row by row. -/
def ranksD (m : Nat) (out : Nat → List Ro.St) (R : Nat) : List (List Int) := (List.range m).map fun p => (List.range m).map (Ro.rank m out R p)
theorem ranksD_len (m : Nat) (out : Nat → List Ro.St) (R : Nat) : (ranksD m out R).length = m := by simp [ranksD]
theorem ranksD_at {m R p : Nat} {out : Nat → List Ro.St} {r : List Int} (h : (ranksD m out R)[p]? = some r) : p < m ∧ r = (List.range m).map (Ro.rank m out R p) := by
  have hp := (List.getElem?_eq_some_iff.1 h).1
  rw [ranksD_len] at hp
  unfold ranksD at h
  rw [List.getElem?_map, List.getElem?_range hp] at h
  exact ⟨hp, (Option.some.inj h).symm⟩
/-- The program's. -/
theorem rows_ranks {W : World} {B T m R : Nat} {out : Nat → List Ro.St} {rb : Nat → Nat} {cs : Array Value} (hm : m ≤ 1000) (h : RkAt W T m rb (rkT m out (R + 1))) (hc : W.heap[T]? = some (.cells cs 57 (0, 0))) (hs : cs.size = m) (hT : B ≤ T) (hr : ∀ p, p < m → B ≤ rb p) : WIR.RowsRows W B (.slice (some ⟨T, 0, none⟩) m m) (ranksD m out R) := by
  have hat : ∀ p, p < m → cs.toList[p]? = some (.slice (some ⟨rb p, 0, none⟩) m m) := fun p hp => by
    have h1 := h.tab p hp
    unfold World.cell? at h1
    rw [hc] at h1
    simp at h1
    rw [Array.getElem?_toList]
    exact h1
  refine ⟨cs.toList, ?_, fun p r hp => ?_, fun i j u x b hi hj hne hu hx => ?_⟩
  · rw [ranksD_len]
    exact ⟨by simp [hs], .inr ⟨T, m, cs, rfl, hT, hc, Nat.le_refl _, by unfold maxLen; omega, by omega, List.take_of_length_le (by simp [hs])⟩⟩
  · obtain ⟨hpm, rfl⟩ := ranksD_at hp
    obtain ⟨c2, h1, h2⟩ := h.row p hpm
    refine ⟨_, hat p hpm, own_blkI h1 ?_ (hr p hpm) (by simp) (by omega)⟩
    rw [h2]
    simp [iC, rkT, Ro.rank]
  · have hil : i < m := by have := (List.getElem?_eq_some_iff.1 hi).1; simp at this; omega
    have hjl : j < m := by have := (List.getElem?_eq_some_iff.1 hj).1; simp at this; omega
    rw [hat i hil] at hi
    rw [hat j hjl] at hj
    cases hi; cases hj
    simp only [Value.ownBlock, Option.some.injEq] at hu hx
    exact hne (h.ne i j hil hjl (by omega))
/-- The document's. -/
theorem rows_docRanks {W w : World} {g m R : Nat} {out : Nat → List Ro.St} {us : List Value} (hm : m ≤ 1000) (hA : Arr 57 w W g us) (hO : OutsI W w.heap.size us m (fun p => (List.range m).map (Ro.rank m out R p))) : WIR.RowsRows W w.heap.size (.slice (some ⟨g, 0, none⟩) m m) (ranksD m out R) := by
  refine ⟨us, ?_, fun p r hp => ?_, hO.ap⟩
  · have h1 := hA.own (by rw [hO.len]; unfold maxLen; omega)
    rw [hO.len] at h1
    rw [ranksD_len]
    exact h1
  · obtain ⟨hpm, rfl⟩ := ranksD_at hp
    exact hO.row p hpm
end Go.Proofs.YtpmanmoljlhogaaGreatDoor
