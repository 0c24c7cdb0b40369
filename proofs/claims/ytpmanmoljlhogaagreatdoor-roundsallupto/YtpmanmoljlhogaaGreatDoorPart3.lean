/- Texts of this claim, joined: BookApIR, BookWIR, SySmI, BkRows, RoPure. -/
import Derived.Test.YtpmanmoljlhogaaGreatDoorPart1
import Derived.Test.YtpmanmoljlhogaaGreatDoorPart2
import Derived.Test.YtpmanmoljlhogaaGreatDoorPart0
import Derived.Deep.DeepCutAuto
import Derived.Deep.QuietTactic
import Derived.BigQuiet
import Derived.Deep.RegionHeld3
import GoSem.Claim
/- Contract of the book's Apart, where it has lists of these kinds alone: Ints, Rows. (Written by mkap.py.) -/
namespace Go.Proofs.YtpmanmoljlhogaaGreatDoor.ApIR
open Go.RowKit Go.Maps
attribute [local go_sem ↓] Go.wp_at_zero Go.wp_at_succ
/-- Of the other kinds the book has none. -/
structure Oth (w : World) (bk : Nat) : Prop where
  dTokens : w.cell? ⟨bk, 2, none⟩ = some (.slice none 0 0)
  dTexts : w.cell? ⟨bk, 4, none⟩ = some (.slice none 0 0)
  dBools : w.cell? ⟨bk, 6, none⟩ = some (.slice none 0 0)
  dSteps : w.cell? ⟨bk, 8, none⟩ = some (.slice none 0 0)
  dEdges : w.cell? ⟨bk, 10, none⟩ = some (.slice none 0 0)
  dNodes : w.cell? ⟨bk, 12, none⟩ = some (.slice none 0 0)
  dPairs : w.cell? ⟨bk, 14, none⟩ = some (.slice none 0 0)
  dLines : w.cell? ⟨bk, 18, none⟩ = some (.slice none 0 0)
  dWalks : w.cell? ⟨bk, 20, none⟩ = some (.slice none 0 0)
theorem Oth.block {w w' : World} {bk : Nat} (h : Oth w bk) (hb : w'.heap[bk]? = w.heap[bk]?) : Oth w' bk :=
  ⟨(World.cell?_of_block (a := ⟨bk, 2, none⟩) hb).trans h.dTokens, (World.cell?_of_block (a := ⟨bk, 4, none⟩) hb).trans h.dTexts, (World.cell?_of_block (a := ⟨bk, 6, none⟩) hb).trans h.dBools, (World.cell?_of_block (a := ⟨bk, 8, none⟩) hb).trans h.dSteps, (World.cell?_of_block (a := ⟨bk, 10, none⟩) hb).trans h.dEdges, (World.cell?_of_block (a := ⟨bk, 12, none⟩) hb).trans h.dNodes, (World.cell?_of_block (a := ⟨bk, 14, none⟩) hb).trans h.dPairs, (World.cell?_of_block (a := ⟨bk, 18, none⟩) hb).trans h.dLines, (World.cell?_of_block (a := ⟨bk, 20, none⟩) hb).trans h.dWalks⟩
theorem Oth.lt {w : World} {bk : Nat} (h : Oth w bk) : bk < w.heap.size := World.block_lt_of_cell? w _ h.dTokens
theorem Oth.below {w w' : World} {bk : Nat} (h : Oth w bk) (hb : Below w.heap.size w w') : Oth w' bk := h.block (hb.block bk h.lt)
theorem Oth.kept {F : Nat → Prop} {w w' : World} {bk : Nat} (h : Oth w bk) (hk : Kept F w w') (hF : ¬ F bk) : Oth w' bk := h.block (hk.block bk h.lt hF)
/-- Lists of unlike kinds lie apart. -/
structure Dis (w : World) (bk : Nat) (viInts : Value) (lsInts : List Value) (viRows : Value) (lsRows : List Value) : Prop where
  ltInts : ∀ b, LsF lsInts b → b < w.heap.size
  bkInts : ¬ LsF lsInts bk
  ltRows : ∀ b, LsF lsRows b → b < w.heap.size
  bkRows : ¬ LsF lsRows bk
  rIntsRows : ∀ b, viRows.ownBlock = some b → ¬ LsF lsInts b
  lIntsRows : ∀ b, LsF lsRows b → ¬ LsF lsInts b
  rRowsInts : ∀ b, viInts.ownBlock = some b → ¬ LsF lsRows b
  lRowsInts : ∀ b, LsF lsInts b → ¬ LsF lsRows b
theorem dis_of {w : World} {bk : Nat} {viInts vwInts : Value} {lsInts wsInts : List Value} {zssInts : List (List Int)} {viRows vwRows : Value} {lsRows wsRows : List Value} {zssRows : List (List BRows.El)} (hInts : Bs w bk viInts vwInts lsInts wsInts zssInts) (hRows : BRows.Bs w bk viRows vwRows lsRows wsRows zssRows) (hXRows : ∀ b, viInts.ownBlock = some b → ¬ LsF lsRows b) : Dis w bk viInts lsInts viRows lsRows :=
  ⟨fun _ hb => BInts.Bp.lsf_lt hInts.p hb, BInts.Bp.far_bk hInts.p, fun _ hb => BRows.Bp.lsf_lt hRows.p hb, BRows.Bp.far_bk hRows.p, fun _ hb => BInts.Bp.far_of hInts.p hRows.p.ri (by decide) hb, fun _ hb => by obtain ⟨_, _, _, _, ho, hob⟩ := BRows.Bp.typed hRows.p hb; exact BInts.Bp.far_of hInts.p ho (by decide) hob, hXRows, fun _ hb => by obtain ⟨_, _, _, _, ho, hob⟩ := BInts.Bp.typed hInts.p hb; exact BRows.Bp.far_of hRows.p ho (by decide) hob⟩
set_option maxRecDepth 100000 in
set_option maxHeartbeats 16000000 in
theorem apart_any (bk : Nat) (viInts vwInts : Value) (lsInts wsInts : List Value) (zssInts : List (List Int)) (viRows vwRows : Value) (lsRows wsRows : List Value) (zssRows : List (List BRows.El)) (w : World) (hInts : Bs w bk viInts vwInts lsInts wsInts zssInts) (hRows : BRows.Bs w bk viRows vwRows lsRows wsRows zssRows) (hXRows : ∀ b, viInts.ownBlock = some b → ¬ LsF lsRows b) (hRRows : BRows.Rd w zssRows) (ho : Oth w bk) :
    Calls Tryz.prog 16 #[.pointer (some ⟨bk, 0, none⟩)] w fun r w' => r = .returned (.bool true) ∧ Kept (fun b => LsF lsInts b ∨ LsF lsRows b) w w' := by
  have HD : Hid _ := And.intro (dis_of hInts hRows hXRows) (And.intro (And.intro hInts.p.len hInts.p.sz) (And.intro hRows.p.len hRows.p.sz))
  have S0 : Hid _ := And.intro (hInts) (And.intro (And.intro hRows hRRows) (And.intro (ho) (Kept.refl (fun b => LsF lsInts b ∨ LsF lsRows b) w)))
  clear hInts hRows hRRows hXRows ho
  go_enter Tryz.func16, Tryz.ntmps16
  go_wp2_with (first
    | (go_at_call 38; refine (still_any bk viInts vwInts lsInts wsInts zssInts _ (S0.out.1)).mono ?_; rintro r1 ws1 ⟨rfl, hb⟩; have S1 : Hid _ := And.intro ((S0.out.1).below hb) (And.intro (And.intro ((S0.out.2.1).1.below hb) ((S0.out.2.1).2.below hb)) (And.intro ((S0.out.2.2.1).below hb) ((S0.out.2.2.2).trans (Kept.of_below hb)))); clear hb S0)
    | (go_at_call 39; refine (stillTokens_nil bk _ (S1.out.2.2.1).dTokens).mono ?_; rintro r9 w9 ⟨rfl, hw⟩; obtain rfl := hw.symm; clear hw)
    | (go_at_call 40; refine (stillTexts_nil bk _ (S1.out.2.2.1).dTexts).mono ?_; rintro r9 w9 ⟨rfl, hw⟩; obtain rfl := hw.symm; clear hw)
    | (go_at_call 41; refine (stillBools_nil bk _ (S1.out.2.2.1).dBools).mono ?_; rintro r9 w9 ⟨rfl, hw⟩; obtain rfl := hw.symm; clear hw)
    | (go_at_call 42; refine (stillSteps_nil bk _ (S1.out.2.2.1).dSteps).mono ?_; rintro r9 w9 ⟨rfl, hw⟩; obtain rfl := hw.symm; clear hw)
    | (go_at_call 43; refine (stillEdges_nil bk _ (S1.out.2.2.1).dEdges).mono ?_; rintro r9 w9 ⟨rfl, hw⟩; obtain rfl := hw.symm; clear hw)
    | (go_at_call 44; refine (stillNodes_nil bk _ (S1.out.2.2.1).dNodes).mono ?_; rintro r9 w9 ⟨rfl, hw⟩; obtain rfl := hw.symm; clear hw)
    | (go_at_call 45; refine (stillPairs_nil bk _ (S1.out.2.2.1).dPairs).mono ?_; rintro r9 w9 ⟨rfl, hw⟩; obtain rfl := hw.symm; clear hw)
    | (go_at_call 46; refine (BRows.still_any bk viRows vwRows lsRows wsRows zssRows _ (S1.out.2.1).1 (S1.out.2.1).2).mono ?_; rintro r1 ws2 ⟨rfl, hb⟩; have S2 : Hid _ := And.intro ((S1.out.1).below hb) (And.intro (And.intro ((S1.out.2.1).1.below hb) ((S1.out.2.1).2.below hb)) (And.intro ((S1.out.2.2.1).below hb) ((S1.out.2.2.2).trans (Kept.of_below hb)))); clear hb S1)
    | (go_at_call 47; refine (stillLines_nil bk _ (S2.out.2.2.1).dLines).mono ?_; rintro r9 w9 ⟨rfl, hw⟩; obtain rfl := hw.symm; clear hw)
    | (go_at_call 48; refine (stillWalks_nil bk _ (S2.out.2.2.1).dWalks).mono ?_; rintro r9 w9 ⟨rfl, hw⟩; obtain rfl := hw.symm; clear hw)
    | (go_at_call 49; refine (putI_any bk viInts lsInts zssInts _ (S2.out.1.p)).mono ?_; rintro r2 wp1 ⟨rfl, hp, hk⟩; have P1 : Hid _ := And.intro (hp) (And.intro (And.intro (BRows.Bp.keep (S2.out.2.1.1.p) hk HD.out.1.bkInts HD.out.1.rIntsRows HD.out.1.lIntsRows) True.intro) (And.intro ((S2.out.2.2.1).kept hk HD.out.1.bkInts) ((S2.out.2.2.2).trans (hk.mono fun _ _ hb => (.inl hb))))); clear hp hk S2)
    | (go_at_call 50; refine (putTokens_nil bk _ (P1.out.2.2.1).dTokens).mono ?_; rintro r9 w9 ⟨rfl, hw⟩; obtain rfl := hw.symm; clear hw)
    | (go_at_call 51; refine (putTexts_nil bk _ (P1.out.2.2.1).dTexts).mono ?_; rintro r9 w9 ⟨rfl, hw⟩; obtain rfl := hw.symm; clear hw)
    | (go_at_call 52; refine (putBools_nil bk _ (P1.out.2.2.1).dBools).mono ?_; rintro r9 w9 ⟨rfl, hw⟩; obtain rfl := hw.symm; clear hw)
    | (go_at_call 53; refine (putSteps_nil bk _ (P1.out.2.2.1).dSteps).mono ?_; rintro r9 w9 ⟨rfl, hw⟩; obtain rfl := hw.symm; clear hw)
    | (go_at_call 54; refine (putEdges_nil bk _ (P1.out.2.2.1).dEdges).mono ?_; rintro r9 w9 ⟨rfl, hw⟩; obtain rfl := hw.symm; clear hw)
    | (go_at_call 55; refine (putNodes_nil bk _ (P1.out.2.2.1).dNodes).mono ?_; rintro r9 w9 ⟨rfl, hw⟩; obtain rfl := hw.symm; clear hw)
    | (go_at_call 56; refine (putPairs_nil bk _ (P1.out.2.2.1).dPairs).mono ?_; rintro r9 w9 ⟨rfl, hw⟩; obtain rfl := hw.symm; clear hw)
    | (go_at_call 57; refine (BRows.putI_any bk viRows lsRows zssRows _ (P1.out.2.1.1)).mono ?_; rintro r2 wp2 ⟨rfl, mssRows, hp, hmk, hk⟩; have P2 : Hid _ := And.intro (BInts.Bp.keep (P1.out.1) hk HD.out.1.bkRows HD.out.1.rRowsInts HD.out.1.lRowsInts) (And.intro (And.intro hp (hmk.base (P1.out.2.2.2).size)) (And.intro ((P1.out.2.2.1).kept hk HD.out.1.bkRows) ((P1.out.2.2.2).trans (hk.mono fun _ _ hb => (.inr (hb)))))); clear hp hk hmk P1)
    | (go_at_call 58; refine (putLines_nil bk _ (P2.out.2.2.1).dLines).mono ?_; rintro r9 w9 ⟨rfl, hw⟩; obtain rfl := hw.symm; clear hw)
    | (go_at_call 59; refine (putWalks_nil bk _ (P2.out.2.2.1).dWalks).mono ?_; rintro r9 w9 ⟨rfl, hw⟩; obtain rfl := hw.symm; clear hw)
    | (go_at_call 60; refine (growI_any bk viInts lsInts (allM zssInts) _ (P2.out.1)).mono ?_; rintro r3 wg1 ⟨voInts, osInts, rfl, hG⟩; have hM := And.intro (BInts.gr_marked hG) (And.intro hG.c0 (P2.out.2.2.2).size); have G1 : Hid _ := And.intro (hM) (And.intro (And.intro (BRows.Bp.keep (P2.out.2.1).1 hG.kp HD.out.1.bkInts HD.out.1.rIntsRows HD.out.1.lIntsRows) ((P2.out.2.1).2.up hG.kp (fun g _ hg _ hf => by have := HD.out.1.ltInts g hf; omega))) (And.intro ((P2.out.2.2.1).kept hG.kp HD.out.1.bkInts) ((P2.out.2.2.2).trans (hG.kp.mono fun _ _ hb => (.inl hb))))); clear hM hG P2)
    | (go_at_call 61; refine (growTokens_nil bk _ (G1.out.2.2.1).dTokens).mono ?_; rintro r9 w9 ⟨rfl, hw⟩; obtain rfl := hw.symm; clear hw)
    | (go_at_call 62; refine (growTexts_nil bk _ (G1.out.2.2.1).dTexts).mono ?_; rintro r9 w9 ⟨rfl, hw⟩; obtain rfl := hw.symm; clear hw)
    | (go_at_call 63; refine (growBools_nil bk _ (G1.out.2.2.1).dBools).mono ?_; rintro r9 w9 ⟨rfl, hw⟩; obtain rfl := hw.symm; clear hw)
    | (go_at_call 64; refine (growSteps_nil bk _ (G1.out.2.2.1).dSteps).mono ?_; rintro r9 w9 ⟨rfl, hw⟩; obtain rfl := hw.symm; clear hw)
    | (go_at_call 65; refine (growEdges_nil bk _ (G1.out.2.2.1).dEdges).mono ?_; rintro r9 w9 ⟨rfl, hw⟩; obtain rfl := hw.symm; clear hw)
    | (go_at_call 66; refine (growNodes_nil bk _ (G1.out.2.2.1).dNodes).mono ?_; rintro r9 w9 ⟨rfl, hw⟩; obtain rfl := hw.symm; clear hw)
    | (go_at_call 67; refine (growPairs_nil bk _ (G1.out.2.2.1).dPairs).mono ?_; rintro r9 w9 ⟨rfl, hw⟩; obtain rfl := hw.symm; clear hw)
    | (go_at_call 68; refine (BRows.growI_any bk viRows lsRows mssRows _ (G1.out.2.1).1).mono ?_; rintro r3 wg2 ⟨voRows, osRows, rfl, hG⟩; have hM := And.intro (BRows.gr_marked hG (G1.out.2.1).1 (G1.out.2.1).2 (G1.out.2.2.2).size) (And.intro hG.c0 (G1.out.2.2.2).size); have G2 : Hid _ := And.intro (And.intro (And.intro ((G1.out.1).1.1.kept hG.kp (fun b hb hg => hb.elim (fun e => HD.out.1.lRowsInts b e hg) (fun e => e.elim (fun e => HD.out.1.rRowsInts b e hg) (fun e => by have := HD.out.1.ltRows b hg; have := (G1.out.1).2.2; omega)))) ((G1.out.1).1.2.kept hG.kp (fun b hb hg => hb.elim (fun e => HD.out.1.lRowsInts b e hg) (fun e => e.elim (fun e => HD.out.1.rRowsInts b e hg) (fun e => by have := HD.out.1.ltRows b hg; have := (G1.out.1).2.2; omega))))) (And.intro ((World.cell?_of_block (a := ⟨bk, 0, none⟩) (hG.kp.block bk (G1.out.2.2.1).lt HD.out.1.bkRows)).trans (G1.out.1).2.1) (G1.out.1).2.2)) (And.intro (hM) (And.intro ((G1.out.2.2.1).kept hG.kp HD.out.1.bkRows) ((G1.out.2.2.2).trans (hG.kp.mono fun _ _ hb => (.inr (hb)))))); clear hM hG G1)
    | (go_at_call 69; refine (growLines_nil bk _ (G2.out.2.2.1).dLines).mono ?_; rintro r9 w9 ⟨rfl, hw⟩; obtain rfl := hw.symm; clear hw)
    | (go_at_call 70; refine (growWalks_nil bk _ (G2.out.2.2.1).dWalks).mono ?_; rintro r9 w9 ⟨rfl, hw⟩; obtain rfl := hw.symm; clear hw)
    | fail)
  refine (markedI_any voInts (zssInts.map fun z => z.length + 96) _ (G2.out.1).1.1.mr (by rw [List.length_map]; exact HD.out.2.1.1) (fun n hn => by obtain ⟨z, hz, rfl⟩ := List.mem_map.1 hn; have := HD.out.2.1.2 z hz; omega)).mono ?_
  rintro r4 wm1 ⟨rfl, hb⟩
  have M1 : Hid _ := And.intro (And.intro (And.intro ((G2.out.1).1.1.below hb) ((G2.out.1).1.2.below hb)) (And.intro (cell_up (G2.out.1).2.1 hb) (G2.out.1).2.2)) (And.intro (And.intro (And.intro ((G2.out.2.1).1.1.below hb) ((G2.out.2.1).1.2.below hb)) (And.intro (cell_up (G2.out.2.1).2.1 hb) (G2.out.2.1).2.2)) (And.intro ((G2.out.2.2.1).below hb) ((G2.out.2.2.2).trans (Kept.of_below hb))))
  clear hb G2
  have cInts := (M1.out.1).2.1
  go_wp2_with fail
  clear cInts
  refine (markedI_any viInts (zssInts.map List.length) _ (M1.out.1).1.2.mr (by rw [List.length_map]; exact HD.out.2.1.1) (fun n hn => by obtain ⟨z, hz, rfl⟩ := List.mem_map.1 hn; have := HD.out.2.1.2 z hz; omega)).mono ?_
  rintro r4 wm2 ⟨rfl, hb⟩
  have M2 : Hid _ := And.intro (And.intro (And.intro ((M1.out.1).1.1.below hb) ((M1.out.1).1.2.below hb)) (And.intro (cell_up (M1.out.1).2.1 hb) (M1.out.1).2.2)) (And.intro (And.intro (And.intro ((M1.out.2.1).1.1.below hb) ((M1.out.2.1).1.2.below hb)) (And.intro (cell_up (M1.out.2.1).2.1 hb) (M1.out.2.1).2.2)) (And.intro ((M1.out.2.2.1).below hb) ((M1.out.2.2.2).trans (Kept.of_below hb))))
  clear hb M1
  obtain ⟨dTokens, dTexts, dBools, dSteps, dEdges, dNodes, dPairs, dLines, dWalks⟩ := M2.out.2.2.1
  go_wp2_with (first
    | (go_at_call 72; refine (markedTokens_nil _).mono ?_; rintro r9 w9 ⟨rfl, hw⟩; obtain rfl := hw.symm; clear hw)
    | (go_at_call 73; refine (markedTexts_nil _).mono ?_; rintro r9 w9 ⟨rfl, hw⟩; obtain rfl := hw.symm; clear hw)
    | (go_at_call 74; refine (markedBools_nil _).mono ?_; rintro r9 w9 ⟨rfl, hw⟩; obtain rfl := hw.symm; clear hw)
    | (go_at_call 75; refine (markedSteps_nil _).mono ?_; rintro r9 w9 ⟨rfl, hw⟩; obtain rfl := hw.symm; clear hw)
    | (go_at_call 76; refine (markedEdges_nil _).mono ?_; rintro r9 w9 ⟨rfl, hw⟩; obtain rfl := hw.symm; clear hw)
    | (go_at_call 77; refine (markedNodes_nil _).mono ?_; rintro r9 w9 ⟨rfl, hw⟩; obtain rfl := hw.symm; clear hw)
    | (go_at_call 78; refine (markedPairs_nil _).mono ?_; rintro r9 w9 ⟨rfl, hw⟩; obtain rfl := hw.symm; clear hw)
    | (go_at_call 80; refine (markedLines_nil _).mono ?_; rintro r9 w9 ⟨rfl, hw⟩; obtain rfl := hw.symm; clear hw)
    | (go_at_call 81; refine (markedWalks_nil _).mono ?_; rintro r9 w9 ⟨rfl, hw⟩; obtain rfl := hw.symm; clear hw)
    | fail)
  clear dTokens dTexts dBools dSteps dEdges dNodes dPairs dLines dWalks
  refine (BRows.markedI_any voRows (zssRows.map fun z => z.length + 96) _ (M2.out.2.1).1.1.mr (by rw [List.length_map]; exact HD.out.2.2.1) (fun n hn => by obtain ⟨z, hz, rfl⟩ := List.mem_map.1 hn; have := HD.out.2.2.2 z hz; omega)).mono ?_
  rintro r4 wm3 ⟨rfl, hb⟩
  have M3 : Hid _ := And.intro (And.intro (And.intro ((M2.out.1).1.1.below hb) ((M2.out.1).1.2.below hb)) (And.intro (cell_up (M2.out.1).2.1 hb) (M2.out.1).2.2)) (And.intro (And.intro (And.intro ((M2.out.2.1).1.1.below hb) ((M2.out.2.1).1.2.below hb)) (And.intro (cell_up (M2.out.2.1).2.1 hb) (M2.out.2.1).2.2)) (And.intro ((M2.out.2.2.1).below hb) ((M2.out.2.2.2).trans (Kept.of_below hb))))
  clear hb M2
  have cRows := (M3.out.2.1).2.1
  go_wp2_with fail
  clear cRows
  refine (BRows.markedI_any viRows (zssRows.map List.length) _ (M3.out.2.1).1.2.mr (by rw [List.length_map]; exact HD.out.2.2.1) (fun n hn => by obtain ⟨z, hz, rfl⟩ := List.mem_map.1 hn; have := HD.out.2.2.2 z hz; omega)).mono ?_
  rintro r4 wm4 ⟨rfl, hb⟩
  have M4 : Hid _ := And.intro (And.intro (And.intro ((M3.out.1).1.1.below hb) ((M3.out.1).1.2.below hb)) (And.intro (cell_up (M3.out.1).2.1 hb) (M3.out.1).2.2)) (And.intro (And.intro (And.intro ((M3.out.2.1).1.1.below hb) ((M3.out.2.1).1.2.below hb)) (And.intro (cell_up (M3.out.2.1).2.1 hb) (M3.out.2.1).2.2)) (And.intro ((M3.out.2.2.1).below hb) ((M3.out.2.2.2).trans (Kept.of_below hb))))
  clear hb M3
  obtain ⟨dTokens, dTexts, dBools, dSteps, dEdges, dNodes, dPairs, dLines, dWalks⟩ := M4.out.2.2.1
  go_wp2_with (first
    | (go_at_call 72; refine (markedTokens_nil _).mono ?_; rintro r9 w9 ⟨rfl, hw⟩; obtain rfl := hw.symm; clear hw)
    | (go_at_call 73; refine (markedTexts_nil _).mono ?_; rintro r9 w9 ⟨rfl, hw⟩; obtain rfl := hw.symm; clear hw)
    | (go_at_call 74; refine (markedBools_nil _).mono ?_; rintro r9 w9 ⟨rfl, hw⟩; obtain rfl := hw.symm; clear hw)
    | (go_at_call 75; refine (markedSteps_nil _).mono ?_; rintro r9 w9 ⟨rfl, hw⟩; obtain rfl := hw.symm; clear hw)
    | (go_at_call 76; refine (markedEdges_nil _).mono ?_; rintro r9 w9 ⟨rfl, hw⟩; obtain rfl := hw.symm; clear hw)
    | (go_at_call 77; refine (markedNodes_nil _).mono ?_; rintro r9 w9 ⟨rfl, hw⟩; obtain rfl := hw.symm; clear hw)
    | (go_at_call 78; refine (markedPairs_nil _).mono ?_; rintro r9 w9 ⟨rfl, hw⟩; obtain rfl := hw.symm; clear hw)
    | (go_at_call 80; refine (markedLines_nil _).mono ?_; rintro r9 w9 ⟨rfl, hw⟩; obtain rfl := hw.symm; clear hw)
    | (go_at_call 81; refine (markedWalks_nil _).mono ?_; rintro r9 w9 ⟨rfl, hw⟩; obtain rfl := hw.symm; clear hw)
    | fail)
  go_ret
  exact ⟨rfl, M4.out.2.2.2⟩
end Go.Proofs.YtpmanmoljlhogaaGreatDoor.ApIR
/- A book with lists of these kinds, made since a world: what stands while it takes lists: Ints, Rows. (Written by mkwb.py.) -/
namespace Go.Proofs.YtpmanmoljlhogaaGreatDoor.WIR
open Go.RowKit Go.Maps
attribute [local go_sem ↓] Go.wp_at_zero Go.wp_at_succ
def bookZ : Array Value := Array.replicate 22 (.slice none 0 0)
/-- The book. P: where its lists lie; X: blocks that no row of the kind within uses. -/
structure St (wB wr : World) (PInts PRows XRows : Nat → Prop) (vInts uInts : Value) (lInts mInts : List Value) (zInts : List (List Int)) (vRows uRows : Value) (lRows mRows : List Value) (zRows : List (List BRows.El)) : Prop where
  bInts : Bs wr wB.heap.size vInts uInts lInts mInts zInts
  bRows : BRows.Bs wr wB.heap.size vRows uRows lRows mRows zRows
  roRows : ∀ us ∈ zRows, ∀ z ∈ us, ∃ zs, zs.length ≤ 1000000 ∧ OwnI wr 0 (BRows.sl z) zs
  ot : ApIR.Oth wr wB.heap.size
  bw : Below wB.heap.size wB wr
  rInts : ∀ b, (vInts.ownBlock = some b ∨ uInts.ownBlock = some b) → wB.heap.size ≤ b
  hInts : ∀ l ∈ lInts, ∀ b, l.ownBlock = some b → wB.heap.size ≤ b ∧ PInts b
  rRows : ∀ b, (vRows.ownBlock = some b ∨ uRows.ownBlock = some b) → wB.heap.size ≤ b
  hRows : ∀ l ∈ lRows, ∀ b, l.ownBlock = some b → wB.heap.size ≤ b ∧ PRows b
  xRows : ∀ b, XRows b → b < wr.heap.size ∧ vInts.ownBlock ≠ some b ∧ uInts.ownBlock ≠ some b
  xlRows : ∀ l, (l ∈ lRows ∨ l ∈ mRows) → ∀ b, l.ownBlock = some b → XRows b
def E (wB wr : World) (PInts PRows XRows : Nat → Prop) : Prop := ∃ vInts uInts lInts mInts zInts vRows uRows lRows mRows zRows, St wB wr PInts PRows XRows vInts uInts lInts mInts zInts vRows uRows lRows mRows zRows
theorem E.mono {wB wr : World} {PInts PRows XRows : Nat → Prop} {PInts' PRows' : Nat → Prop} (h : E wB wr PInts PRows XRows) (qInts : ∀ b, b < wr.heap.size → PInts b → PInts' b) (qRows : ∀ b, b < wr.heap.size → PRows b → PRows' b) : E wB wr PInts' PRows' XRows := by
  obtain ⟨vInts, uInts, lInts, mInts, zInts, vRows, uRows, lRows, mRows, zRows, h⟩ := h
  exact ⟨vInts, uInts, lInts, mInts, zInts, vRows, uRows, lRows, mRows, zRows, h.bInts, h.bRows, h.roRows, h.ot, h.bw, h.rInts, fun l hl b hb => ⟨(h.hInts l hl b hb).1, qInts b (BInts.Bp.lsf_lt h.bInts.p ⟨l, hl, hb⟩) (h.hInts l hl b hb).2⟩, h.rRows, fun l hl b hb => ⟨(h.hRows l hl b hb).1, qRows b (BRows.Bp.lsf_lt h.bRows.p ⟨l, hl, hb⟩) (h.hRows l hl b hb).2⟩, h.xRows, h.xlRows⟩
theorem E.below {wB wr w' : World} {PInts PRows XRows : Nat → Prop} (h : E wB wr PInts PRows XRows) (hb : Below wr.heap.size wr w') : E wB w' PInts PRows XRows := by
  obtain ⟨vInts, uInts, lInts, mInts, zInts, vRows, uRows, lRows, mRows, zRows, h⟩ := h
  exact ⟨vInts, uInts, lInts, mInts, zInts, vRows, uRows, lRows, mRows, zRows, h.bInts.below hb, h.bRows.below hb, fun us hu z hz => by obtain ⟨zs, h1, h2⟩ := h.roRows us hu z hz; exact ⟨zs, h1, trow_at h2 fun i hi => hb.block i (h2.lt i hi).2⟩, h.ot.below hb, h.bw.trans (hb.mono h.bw.size), h.rInts, h.hInts, h.rRows, h.hRows, fun b hx => ⟨by have := (h.xRows b hx).1; have := hb.size; omega, (h.xRows b hx).2⟩, h.xlRows⟩
theorem E.bw {wB wr : World} {PInts PRows XRows : Nat → Prop} (h : E wB wr PInts PRows XRows) : Below wB.heap.size wB wr := by
  obtain ⟨vInts, uInts, lInts, mInts, zInts, vRows, uRows, lRows, mRows, zRows, h⟩ := h
  exact h.bw
/-- Blocks that came since are none that the book's rows use. -/
theorem E.moreRows {wB wr w' : World} {PInts PRows XRows : Nat → Prop} (h : E wB wr PInts PRows XRows) (hb : Below wr.heap.size wr w') {Y : Nat → Prop} (hY : ∀ b, Y b → wr.heap.size ≤ b ∧ b < w'.heap.size) : E wB w' PInts PRows (fun b => XRows b ∨ Y b) := by
  obtain ⟨vInts, uInts, lInts, mInts, zInts, vRows, uRows, lRows, mRows, zRows, h⟩ := h
  exact ⟨vInts, uInts, lInts, mInts, zInts, vRows, uRows, lRows, mRows, zRows, h.bInts.below hb, h.bRows.below hb, fun us hu z hz => by obtain ⟨zs, h1, h2⟩ := h.roRows us hu z hz; exact ⟨zs, h1, trow_at h2 fun i hi => hb.block i (h2.lt i hi).2⟩, h.ot.below hb, h.bw.trans (hb.mono h.bw.size), h.rInts, h.hInts, h.rRows, h.hRows, fun b hx => hx.elim (fun hx => ⟨by have := (h.xRows b hx).1; have := hb.size; omega, (h.xRows b hx).2⟩) (fun hx => ⟨(hY b hx).2, fun e => by have := (h.bInts.p.ri.lt b e).2; have := (hY b hx).1; omega, fun e => by have := (h.bInts.rw.lt b e).2; have := (hY b hx).1; omega⟩), fun l hl b hb => .inl (h.xlRows l hl b hb)⟩
theorem new (wB : World) : E wB (wB.alloc (.cells bookZ 40)) (fun _ => False) (fun _ => False) (fun _ => False) := by
  have h := (MapKept.heap_alloc wB (.cells bookZ 40)).1
  have hc : ∀ k, k < 22 → (wB.alloc (.cells bookZ 40)).cell? ⟨wB.heap.size, k, none⟩ = some (.slice none 0 0) := fun k hk => by
    have h2 : bookZ[k]? = some (.slice none 0 0) := by unfold bookZ; rw [Array.getElem?_replicate, if_pos hk]
    exact cell0_of h h2
  exact ⟨.slice none 0 0, .slice none 0 0, [], [], [], .slice none 0 0, .slice none 0 0, [], [], [], ⟨⟨hc _ (by omega), World.ownsRow_nil _ _ _ _, fun k l zs h1 => by simp at h1, ⟨fun l hl => by simp at hl, fun l hl => by simp at hl, by simp [Value.ownBlock], fun i j l m hl => by simp at hl⟩, by simp, fun zs h => by simp at h⟩, hc _ (by omega), World.ownsRow_nil _ _ _ _, fun k l zs h1 => by simp at h1, ⟨_, h, by unfold bookZ; simp⟩, fun k hk => by simp [Value.ownBlock] at hk⟩, ⟨⟨hc _ (by omega), World.ownsRow_nil _ _ _ _, fun k l zs h1 => by simp at h1, ⟨fun l hl => by simp at hl, fun l hl => by simp at hl, by simp [Value.ownBlock], fun i j l m hl => by simp at hl⟩, by simp, fun zs h => by simp at h⟩, hc _ (by omega), World.ownsRow_nil _ _ _ _, fun k l zs h1 => by simp at h1, ⟨_, h, by unfold bookZ; simp⟩, fun k hk => by simp [Value.ownBlock] at hk⟩, fun us hu => by simp at hu, ⟨hc _ (by omega), hc _ (by omega), hc _ (by omega), hc _ (by omega), hc _ (by omega), hc _ (by omega), hc _ (by omega), hc _ (by omega), hc _ (by omega)⟩, (Below.refl _ _).alloc (Nat.le_refl _) _, fun b hb => by simp [Value.ownBlock] at hb, fun l hl => by simp at hl, fun b hb => by simp [Value.ownBlock] at hb, fun l hl => by simp at hl, fun b hb => hb.elim, fun l hl => by simp at hl⟩
/-- Blocks of other types stand, and those of X. -/
def Fr (XRows : Nat → Prop) (w w' : World) : Prop := w.heap.size ≤ w'.heap.size ∧ ∀ (g : Nat) (cs : Array Value) (t : TypeId), w.heap[g]? = some (.cells cs t (0, 0)) → 40 ≠ t → (57 ≠ t ∨ XRows g) → 28 ≠ t → w'.heap[g]? = some (.cells cs t (0, 0))
theorem Fr.refl (XRows : Nat → Prop) (w : World) : Fr XRows w w := ⟨Nat.le_refl _, fun _ _ _ h _ _ _ => h⟩
theorem Fr.trans {XRows : Nat → Prop} {a b c : World} (h : Fr XRows a b) (k : Fr XRows b c) : Fr XRows a c := ⟨Nat.le_trans h.1 k.1, fun g cs t hg c0 c1 c2 => k.2 g cs t (h.2 g cs t hg c0 c1 c2) c0 c1 c2⟩
theorem Fr.of_below {XRows : Nat → Prop} {a b : World} (h : Below a.heap.size a b) : Fr XRows a b := ⟨h.size, fun g _ _ hg _ _ _ => (h.block g (t_lt hg)).trans hg⟩
theorem Fr.own {XRows : Nat → Prop} {w w' : World} (h : Fr XRows w w') {B : Nat} {e : TypeId} {sz : Nat} {v : Value} {n : Nat} {xs : List Value} (ho : w.ownsRow B e sz v n xs) (hc : ∀ b, v.ownBlock = some b → 40 ≠ e ∧ (57 ≠ e ∨ XRows b) ∧ 28 ≠ e) : w'.ownsRow B e sz v n xs := trow_at ho fun i hi => by
  obtain ⟨c, hr⟩ := row_cells ho hi
  obtain ⟨c0, c1, c2⟩ := hc i hi
  rw [hr]; exact h.2 i c _ hr c0 c1 c2
theorem Fr.ownInts {XRows : Nat → Prop} {w w' : World} (h : Fr XRows w w') {B : Nat} {v : Value} {n : Nat} {xs : List Value} (ho : w.ownsRow B 3 1 v n xs) : w'.ownsRow B 3 1 v n xs := h.own ho fun _ _ => ⟨by decide, .inl (by decide), by decide⟩
theorem Fr.ownTokens {XRows : Nat → Prop} {w w' : World} (h : Fr XRows w w') {B : Nat} {v : Value} {n : Nat} {xs : List Value} (ho : w.ownsRow B 140 4 v n xs) : w'.ownsRow B 140 4 v n xs := h.own ho fun _ _ => ⟨by decide, .inl (by decide), by decide⟩
theorem Fr.ownTexts {XRows : Nat → Prop} {w w' : World} (h : Fr XRows w w') {B : Nat} {v : Value} {n : Nat} {xs : List Value} (ho : w.ownsRow B 9 1 v n xs) : w'.ownsRow B 9 1 v n xs := h.own ho fun _ _ => ⟨by decide, .inl (by decide), by decide⟩
theorem Fr.ownBools {XRows : Nat → Prop} {w w' : World} (h : Fr XRows w w') {B : Nat} {v : Value} {n : Nat} {xs : List Value} (ho : w.ownsRow B 4 1 v n xs) : w'.ownsRow B 4 1 v n xs := h.own ho fun _ _ => ⟨by decide, .inl (by decide), by decide⟩
theorem Fr.ownSteps {XRows : Nat → Prop} {w w' : World} (h : Fr XRows w w') {B : Nat} {v : Value} {n : Nat} {xs : List Value} (ho : w.ownsRow B 116 2 v n xs) : w'.ownsRow B 116 2 v n xs := h.own ho fun _ _ => ⟨by decide, .inl (by decide), by decide⟩
theorem Fr.ownEdges {XRows : Nat → Prop} {w w' : World} (h : Fr XRows w w') {B : Nat} {v : Value} {n : Nat} {xs : List Value} (ho : w.ownsRow B 66 3 v n xs) : w'.ownsRow B 66 3 v n xs := h.own ho fun _ _ => ⟨by decide, .inl (by decide), by decide⟩
theorem Fr.ownNodes {XRows : Nat → Prop} {w w' : World} (h : Fr XRows w w') {B : Nat} {v : Value} {n : Nat} {xs : List Value} (ho : w.ownsRow B 147 2 v n xs) : w'.ownsRow B 147 2 v n xs := h.own ho fun _ _ => ⟨by decide, .inl (by decide), by decide⟩
theorem Fr.ownPairs {XRows : Nat → Prop} {w w' : World} (h : Fr XRows w w') {B : Nat} {v : Value} {n : Nat} {xs : List Value} (ho : w.ownsRow B 150 2 v n xs) : w'.ownsRow B 150 2 v n xs := h.own ho fun _ _ => ⟨by decide, .inl (by decide), by decide⟩
theorem typed_bk {w : World} {bk g : Nat} {cs cs' : Array Value} {t u : TypeId} (h : w.heap[bk]? = some (.cells cs u (0, 0))) (hg : w.heap[g]? = some (.cells cs' t (0, 0))) (hne : u ≠ t) : g ≠ bk := fun e => by
  subst e
  rw [h] at hg
  injection hg with e
  injection e with _ e
  exact hne e
/-- One more list of Ints. -/
theorem E.addInts {wB wr : World} {PInts PRows XRows : Nat → Prop} (h : E wB wr PInts PRows XRows) (v : Value) (zs : List Int) (B : Nat) (hO : OwnI wr B v zs) (hB : wB.heap.size ≤ B) (hv : ∀ b, v.ownBlock = some b → ¬ PInts b) (hsz : zs.length ≤ 1000000) :
    Calls Tryz.prog 36 #[.pointer (some ⟨wB.heap.size, 0, none⟩), v] wr fun r w' => r = .returned (.tuple #[]) ∧ (E wB w' (fun b => PInts b ∨ v.ownBlock = some b) PRows XRows) ∧ Fr XRows wr w' := by
  obtain ⟨vInts, uInts, lInts, mInts, zInts, vRows, uRows, lRows, mRows, zRows, h⟩ := h
  have hO0 : OwnI wr 0 v zs := row_base hO (Nat.zero_le _)
  by_cases hlen : zInts.length < 400
  · refine (ints_any wB.heap.size vInts uInts v lInts mInts zInts zs wr h.bInts hO0 (fun l hl q hq e => hv q e (h.hInts l hl q hq).2) hlen hsz).mono ?_
    rintro r w' ⟨rfl, vi', vw', v1, hN⟩
    have hup : ∀ b, (b = wB.heap.size ∨ vInts.ownBlock = some b ∨ uInts.ownBlock = some b) → wB.heap.size ≤ b := fun b hb => by
      rcases hb with rfl | hb
      · exact Nat.le_refl _
      · exact h.rInts b hb
    obtain ⟨cs0, hc0, _⟩ := h.bInts.bt
    have hFr : Fr XRows wr w' := ⟨hN.k.size, fun g cs t hg c0 c1 _ => by
      refine (hN.k.block g (t_lt hg) fun hf => ?_).trans hg
      rcases hf with hf | hf | hf
      · exact typed_bk hc0 hg c0 hf
      · rcases c1 with c1 | c1
        · exact own_bk h.bInts.p.ri hg c1 hf
        · exact (h.xRows g c1).2.1 hf
      · rcases c1 with c1 | c1
        · exact own_bk h.bInts.rw hg c1 hf
        · exact (h.xRows g c1).2.2 hf⟩
    have hxF : ∀ l, (l ∈ lRows ∨ l ∈ mRows) → ∀ b, l.ownBlock = some b → ¬ (b = wB.heap.size ∨ vInts.ownBlock = some b ∨ uInts.ownBlock = some b) := fun l hl b hb hf => by
      have hx := h.xRows b (h.xlRows l hl b hb)
      rcases hf with rfl | hf | hf
      · rcases hl with hl | hl
        · obtain ⟨k, hk, rfl⟩ := List.getElem_of_mem hl
          have hz : zRows[k]? = some (zRows[k]'(by rw [← h.bRows.p.ll]; exact hk)) := List.getElem?_eq_getElem _
          exact own_bk (h.bRows.p.li k _ _ (List.getElem?_eq_getElem hk) hz) hc0 (by decide) hb
        · obtain ⟨k, hk, rfl⟩ := List.getElem_of_mem hl
          have hwl : mRows.length = zRows.length := by have := h.bRows.rw.1; rw [Nat.mul_one] at this; exact this
          have hz : zRows[k]? = some (zRows[k]'(by rw [← hwl]; exact hk)) := List.getElem?_eq_getElem _
          exact own_bk (h.bRows.lw k _ _ (List.getElem?_eq_getElem hk) hz) hc0 (by decide) hb
      · exact hx.2.1 hf
      · exact hx.2.2 hf
    exact ⟨rfl, ⟨vi', vw', _, _, _, vRows, uRows, lRows, mRows, zRows, hN.b, h.bRows.far hN.k (hN.o _ (by omega)) (hN.o _ (by omega)) hN.b.bt (fun b hb hf => by
        rcases hf with rfl | hf | hf
        · exact own_bk h.bRows.p.ri hc0 (by decide) hb
        · exact own_ne h.bRows.p.ri h.bInts.p.ri (by decide) b hb hf
        · exact own_ne h.bRows.p.ri h.bInts.rw (by decide) b hb hf) (fun b hb hf => by
        rcases hf with rfl | hf | hf
        · exact own_bk h.bRows.rw hc0 (by decide) hb
        · exact own_ne h.bRows.rw h.bInts.p.ri (by decide) b hb hf
        · exact own_ne h.bRows.rw h.bInts.rw (by decide) b hb hf) (fun l hl b hb => hxF l (.inl hl) b hb) (fun l hl b hb => hxF l (.inr hl) b hb), fun us hu z hz => by obtain ⟨ys, h1, h2⟩ := h.roRows us hu z hz; exact ⟨ys, h1, hFr.ownInts h2⟩, ⟨(hN.o _ (by omega)).trans h.ot.dTokens, (hN.o _ (by omega)).trans h.ot.dTexts, (hN.o _ (by omega)).trans h.ot.dBools, (hN.o _ (by omega)).trans h.ot.dSteps, (hN.o _ (by omega)).trans h.ot.dEdges, (hN.o _ (by omega)).trans h.ot.dNodes, (hN.o _ (by omega)).trans h.ot.dPairs, (hN.o _ (by omega)).trans h.ot.dLines, (hN.o _ (by omega)).trans h.ot.dWalks⟩, h.bw.trans (hN.k.below h.bw.size hup), fun b hb => by
        rcases hN.f b hb with e | e
        · exact h.rInts b e
        · have := h.bw.size; omega, fun l hl b hb => by
        rcases List.mem_append.1 hl with hl | hl
        · exact ⟨(h.hInts l hl b hb).1, .inl (h.hInts l hl b hb).2⟩
        · rw [List.mem_singleton.1 hl] at hb
          have := hO.lt b hb
          exact ⟨by omega, .inr hb⟩, h.rRows, h.hRows, fun b hx => ⟨by have := (h.xRows b hx).1; have := hN.k.size; omega, fun e => by
        rcases hN.f b (.inl e) with f | f
        · exact f.elim (h.xRows b hx).2.1 (h.xRows b hx).2.2
        · have := (h.xRows b hx).1; omega, fun e => by
        rcases hN.f b (.inr e) with f | f
        · exact f.elim (h.xRows b hx).2.1 (h.xRows b hx).2.2
        · have := (h.xRows b hx).1; omega⟩, h.xlRows⟩, hFr⟩
  · refine (ints_full wB.heap.size vInts uInts v lInts mInts zInts wr h.bInts hlen).mono ?_
    rintro r w' ⟨rfl, rfl⟩
    exact ⟨rfl, ⟨vInts, uInts, lInts, mInts, zInts, vRows, uRows, lRows, mRows, zRows, h.bInts, h.bRows, h.roRows, h.ot, h.bw, h.rInts, fun l hl b hb => ⟨(h.hInts l hl b hb).1, .inl (h.hInts l hl b hb).2⟩, h.rRows, h.hRows, h.xRows, h.xlRows⟩, Fr.refl _ _⟩
/-- One more list of Rows. -/
theorem E.addRows {wB wr : World} {PInts PRows XRows : Nat → Prop} (h : E wB wr PInts PRows XRows) (v : Value) (zs : List BRows.El) (B : Nat) (hO : BRows.Own wr B v zs) (hB : wB.heap.size ≤ B) (hv : ∀ b, v.ownBlock = some b → ¬ PRows b) (hsz : zs.length ≤ 1000000) (hx : ∀ b, v.ownBlock = some b → XRows b) (hr : ∀ z ∈ zs, ∃ ys, ys.length ≤ 1000000 ∧ OwnI wr 0 (BRows.sl z) ys) :
    Calls Tryz.prog 37 #[.pointer (some ⟨wB.heap.size, 0, none⟩), v] wr fun r w' => r = .returned (.tuple #[]) ∧ (∃ Y : Nat → Prop, E wB w' PInts (fun b => PRows b ∨ v.ownBlock = some b) (fun b => XRows b ∨ Y b)) ∧ Fr XRows wr w' := by
  obtain ⟨vInts, uInts, lInts, mInts, zInts, vRows, uRows, lRows, mRows, zRows, h⟩ := h
  have hO0 : BRows.Own wr 0 v zs := row_base hO (Nat.zero_le _)
  by_cases hlen : zRows.length < 400
  · refine (BRows.ints_any wB.heap.size vRows uRows v lRows mRows zRows zs wr h.bRows hO0 (fun l hl q hq e => hv q e (h.hRows l hl q hq).2) hlen hsz).mono ?_
    rintro r w' ⟨rfl, vi', vw', v1, hN⟩
    have hup : ∀ b, (b = wB.heap.size ∨ vRows.ownBlock = some b ∨ uRows.ownBlock = some b) → wB.heap.size ≤ b := fun b hb => by
      rcases hb with rfl | hb
      · exact Nat.le_refl _
      · exact h.rRows b hb
    obtain ⟨cs0, hc0, _⟩ := h.bRows.bt
    have hFr : Fr XRows wr w' := ⟨hN.k.size, fun g cs t hg c0 _ c2 => by
      refine (hN.k.block g (t_lt hg) fun hf => ?_).trans hg
      rcases hf with hf | hf | hf
      · exact typed_bk hc0 hg c0 hf
      · exact own_bk h.bRows.p.ri hg c2 hf
      · exact own_bk h.bRows.rw hg c2 hf⟩
    have hv1 : ∀ b, v1.ownBlock = some b → wr.heap.size ≤ b := hN.n
    have hv2 : ∀ b, v1.ownBlock = some b → b < w'.heap.size := fun b hb => by
      have hlw : mRows.length = zRows.length := by have := h.bRows.rw.1; rw [Nat.mul_one] at this; exact this
      exact ((hN.b.lw zRows.length v1 zs (by rw [List.getElem?_append_right (by omega), hlw, Nat.sub_self]; rfl) (by rw [List.getElem?_append_right (Nat.le_refl _), Nat.sub_self]; rfl)).lt b hb).2
    exact ⟨rfl, ⟨fun b => v1.ownBlock = some b, vInts, uInts, lInts, mInts, zInts, vi', vw', _, _, _, h.bInts.other hN.k (hN.o _ (by omega) (by omega)) (hN.o _ (by omega) (by omega)) hN.b.bt (fun b hb => by
        rcases hb with hb | hb | hb
        · exact .inl hb
        · exact .inr ⟨_, _, _, _, _, _, h.bRows.p.ri, hb, by decide, by decide⟩
        · exact .inr ⟨_, _, _, _, _, _, h.bRows.rw, hb, by decide, by decide⟩), hN.b, fun us hu z hz => by
        rcases List.mem_append.1 hu with hu | hu
        · obtain ⟨ys, h1, h2⟩ := h.roRows us hu z hz
          exact ⟨ys, h1, hFr.ownInts h2⟩
        · rw [List.mem_singleton.1 hu] at hz
          obtain ⟨ys, h1, h2⟩ := hr z hz
          exact ⟨ys, h1, hFr.ownInts h2⟩, ⟨(hN.o _ (by omega) (by omega)).trans h.ot.dTokens, (hN.o _ (by omega) (by omega)).trans h.ot.dTexts, (hN.o _ (by omega) (by omega)).trans h.ot.dBools, (hN.o _ (by omega) (by omega)).trans h.ot.dSteps, (hN.o _ (by omega) (by omega)).trans h.ot.dEdges, (hN.o _ (by omega) (by omega)).trans h.ot.dNodes, (hN.o _ (by omega) (by omega)).trans h.ot.dPairs, (hN.o _ (by omega) (by omega)).trans h.ot.dLines, (hN.o _ (by omega) (by omega)).trans h.ot.dWalks⟩, h.bw.trans (hN.k.below h.bw.size hup), h.rInts, h.hInts, fun b hb => by
        rcases hN.f b hb with e | e
        · exact h.rRows b e
        · have := h.bw.size; omega, fun l hl b hb => by
        rcases List.mem_append.1 hl with hl | hl
        · exact ⟨(h.hRows l hl b hb).1, .inl (h.hRows l hl b hb).2⟩
        · rw [List.mem_singleton.1 hl] at hb
          have := hO.lt b hb
          exact ⟨by omega, .inr hb⟩, fun b hx => hx.elim (fun hx => ⟨by have := (h.xRows b hx).1; have := hN.k.size; omega, (h.xRows b hx).2⟩) (fun hx => ⟨hv2 b hx, fun e => by have := (h.bInts.p.ri.lt b e).2; have := hv1 b hx; omega, fun e => by have := (h.bInts.rw.lt b e).2; have := hv1 b hx; omega⟩), fun l hl b hb => by
        rcases hl with hl | hl
        · rcases List.mem_append.1 hl with hl | hl
          · exact .inl (h.xlRows l (.inl hl) b hb)
          · rw [List.mem_singleton.1 hl] at hb; exact .inl (hx b hb)
        · rcases List.mem_append.1 hl with hl | hl
          · exact .inl (h.xlRows l (.inr hl) b hb)
          · rw [List.mem_singleton.1 hl] at hb; exact .inr hb⟩, hFr⟩
  · refine (BRows.ints_full wB.heap.size vRows uRows v lRows mRows zRows wr h.bRows hlen).mono ?_
    rintro r w' ⟨rfl, rfl⟩
    exact ⟨rfl, ⟨fun _ => False, vInts, uInts, lInts, mInts, zInts, vRows, uRows, lRows, mRows, zRows, h.bInts, h.bRows, h.roRows, h.ot, h.bw, h.rInts, h.hInts, h.rRows, fun l hl b hb => ⟨(h.hRows l hl b hb).1, .inl (h.hRows l hl b hb).2⟩, fun b hb => hb.elim (h.xRows b) (fun hf => hf.elim), fun l hl b hb => .inl (h.xlRows l hl b hb)⟩, Fr.refl _ _⟩
/-- The book's Apart. -/
theorem E.apart {wB wr : World} {PInts PRows XRows : Nat → Prop} (h : E wB wr PInts PRows XRows) :
    Calls Tryz.prog 16 #[.pointer (some ⟨wB.heap.size, 0, none⟩)] wr fun r w' => r = .returned (.bool true) ∧ Below wB.heap.size wB w' := by
  obtain ⟨vInts, uInts, lInts, mInts, zInts, vRows, uRows, lRows, mRows, zRows, h⟩ := h
  refine (ApIR.apart_any wB.heap.size vInts uInts lInts mInts zInts vRows uRows lRows mRows zRows wr h.bInts h.bRows (fun b hb ⟨l, hl, e⟩ => (h.xRows b (h.xlRows l (.inl hl) b e)).2.1 hb) (fun us hu z hz => by obtain ⟨zs, h1, h2⟩ := h.roRows us hu z hz; exact ⟨zs, h1, h2.has⟩) h.ot).mono ?_
  rintro r w' ⟨rfl, hk⟩
  exact ⟨rfl, h.bw.trans (hk.below h.bw.size fun b hb => hb.elim (fun ⟨l, hl, e⟩ => (h.hInts l hl b e).1) (fun hb => (fun ⟨l, hl, e⟩ => (h.hRows l hl b e).1) hb))⟩
/-- A list of lists, all of them in memory from B on, no two in one block. -/
def RowsRows (w : World) (B : Nat) (v : Value) (D : List (List Int)) : Prop :=
  ∃ us : List Value, w.ownsRow B 57 1 v D.length us ∧ (∀ (k : Nat) (r : List Int), D[k]? = some r → ∃ u, us[k]? = some u ∧ OwnI w B u r) ∧ ∀ (i j : Nat) (u x : Value) (b : Nat), us[i]? = some u → us[j]? = some x → i ≠ j → u.ownBlock = some b → x.ownBlock ≠ some b
def asRows : Value → BRows.El
  | .slice a n c => (a, n, c)
  | _ => (none, 0, 0)
theorem asRows_sl {u : Value} (h : ∃ a n c, u = .slice a n c) : BRows.sl (asRows u) = u := by
  obtain ⟨a, n, c, rfl⟩ := h
  rfl
theorem asRows_C : ∀ (us : List Value), (∀ u ∈ us, ∃ a n c, u = .slice a n c) → BRows.C (us.map asRows) = us
  | [], _ => rfl
  | u :: r, h => by
    have ih := asRows_C r fun x hx => h x (List.mem_cons_of_mem _ hx)
    have h1 := asRows_sl (h u List.mem_cons_self)
    unfold BRows.C at ih ⊢
    rw [List.map_cons, List.flatMap_cons, ih]
    show [BRows.sl (asRows u)] ++ r = _
    rw [h1]
    rfl
set_option maxRecDepth 100000 in
set_option maxHeartbeats 4000000 in
theorem E.manyRows {wB wr : World} {PInts PRows XRows : Nat → Prop} (h : E wB wr PInts PRows XRows) (v : Value) (D : List (List Int)) (B : Nat) (hR : RowsRows wr B v D) (hB : wB.heap.size ≤ B) (hP : ∀ b, PInts b → b < B) (hQ : ∀ b, PRows b → b < B) (hx : ∀ b, v.ownBlock = some b → XRows b) (hD : D.length ≤ 1000000) (hr : ∀ r ∈ D, r.length ≤ 1000000) :
    Calls Tryz.prog 15 #[.pointer (some ⟨wB.heap.size, 0, none⟩), v] wr fun r w' => r = .returned (.tuple #[]) ∧ (∃ Y : Nat → Prop, E wB w' (fun b => b < w'.heap.size) (fun b => b < w'.heap.size) (fun b => XRows b ∨ Y b)) ∧ Fr XRows wr w' := by
  obtain ⟨us, hrow, hrows, hdis⟩ := hR
  obtain ⟨w0, hw0⟩ : ∃ w0, w0 = wr := ⟨_, rfl⟩
  rw [← hw0] at h hrow hrows ⊢
  clear hw0
  have hul : us.length = D.length := by have := hrow.1; rw [Nat.mul_one] at this; exact this
  obtain ⟨ao, cap, rfl⟩ := row_shape hrow
  obtain ⟨n, hn⟩ : ∃ n, n = D.length := ⟨_, rfl⟩
  have HH : Hid _ := And.intro hrow (And.intro hrows (And.intro hdis (And.intro hul (And.intro hx (And.intro hr hn)))))
  have HP : Hid _ := And.intro hP hQ
  have h1 : E wB w0 (fun b => b < B ∨ ∃ j u, j < 0 ∧ us[j]? = some u ∧ u.ownBlock = some b) PRows XRows := h.mono (fun b _ hb => .inl (hP b hb)) (fun b _ hb => hb)
  have H1 : Hid _ := h1
  rw [← hn] at hD ⊢
  clear h hrow hrows hdis hul hx hr hn hP hQ h1
  go_enter Tryz.func15, Tryz.ntmps15
  go_wp2_with fail
  go_loopg [4] n (fun q iv wr => ∃ k : Nat, q = n - k ∧ k ≤ n ∧ iv = .int .i64 k ∧ E wB wr (fun b => b < B ∨ ∃ j u, j < k ∧ us[j]? = some u ∧ u.ownBlock = some b) PRows XRows ∧ Fr XRows w0 wr)
  case atStart => exact ⟨0, rfl, Nat.zero_le _, rfl, H1.out, Fr.refl _ _⟩
  case round =>
    obtain ⟨k, rfl, hk, rfl, hW, hF⟩ := hrel
    clear H1
    have hrw := hF.own HH.out.1 fun b hb => ⟨by decide, .inr (HH.out.2.2.2.2.1 b hb), by decide⟩
    by_cases hlt : k < n
    · obtain ⟨r, hrk⟩ : ∃ r, D[k]? = some r := ⟨D[k]'(by have := HH.out.2.2.2.2.2.2; omega), List.getElem?_eq_getElem _⟩
      obtain ⟨u, huk, hu0⟩ := HH.out.2.1 k r hrk
      have hu : OwnI wr B u r := hF.ownInts hu0
      obtain ⟨g, c, hf, _, _⟩ := World.ownsRow.form hrw (by have := HH.out.2.2.2.2.2.2; omega)
      injection hf with e1 e2 e3
      subst e1
      have c0 : wr.cell? ⟨g, k, none⟩ = some u := by rw [hrw.cellAt k (by have := HH.out.2.2.2.2.2.2; omega), huk]
      obtain ⟨au, cu, rfl⟩ := row_shape hu
      have q0 : (0 : Int) ≤ (k : Int) := by omega
      have q1 : (k : Int) < (n : Int) := by omega
      have hT := E.addInts hW (.slice au r.length cu) r B hu hB (fun b hb hp => by
        rcases hp with hp | ⟨j, y, hj, hy, hyb⟩
        · have := (hu.lt b hb).1; omega
        · exact HH.out.2.2.1 j k y _ b hy huk (by omega) hyb hb) (HH.out.2.2.2.2.2.1 r (List.mem_of_getElem? hrk))
      have HT : Hid _ := And.intro hT (And.intro hF huk)
      clear hT hF hW hrk huk hu hu0 hrw e2 e3
      go_wp2_with (go_at_call 36; refine Calls.mono HT.out.1 ?_; rintro r2 w2 ⟨rfl, hW2, hF2⟩; have H2 : Hid _ := And.intro hW2 hF2; clear hW2 hF2)
      go_roundg (n - (k + 1))
      case measure => omega
      case rel => exact ⟨k + 1, rfl, by omega, by go_num, H2.out.1.mono (fun b _ hb => by
        rcases hb with (hb | ⟨j, y, hj, hy, hyb⟩) | hb
        · exact .inl hb
        · exact .inr ⟨j, y, by omega, hy, hyb⟩
        · exact .inr ⟨k, _, by omega, HT.out.2.2, hb⟩) (fun b _ hb => hb), HT.out.2.1.trans H2.out.2⟩
    · obtain rfl : k = n := by omega
      have q1 : ¬ (k : Int) < (k : Int) := by omega
      have hsl : ∀ u ∈ us, ∃ a n c, u = .slice a n c := fun u hu => by
        obtain ⟨j, hj, rfl⟩ := List.getElem_of_mem hu
        obtain ⟨y, hy, ho⟩ := HH.out.2.1 j _ (List.getElem?_eq_getElem (by have := HH.out.2.2.2.1; omega : j < D.length))
        rw [List.getElem?_eq_getElem hj] at hy
        cases hy
        obtain ⟨a, c, e⟩ := row_shape ho
        exact ⟨a, _, c, e⟩
      have hOw : BRows.Own wr B (.slice ao k cap) (us.map asRows) := by
        unfold BRows.Own
        rw [List.length_map, asRows_C us hsl, HH.out.2.2.2.1]
        have := hrw
        rw [← HH.out.2.2.2.2.2.2] at this ⊢
        exact this
      have hL := E.addRows hW (.slice ao k cap) (us.map asRows) B hOw hB (fun b hb hq => by rw [HH.out.2.2.2.2.2.2] at hb; have := (hrw.lt b hb).1; have := HP.out.2 b hq; omega) (by rw [List.length_map, HH.out.2.2.2.1, ← HH.out.2.2.2.2.2.2]; exact hD) (fun b hb => by rw [HH.out.2.2.2.2.2.2] at hb; exact HH.out.2.2.2.2.1 b hb) (fun z hz => by
        obtain ⟨u, hu, rfl⟩ := List.mem_map.1 hz
        rw [asRows_sl (hsl u hu)]
        obtain ⟨j, hj, rfl⟩ := List.getElem_of_mem hu
        have hjD : j < D.length := by have := HH.out.2.2.2.1; omega
        obtain ⟨y, hy, ho⟩ := HH.out.2.1 j _ (List.getElem?_eq_getElem hjD)
        rw [List.getElem?_eq_getElem hj] at hy
        cases hy
        exact ⟨D[j], HH.out.2.2.2.2.2.1 _ (List.getElem_mem hjD), row_base (hF.ownInts ho) (Nat.zero_le _)⟩)
      have HL : Hid _ := And.intro hL hF
      clear hL hF hW hrw hOw hsl
      go_wp2_with (go_at_call 37; refine Calls.mono HL.out.1 ?_; rintro r2 w2 ⟨rfl, hW2, hF2⟩; have H2 : Hid _ := And.intro hW2 hF2; clear hW2 hF2)
      go_end0
      obtain ⟨⟨Y, hY⟩, hF2⟩ := H2.out
      exact ⟨rfl, ⟨Y, hY.mono (fun b hb _ => hb) (fun b hb _ => hb)⟩, HL.out.2.trans hF2⟩
end Go.Proofs.YtpmanmoljlhogaaGreatDoor.WIR
/- The book's SameInts on equal lists. -/
namespace Go.Proofs.YtpmanmoljlhogaaGreatDoor
open Go.RowKit
set_option maxRecDepth 100000 in
set_option maxHeartbeats 1000000 in
theorem sameInts_any (va vb : Value) (zs : List Int) (w : World) (hn : zs.length ≤ 1000000) (hA : HasI w va zs) (hB : HasI w vb zs) :
    Calls Tryz.prog 24 #[va, vb] w fun e w' => e = .returned (.bool true) ∧ Below w.heap.size w w' := by
  obtain ⟨ao, cap, rfl, hcA⟩ := hA
  obtain ⟨ao', cap', rfl, hcB⟩ := hB
  obtain ⟨n, hN⟩ : ∃ n, n = zs.length := ⟨_, rfl⟩
  have HH : Hid ((∀ (i : Nat) (z : Int), zs[i]? = some z → ∃ a, ao = some a ∧ w.cell? (a.add i) = some (.int .i64 z)) ∧ (∀ (i : Nat) (z : Int), zs[i]? = some z → ∃ a, ao' = some a ∧ w.cell? (a.add i) = some (.int .i64 z)) ∧ n = zs.length) := ⟨hcA, hcB, hN⟩
  rw [← hN] at hn ⊢
  clear hcA hcB hN
  have q : ((n : Int) != (n : Int)) = false := by simp
  go_enter Tryz.func24, Tryz.ntmps24
  go_wp2
  go_loopg [5] n (fun g i wr => ∃ j m : Nat, g = n - j ∧ j ≤ n ∧ i = .int .i64 j ∧ wr = w.drewN m)
  case atStart => exact ⟨0, 0, rfl, Nat.zero_le _, rfl, rfl⟩
  case round =>
    obtain ⟨j, m, rfl, hj, rfl, rfl⟩ := hrel
    by_cases hlt : j < n
    · obtain ⟨z, hz⟩ : ∃ z, zs[j]? = some z := ⟨zs[j]'(by have := HH.out.2.2; omega), List.getElem?_eq_getElem _⟩
      obtain ⟨a, rfl, c0⟩ := HH.out.1 j z hz
      obtain ⟨b, rfl, d0⟩ := HH.out.2.1 j z hz
      clear hz
      have q0 : (0 : Int) ≤ (j : Int) := by omega
      have q1 : (j : Int) < (n : Int) := by omega
      go_wp2_with fail
      go_quiet (fail)
      go_wp2
      go_roundg (n - (j + 1))
      case measure => omega
      case rel => exact ⟨j + 1, _, rfl, by omega, by go_num, by first | rfl | exact World.drewN_drewN _ _ _⟩
    · have q1 : ¬ (j : Int) < (n : Int) := by omega
      go_wp2
      go_ret
      exact ⟨rfl, below_drewN (Below.refl _ _) _⟩
end Go.Proofs.YtpmanmoljlhogaaGreatDoor
/- Lists of lists of numbers in memory, as a book takes them; the book's SameRows on equal ones. -/
namespace Go.Proofs.YtpmanmoljlhogaaGreatDoor
open Go.RowKit Go.Maps
attribute [local go_sem ↓] Go.wp_at_zero Go.wp_at_succ
theorem own_blkI {w : World} {B g n : Nat} {zs : List Int} {cs : Array Value} (h : w.heap[g]? = some (.cells cs 3 (0, 0))) (hc : cs.toList = iC zs) (hB : B ≤ g) (hl : zs.length = n) (hn : n ≤ 1000000) : OwnI w B (.slice (some ⟨g, 0, none⟩) n n) zs := by
  subst hl
  have hs : cs.size = zs.length * 1 := by rw [← Array.length_toList, hc, iC_length]
  refine ⟨iC_length zs, .inr ⟨g, zs.length, cs, rfl, hB, h, Nat.le_refl _, by unfold maxLen; omega, hs, ?_⟩⟩
  rw [hc]
  exact List.take_of_length_le (by rw [iC_length]; exact Nat.le_refl _)
theorem rows_nil (W : World) (B : Nat) : WIR.RowsRows W B (.slice none 0 0) [] := ⟨[], World.ownsRow_nil _ _ _ _, fun k r h => by simp at h, fun i j u x b h => by simp at h⟩
theorem RowsRows.below {W W' : World} {B : Nat} {v : Value} {D : List (List Int)} (h : WIR.RowsRows W B v D) (hb : Below W.heap.size W W') : WIR.RowsRows W' B v D := by
  obtain ⟨us, h1, h2, h3⟩ := h
  refine ⟨us, trow_at h1 fun b e => hb.block b (h1.lt b e).2, fun k r hk => ?_, h3⟩
  obtain ⟨u, hu, ho⟩ := h2 k r hk
  exact ⟨u, hu, trow_at ho fun b e => hb.block b (ho.lt b e).2⟩
theorem RowsRows.base {W : World} {B B' : Nat} {v : Value} {D : List (List Int)} (h : WIR.RowsRows W B v D) (hb : B' ≤ B) : WIR.RowsRows W B' v D := by
  obtain ⟨us, h1, h2, h3⟩ := h
  refine ⟨us, row_base h1 hb, fun k r hk => ?_, h3⟩
  obtain ⟨u, hu, ho⟩ := h2 k r hk
  exact ⟨u, hu, row_base ho hb⟩
/-- They stand while a book takes lists. -/
theorem RowsRows.fr {W W' : World} {X : Nat → Prop} {B : Nat} {v : Value} {D : List (List Int)} (h : WIR.RowsRows W B v D) (hf : WIR.Fr X W W') (hx : ∀ b, v.ownBlock = some b → X b) : WIR.RowsRows W' B v D := by
  obtain ⟨us, h1, h2, h3⟩ := h
  refine ⟨us, hf.own h1 fun b hb => ⟨by decide, .inr (hx b hb), by decide⟩, fun k r hk => ?_, h3⟩
  obtain ⟨u, hu, ho⟩ := h2 k r hk
  exact ⟨u, hu, hf.ownInts ho⟩
theorem RowsRows.lt {W : World} {B : Nat} {v : Value} {D : List (List Int)} (h : WIR.RowsRows W B v D) : ∀ b, v.ownBlock = some b → B ≤ b ∧ b < W.heap.size := by
  obtain ⟨us, h1, _⟩ := h
  exact h1.lt
/-- The value is a list of these lists. -/
def HasRR (w : World) (v : Value) (D : List (List Int)) : Prop :=
  ∃ (ao : Option Addr) (cap : Nat), v = .slice ao D.length cap ∧ ∀ k r, D[k]? = some r → ∃ b u, ao = some ⟨b, 0, none⟩ ∧ w.cell? ⟨b, k, none⟩ = some u ∧ HasI w u r
theorem RowsRows.has {w : World} {B : Nat} {v : Value} {D : List (List Int)} (h : WIR.RowsRows w B v D) : HasRR w v D := by
  obtain ⟨us, h1, h2, _⟩ := h
  rcases h1.2 with ⟨rfl, h0⟩ | ⟨g, cap, cur, rfl, _⟩
  · refine ⟨none, 0, by rw [h0], fun k r hr => ?_⟩
    have := (List.getElem?_eq_some_iff.1 hr).1
    omega
  · refine ⟨some ⟨g, 0, none⟩, cap, rfl, fun k r hr => ?_⟩
    have hk := (List.getElem?_eq_some_iff.1 hr).1
    obtain ⟨u, hu, ho⟩ := h2 k r hr
    exact ⟨g, u, rfl, by rw [h1.cellAt k (by omega)]; exact hu, ho.has⟩
theorem rr_b {w wr : World} {P : Prop} (h : P ∧ Hid (Below w.heap.size w wr)) : Below w.heap.size w wr := h.2.out
theorem bel_up {a b c : World} (h : Below b.heap.size b c) (k : Below a.heap.size a b) : Below a.heap.size a c := k.trans (h.mono k.size)
theorem rr_up {w2 wa wb : World} {a0 a1 : Addr} {x0 x1 : Value} (hb : Below wa.heap.size wa wb) (h : (wa.cell? a0 = some x0 ∧ wa.cell? a1 = some x1) ∧ Hid (Below w2.heap.size w2 wa)) : (wb.cell? a0 = some x0 ∧ wb.cell? a1 = some x1) ∧ Hid (Below w2.heap.size w2 wb) :=
  ⟨⟨(hb.cell (World.block_lt_of_cell? wa _ h.1.1)).trans h.1.1, (hb.cell (World.block_lt_of_cell? wa _ h.1.2)).trans h.1.2⟩, (bel_up hb h.2.out : Below w2.heap.size w2 wb)⟩
set_option maxRecDepth 100000 in
set_option maxHeartbeats 2000000 in
theorem sameRows_any (va vb : Value) (D : List (List Int)) (w : World) (hn : D.length ≤ 1000000) (hr : ∀ r ∈ D, r.length ≤ 1000000) (hA : HasRR w va D) (hB : HasRR w vb D) :
    Calls Tryz.prog 14 #[va, vb] w fun e w' => e = .returned (.bool true) ∧ Below w.heap.size w w' := by
  obtain ⟨ao, cap, rfl, hcA⟩ := hA
  obtain ⟨ao', cap', rfl, hcB⟩ := hB
  obtain ⟨n, hN⟩ : ∃ n, n = D.length := ⟨_, rfl⟩
  rw [← hN] at hn ⊢
  have HC : Hid _ := And.intro hN (And.intro hr (And.intro hcA hcB))
  clear hN hr hcA hcB
  have q : ((n : Int) != (n : Int)) = false := by simp
  go_enter Tryz.func14, Tryz.ntmps14
  go_wp2
  go_loopg [5] n (fun g i wr => ∃ j : Nat, g = n - j ∧ j ≤ n ∧ i = .int .i64 j ∧ Below w.heap.size w wr)
  case atStart => exact ⟨0, rfl, Nat.zero_le _, rfl, Below.refl _ _⟩
  case round =>
    obtain ⟨j, rfl, hj, rfl, hbr⟩ := hrel
    by_cases hlt : j < n
    · obtain ⟨r, hr⟩ : ∃ r, D[j]? = some r := ⟨D[j]'(by have := HC.out.1; omega), List.getElem?_eq_getElem _⟩
      obtain ⟨b, u, rfl, cA, hA⟩ := HC.out.2.2.1 j r hr
      obtain ⟨b', u', rfl, cB, hB⟩ := HC.out.2.2.2 j r hr
      have hS := fun W (hb : Below wr.heap.size wr W) => sameInts_any u u' r W (HC.out.2.1 r (List.mem_of_getElem? hr)) ((hA.below hbr).below hb) ((hB.below hbr).below hb)
      have c1 := cell_up cA hbr
      have c2 := cell_up cB hbr
      have HS : Hid _ := And.intro hS hbr
      clear hr hA hB hS hbr cA cB
      have q0 : (0 : Int) ≤ (j : Int) := by omega
      have q1 : (j : Int) < (n : Int) := by omega
      go_upto_region 6 with fail
      go_region_held3 (fun w' => (w'.cell? ⟨b, j, none⟩ = some u ∧ w'.cell? ⟨b', j, none⟩ = some u') ∧ Hid (Below wr.heap.size wr w')) (first | exact rr_up hb2 (by assumption) | exact ⟨⟨c1, c2⟩, ((Below.refl _ _).drew : Below wr.heap.size wr wr.drew)⟩ | go_keep)
        ((first
          | (go_at_call 24; refine Calls.mono (HS.out.1 _ (rr_b (by assumption))) ?_; rintro r w2 ⟨rfl, hb2⟩)
          | fail))
      have H2 : Hid _ := rr_b (by assumption)
      clear hb2 c1 c2
      rename_i hS3
      clear hS3
      go_wp2_with fail
      go_roundg (n - (j + 1))
      case measure => omega
      case rel => exact ⟨j + 1, rfl, by omega, by go_num, bel_up H2.out HS.out.2⟩
    · have q1 : ¬ (j : Int) < (n : Int) := by omega
      have HS : Hid _ := And.intro hbr trivial
      clear hbr
      go_wp2
      go_ret
      exact ⟨rfl, HS.out.1⟩
end Go.Proofs.YtpmanmoljlhogaaGreatDoor
/- Plain facts on keys that are numbered in the order in which they come, and on rounds. Nothing of the program is in it. -/
namespace Go.Proofs.YtpmanmoljlhogaaGreatDoor.Ro
section
variable {K : Type} [DecidableEq K]
/-- The place of a key in a list; the list's length, if it is not there. -/
def place (c : K) : List K → Nat
  | [] => 0
  | a :: r => if a = c then 0 else place c r + 1
/-- A key goes behind those that were seen, unless it is one of them. -/
def more (c : K) (l : List K) : List K := if c ∈ l then l else l ++ [c]
/-- The keys, each once, in the order in which they come. -/
def dd (l : List K) : List K := l.foldl (fun s c => more c s) []
/-- Of each key its number. -/
def num (l : List K) : List Nat := l.map fun z => place z (dd l)
theorem place_le (c : K) (l : List K) : place c l ≤ l.length := by
  induction l with
  | nil => simp [place]
  | cons a r ih => unfold place; split <;> simp <;> omega
theorem place_lt {c : K} {l : List K} : place c l < l.length ↔ c ∈ l := by
  induction l with
  | nil => simp [place]
  | cons a r ih =>
    unfold place
    by_cases h : a = c
    · simp [h]
    · rw [if_neg h, List.length_cons, Nat.add_lt_add_iff_right, ih, List.mem_cons]
      exact ⟨fun h1 => .inr h1, fun h1 => h1.elim (fun e => absurd e.symm h) id⟩
theorem place_no {c : K} {l : List K} (h : c ∉ l) : place c l = l.length := by
  have h1 := place_le c l
  have h2 : ¬ place c l < l.length := fun h2 => h (place_lt.1 h2)
  omega
theorem place_at {c : K} {l : List K} (h : c ∈ l) : l[place c l]? = some c := by
  induction l with
  | nil => simp at h
  | cons a r ih =>
    unfold place
    by_cases h1 : a = c
    · simp [h1]
    · rw [if_neg h1, List.getElem?_cons_succ]
      exact ih ((List.mem_cons.1 h).elim (fun e => absurd e.symm h1) id)
theorem place_inj {a b : K} {l : List K} (ha : a ∈ l) (hb : b ∈ l) (h : place a l = place b l) : a = b := by
  have h1 := place_at ha
  rw [h, place_at hb] at h1
  exact (Option.some.inj h1).symm
theorem place_left {c : K} {a : List K} (b : List K) (h : c ∈ a) : place c (a ++ b) = place c a := by
  induction a with
  | nil => simp at h
  | cons x r ih =>
    simp only [List.cons_append, place]
    by_cases h1 : x = c
    · simp [h1]
    · rw [if_neg h1, if_neg h1, ih ((List.mem_cons.1 h).elim (fun e => absurd e.symm h1) id)]
theorem place_more (c : K) (l : List K) : place c (more c l) = place c l := by
  unfold more
  split
  · rfl
  · rename_i h
    rw [place_no h]
    induction l with
    | nil => simp [place]
    | cons x r ih =>
      have hx : x ≠ c := fun e => h (by rw [e]; exact List.mem_cons_self)
      have hr : c ∉ r := fun e => h (List.mem_cons_of_mem _ e)
      simp only [List.cons_append, place]
      rw [if_neg hx, ih hr]
      simp
theorem dd_snoc (l : List K) (c : K) : dd (l ++ [c]) = more c (dd l) := by simp [dd]
theorem mem_more {c x : K} {l : List K} : x ∈ more c l ↔ x ∈ l ∨ x = c := by
  unfold more
  split
  · rename_i h
    exact ⟨.inl, fun h1 => h1.elim id fun e => by rw [e]; exact h⟩
  · simp
/-- Induction over lists from behind. -/
theorem snoc_ind {α : Type} {P : List α → Prop} (h0 : P []) (hs : ∀ l x, P l → P (l ++ [x])) (l : List α) : P l := by
  have h : ∀ n (l : List α), l.length = n → P l := fun n => by
    induction n with
    | zero => intro l hl; rw [List.length_eq_zero_iff.1 hl]; exact h0
    | succ n ih =>
      intro l hl
      rcases List.eq_nil_or_concat l with rfl | ⟨m, x, rfl⟩
      · simp at hl
      · rw [List.concat_eq_append]
        exact hs m x (ih m (by simp at hl; omega))
  exact h _ l rfl
theorem mem_dd {x : K} (l : List K) : x ∈ dd l ↔ x ∈ l := by
  refine snoc_ind (P := fun l => x ∈ dd l ↔ x ∈ l) (by simp [dd]) (fun l c ih => ?_) l
  rw [dd_snoc, mem_more, ih]
  simp
theorem num_len (l : List K) : (num l).length = l.length := by simp [num]
theorem num_snoc (l : List K) (c : K) : num (l ++ [c]) = num l ++ [place c (dd l)] := by
  unfold num
  rw [List.map_append, dd_snoc]
  congr 1
  · refine List.map_congr_left fun z hz => ?_
    have h1 : z ∈ dd l := (mem_dd l).2 hz
    unfold more
    split
    · rfl
    · exact place_left _ h1
  · simp [place_more]
theorem num_at {l : List K} {i : Nat} {x : K} (h : l[i]? = some x) : (num l)[i]? = some (place x (dd l)) := by
  unfold num
  rw [List.getElem?_map, h]
  rfl
/-- Numbers are the same just where the keys are. -/
theorem num_eq {l : List K} {i j : Nat} {x y : K} (hi : l[i]? = some x) (hj : l[j]? = some y) {u v : Nat} (hu : (num l)[i]? = some u) (hv : (num l)[j]? = some v) : u = v ↔ x = y := by
  rw [num_at hi] at hu
  rw [num_at hj] at hv
  simp only [Option.some.injEq] at hu hv
  subst hu; subst hv
  exact ⟨fun e => place_inj ((mem_dd l).2 (List.mem_of_getElem? hi)) ((mem_dd l).2 (List.mem_of_getElem? hj)) e, fun e => by rw [e]⟩
theorem dd_len_snoc (l : List K) (c : K) : (dd (l ++ [c])).length = (dd l).length + if c ∈ l then 0 else 1 := by
  rw [dd_snoc]
  unfold more
  by_cases h : c ∈ l
  · rw [if_pos ((mem_dd l).2 h), if_pos h]
    rfl
  · rw [if_neg (fun h1 => h ((mem_dd l).1 h1)), if_neg h]
    simp
theorem dd_le (l : List K) : (dd l).length ≤ l.length := by
  refine snoc_ind (P := fun l => (dd l).length ≤ l.length) (by simp [dd]) (fun l c ih => ?_) l
  rw [dd_len_snoc]
  simp only [List.length_append, List.length_cons, List.length_nil]
  split <;> omega
theorem num_lt {l : List K} {u : Nat} (h : u ∈ num l) : u < (dd l).length := by
  obtain ⟨z, hz, rfl⟩ := List.mem_map.1 h
  exact place_lt.2 ((mem_dd l).2 hz)
end
/-- Keys of two kinds, the first ones finer: there are as many of the second ones at most; and if there are as many the numbers are the same. -/
theorem finer {A B : Type} [DecidableEq A] [DecidableEq B] (l : List (A × B)) (hf : ∀ p ∈ l, ∀ q ∈ l, p.1 = q.1 → p.2 = q.2) :
    (dd (l.map (·.2))).length ≤ (dd (l.map (·.1))).length ∧ ((dd (l.map (·.2))).length = (dd (l.map (·.1))).length → num (l.map (·.1)) = num (l.map (·.2))) := by
  revert hf
  refine snoc_ind (P := fun l : List (A × B) => (∀ p ∈ l, ∀ q ∈ l, p.1 = q.1 → p.2 = q.2) → (dd (l.map (·.2))).length ≤ (dd (l.map (·.1))).length ∧ ((dd (l.map (·.2))).length = (dd (l.map (·.1))).length → num (l.map (·.1)) = num (l.map (·.2)))) (fun _ => ⟨by simp [dd], fun _ => rfl⟩) (fun l x ih hf => ?_) l
  obtain ⟨ih1, ih2⟩ := ih fun p hp q hq => hf p (List.mem_append_left _ hp) q (List.mem_append_left _ hq)
  simp only [List.map_append, List.map_cons, List.map_nil]
  rw [dd_len_snoc, dd_len_snoc, num_snoc, num_snoc]
  by_cases hx : x.1 ∈ l.map (·.1)
  · obtain ⟨q, hq, hqe⟩ := List.mem_map.1 hx
    have h2 := hf q (List.mem_append_left _ hq) x (List.mem_append_right _ List.mem_cons_self) hqe
    have hy : x.2 ∈ l.map (·.2) := List.mem_map.2 ⟨q, hq, h2⟩
    rw [if_pos hx, if_pos hy]
    refine ⟨by omega, fun e => ?_⟩
    have h3 := ih2 (by omega)
    obtain ⟨i, hi⟩ := List.mem_iff_getElem?.1 hq
    have a1 := num_at (l := l.map (·.1)) (i := i) (x := q.1) (by rw [List.getElem?_map, hi]; rfl)
    have a2 := num_at (l := l.map (·.2)) (i := i) (x := q.2) (by rw [List.getElem?_map, hi]; rfl)
    rw [h3, a2] at a1
    rw [h3, ← hqe, ← h2, Option.some.inj a1]
  · rw [if_neg hx]
    by_cases hy : x.2 ∈ l.map (·.2)
    · rw [if_pos hy]
      exact ⟨by omega, fun e => by omega⟩
    · rw [if_neg hy]
      refine ⟨by omega, fun e => ?_⟩
      have e2 : (dd (l.map (·.2))).length = (dd (l.map (·.1))).length := by omega
      rw [ih2 e2, place_no (fun h => hx ((mem_dd _).1 h)), place_no (fun h => hy ((mem_dd _).1 h)), e2]
/-- Keys that say the same are numbered alike. -/
theorem num_congr {A B : Type} [DecidableEq A] [DecidableEq B] {a : List A} {b : List B} (hl : a.length = b.length) (h : ∀ (i j : Nat) (x y : A) (u v : B), a[i]? = some x → a[j]? = some y → b[i]? = some u → b[j]? = some v → (x = y ↔ u = v)) : num a = num b := by
  have hz1 : (a.zip b).map (·.1) = a := by rw [List.map_fst_zip (by omega)]
  have hz2 : (a.zip b).map (·.2) = b := by rw [List.map_snd_zip (by omega)]
  have hm : ∀ p ∈ a.zip b, ∃ i : Nat, a[i]? = some p.1 ∧ b[i]? = some p.2 := fun p hp => by
    obtain ⟨i, hi⟩ := List.mem_iff_getElem?.1 hp
    rw [List.getElem?_zip_eq_some] at hi
    exact ⟨i, hi⟩
  have f1 := finer (a.zip b) fun p hp q hq e => by
    obtain ⟨i, hi1, hi2⟩ := hm p hp
    obtain ⟨j, hj1, hj2⟩ := hm q hq
    exact (h i j _ _ _ _ hi1 hj1 hi2 hj2).1 e
  have hb : ∀ (l : List (A × B)), (l.map Prod.swap).map (·.1) = l.map (·.2) ∧ (l.map Prod.swap).map (·.2) = l.map (·.1) := fun l => by simp
  have f2 := finer ((a.zip b).map Prod.swap) fun p hp q hq e => by
    obtain ⟨p', hp', rfl⟩ := List.mem_map.1 hp
    obtain ⟨q', hq', rfl⟩ := List.mem_map.1 hq
    obtain ⟨i, hi1, hi2⟩ := hm p' hp'
    obtain ⟨j, hj1, hj2⟩ := hm q' hq'
    exact (h i j _ _ _ _ hi1 hj1 hi2 hj2).2 e
  rw [(hb _).1, (hb _).2] at f2
  rw [hz1, hz2] at f1 f2
  exact f1.2 (by omega)
theorem num_num {A : Type} [DecidableEq A] (l : List A) : num (num l) = num l := by
  refine num_congr (num_len l) fun i j x y u v hx hy hu hv => ?_
  exact num_eq hu hv hx hy
/-- Rising numbers, each once. -/
def Rise (l : List Int) : Prop := l.Pairwise (· < ·)
theorem rise_unique {a b : List Int} (ha : Rise a) (hb : Rise b) (h : ∀ x, x ∈ a ↔ x ∈ b) : a = b := by
  induction a generalizing b with
  | nil =>
    cases b with
    | nil => rfl
    | cons y s => exact absurd ((h y).2 List.mem_cons_self) (by simp)
  | cons x r ih =>
    cases b with
    | nil => exact absurd ((h x).1 List.mem_cons_self) (by simp)
    | cons y s =>
      obtain ⟨hx, hr⟩ := List.pairwise_cons.1 ha
      obtain ⟨hy, hs⟩ := List.pairwise_cons.1 hb
      have e : x = y := by
        rcases List.mem_cons.1 ((h x).1 List.mem_cons_self) with e | h1
        · exact e
        · rcases List.mem_cons.1 ((h y).2 List.mem_cons_self) with e | h2
          · exact e.symm
          · have := hx y h2; have := hy x h1; omega
      subst e
      congr 1
      refine ih hr hs fun z => ⟨fun hz => ?_, fun hz => ?_⟩
      · rcases List.mem_cons.1 ((h z).1 (List.mem_cons_of_mem _ hz)) with e | h1
        · have := hx z hz; omega
        · exact h1
      · rcases List.mem_cons.1 ((h z).2 (List.mem_cons_of_mem _ hz)) with e | h1
        · have := hy z hz; omega
        · exact h1
/-- A number goes to its place. -/
def ins (x : Int) : List Int → List Int
  | [] => [x]
  | a :: r => if x < a then x :: a :: r else if a = x then a :: r else a :: ins x r
theorem mem_ins {x y : Int} {l : List Int} : y ∈ ins x l ↔ y = x ∨ y ∈ l := by
  induction l with
  | nil => simp [ins]
  | cons a r ih =>
    unfold ins
    split
    · simp
    · split
      · rename_i h; subst h; simp
      · simp only [List.mem_cons, ih]
        constructor
        · rintro (h | h | h) <;> simp [h]
        · rintro (h | h | h) <;> simp [h]
theorem ins_rise {x : Int} {l : List Int} (h : Rise l) : Rise (ins x l) := by
  induction l with
  | nil => exact List.pairwise_singleton _ _
  | cons a r ih =>
    obtain ⟨ha, hr⟩ := List.pairwise_cons.1 h
    unfold ins
    split
    · rename_i h1
      exact List.pairwise_cons.2 ⟨fun y hy => by rcases List.mem_cons.1 hy with rfl | hy; exact h1; have := ha y hy; omega, h⟩
    · split
      · exact h
      · rename_i h1 h2
        exact List.pairwise_cons.2 ⟨fun y hy => by rcases mem_ins.1 hy with rfl | hy; omega; exact ha y hy, ih hr⟩
/-- The numbers of a list as rising ones, each once. -/
def sd : List Int → List Int
  | [] => []
  | a :: r => ins a (sd r)
theorem mem_sd {x : Int} {l : List Int} : x ∈ sd l ↔ x ∈ l := by
  induction l with
  | nil => simp [sd]
  | cons a r ih => simp [sd, mem_ins, ih]
theorem sd_rise (l : List Int) : Rise (sd l) := by
  induction l with
  | nil => exact List.Pairwise.nil
  | cons a r ih => exact ins_rise ih
theorem sd_of {l m : List Int} (h : Rise m) (hm : ∀ x, x ∈ m ↔ x ∈ l) : m = sd l := rise_unique h (sd_rise l) fun x => (hm x).trans mem_sd.symm
theorem sd_eq {l m : List Int} : sd l = sd m ↔ ∀ x, x ∈ l ↔ x ∈ m := ⟨fun h x => by rw [← mem_sd, h, mem_sd], fun h => sd_of (sd_rise l) fun x => mem_sd.trans (h x)⟩
/-- Steps: their labels, and where they lead. -/
abbrev St : Type := Int × Int
/-- The class of where a step leads. -/
def cl (c : List Nat) (t : Int) : Nat := (c[t.toNat]?).getD 0
/-- The ends of steps by a number that is greater than all classes. -/
def ends (M : Int) (c : List Nat) (l : List St) : List Int := l.map fun z => z.1 * M + cl c z.2
/-- With which labels steps lead into which classes. -/
def leads (c : List Nat) (l : List St) (b : Int) (k : Nat) : Prop := ∃ z ∈ l, z.1 = b ∧ cl c z.2 = k
theorem mul_inj {a b M : Int} {k m : Nat} (hk : (k : Int) < M) (hm : (m : Int) < M) (h : a * M + k = b * M + m) : a = b ∧ k = m := by
  have e : a = b := by
    rcases Int.lt_trichotomy a b with h1 | h1 | h1
    · have h2 : (a + 1) * M ≤ b * M := Int.mul_le_mul_of_nonneg_right (by omega) (by omega)
      rw [Int.add_mul] at h2; omega
    · exact h1
    · have h2 : (b + 1) * M ≤ a * M := Int.mul_le_mul_of_nonneg_right (by omega) (by omega)
      rw [Int.add_mul] at h2; omega
  subst e
  exact ⟨rfl, by omega⟩
/-- Ends are the same just if steps lead alike. -/
theorem ends_eq {M : Int} {c : List Nat} {l m : List St} (h1 : ∀ z ∈ l, (cl c z.2 : Int) < M) (h2 : ∀ z ∈ m, (cl c z.2 : Int) < M) : sd (ends M c l) = sd (ends M c m) ↔ ∀ b k, leads c l b k ↔ leads c m b k := by
  have half : ∀ {l m : List St}, (∀ z ∈ l, (cl c z.2 : Int) < M) → (∀ z ∈ m, (cl c z.2 : Int) < M) → (∀ x, x ∈ ends M c l → x ∈ ends M c m) → ∀ b k, leads c l b k → leads c m b k := fun {l m} h1 h2 h b k hL => by
    obtain ⟨z, hz, rfl, rfl⟩ := hL
    obtain ⟨y, hy, he⟩ := List.mem_map.1 (h _ (List.mem_map.2 ⟨z, hz, rfl⟩))
    obtain ⟨e1, e2⟩ := mul_inj (h2 y hy) (h1 z hz) he
    exact ⟨y, hy, e1, e2⟩
  have back : ∀ {l m : List St}, (∀ b k, leads c l b k → leads c m b k) → ∀ x, x ∈ ends M c l → x ∈ ends M c m := fun {l m} h x hx => by
    obtain ⟨z, hz, rfl⟩ := List.mem_map.1 hx
    obtain ⟨y, hy, e1, e2⟩ := h _ _ ⟨z, hz, rfl, rfl⟩
    exact List.mem_map.2 ⟨y, hy, by rw [e1, e2]⟩
  rw [sd_eq]
  constructor
  · exact fun h b k => ⟨half h1 h2 (fun x => (h x).1) b k, half h2 h1 (fun x => (h x).2) b k⟩
  · exact fun h x => ⟨back (fun b k => (h b k).1) x, back (fun b k => (h b k).2) x⟩
/-- The key of a state: its class, and its steps' ends. -/
def key (out : Nat → List St) (c : List Nat) (i : Nat) : Int × List Int := ((c[i]?).getD 0, sd (ends 1001 c (out i)))
/-- The classes of the round behind one. -/
def nx (n : Nat) (out : Nat → List St) (c : List Nat) : List Nat := num ((List.range n).map (key out c))
/-- The classes of a round. -/
def rnd (n : Nat) (out : Nat → List St) : Nat → List Nat
  | 0 => List.replicate n 0
  | k + 1 => nx n out (rnd n out k)
theorem nx_len (n : Nat) (out : Nat → List St) (c : List Nat) : (nx n out c).length = n := by simp [nx, num_len]
theorem rnd_len (n : Nat) (out : Nat → List St) (k : Nat) : (rnd n out k).length = n := by
  cases k with
  | zero => simp [rnd]
  | succ k => exact nx_len n out _
theorem nx_lt {n : Nat} {out : Nat → List St} {c : List Nat} {u : Nat} (h : u ∈ nx n out c) : u < n := by
  have h1 := num_lt h
  have h2 := dd_le ((List.range n).map (key out c))
  simp at h2
  omega
theorem rnd_lt {n : Nat} {out : Nat → List St} {k u : Nat} (h : u ∈ rnd n out k) : u < n := by
  cases k with
  | zero => obtain ⟨h1, rfl⟩ := List.mem_replicate.1 h; omega
  | succ k => exact nx_lt h
theorem key_at {n i : Nat} (out : Nat → List St) (c : List Nat) (h : i < n) : ((List.range n).map (key out c))[i]? = some (key out c i) := by
  rw [List.getElem?_map, List.getElem?_range h]; rfl
/-- Behind a round two states are together, if they were, and if their steps lead alike. -/
theorem nx_eq {n : Nat} {out : Nat → List St} {c : List Nat} (hc : c.length = n) (hn : n ≤ 1000) (hlt : ∀ u ∈ c, u < n) {i j u v x y : Nat} (hu : (nx n out c)[i]? = some u) (hv : (nx n out c)[j]? = some v) (hx : c[i]? = some x) (hy : c[j]? = some y) : u = v ↔ x = y ∧ ∀ b k, leads c (out i) b k ↔ leads c (out j) b k := by
  have hi : i < n := by have := (List.getElem?_eq_some_iff.1 hx).1; omega
  have hj : j < n := by have := (List.getElem?_eq_some_iff.1 hy).1; omega
  have hM : ∀ t : Int, (cl c t : Int) < 1001 := fun t => by
    unfold cl
    cases h : c[t.toNat]? with
    | none => simp
    | some w => have := hlt w (List.mem_of_getElem? h); simp; omega
  have h1 := num_eq (key_at out c hi) (key_at out c hj) hu hv
  rw [h1]
  unfold key
  rw [hx, hy, Prod.mk.injEq, ends_eq (fun z _ => hM z.2) (fun z _ => hM z.2)]
  exact and_congr_left fun _ => (by simp only [Option.getD_some]; omega)
theorem rnd_num (n : Nat) (out : Nat → List St) (k : Nat) : num (rnd n out k) = rnd n out k := by
  cases k with
  | zero =>
    show num (List.replicate n 0) = List.replicate n 0
    refine snoc_ind (P := fun l : List Nat => (∀ x ∈ l, x = 0) → num l = l) (fun _ => rfl) (fun l x ih h => ?_) (List.replicate n 0) (fun x hx => (List.mem_replicate.1 hx).2)
    have hx : x = 0 := h x (List.mem_append_right _ List.mem_cons_self)
    subst hx
    have hl : ∀ y ∈ l, y = 0 := fun y hy => h y (List.mem_append_left _ hy)
    rw [num_snoc, ih hl]
    congr 2
    by_cases h0 : (0 : Nat) ∈ dd l
    · have hlen : (dd l).length ≤ 1 := by
        clear ih h
        refine snoc_ind (P := fun l : List Nat => (∀ x ∈ l, x = 0) → (dd l).length ≤ 1) (fun _ => by simp [dd]) (fun l x ih h => ?_) l hl
        have h1 := ih fun y hy => h y (List.mem_append_left _ hy)
        rw [dd_len_snoc]
        split
        · omega
        · rename_i hx
          have : l = [] := by
            cases l with
            | nil => rfl
            | cons y s => exact absurd (by rw [h x (List.mem_append_right _ List.mem_cons_self), ← h y List.mem_cons_self]; exact List.mem_cons_self) hx
          subst this
          simp [dd]
      have := place_lt.2 h0
      omega
    · rw [place_no h0]
      cases l with
      | nil => simp [dd]
      | cons y s => exact absurd ((mem_dd _).2 (by rw [← hl y List.mem_cons_self]; exact List.mem_cons_self)) h0
  | succ k => exact num_num _
/-- As many classes behind a round as ahead: nothing has changed. -/
theorem nx_stop {n : Nat} {out : Nat → List St} {c : List Nat} (hc : c.length = n) (hnum : num c = c) : (dd c).length ≤ (dd (nx n out c)).length ∧ ((dd c).length = (dd (nx n out c)).length → nx n out c = c) := by
  have hf := finer ((nx n out c).zip c) fun p hp q hq e => by
    obtain ⟨i, hi⟩ := List.mem_iff_getElem?.1 hp
    obtain ⟨j, hj⟩ := List.mem_iff_getElem?.1 hq
    rw [List.getElem?_zip_eq_some] at hi hj
    have hil : i < n := by have := (List.getElem?_eq_some_iff.1 hi.2).1; omega
    have hjl : j < n := by have := (List.getElem?_eq_some_iff.1 hj.2).1; omega
    have h1 := (num_eq (key_at out c hil) (key_at out c hjl) hi.1 hj.1).1 e
    have h2 := (Prod.mk.injEq .. ▸ h1 : _ ∧ _).1
    rw [hi.2, hj.2] at h2
    simp only [Option.getD_some] at h2
    omega
  rw [List.map_fst_zip (by rw [nx_len, hc]; exact Nat.le_refl _), List.map_snd_zip (by rw [nx_len, hc]; exact Nat.le_refl _)] at hf
  refine ⟨hf.1, fun e => ?_⟩
  have h1 := hf.2 e
  rw [hnum] at h1
  have h2 : num (nx n out c) = nx n out c := num_num _
  rw [← h2, h1]
theorem rnd_stop {n : Nat} {out : Nat → List St} {k : Nat} (h : (dd (rnd n out k)).length = (dd (rnd n out (k + 1))).length) : rnd n out (k + 1) = rnd n out k := (nx_stop (rnd_len n out k) (rnd_num n out k)).2 h
/-- As long as something changes there are ever more classes. -/
theorem rnd_grow {n : Nat} {out : Nat → List St} {k : Nat} (hn : 0 < n) (h : ∀ j, j < k → rnd n out (j + 1) ≠ rnd n out j) : k + 1 ≤ (dd (rnd n out k)).length := by
  induction k with
  | zero =>
    have : (0 : Nat) ∈ dd (rnd n out 0) := (mem_dd _).2 (List.mem_replicate.2 ⟨by omega, rfl⟩)
    exact List.length_pos_of_mem this
  | succ k ih =>
    have h1 := ih fun j hj => h j (by omega)
    have h2 := (nx_stop (out := out) (rnd_len n out k) (rnd_num n out k)).1
    have h3 : (dd (rnd n out k)).length ≠ (dd (rnd n out (k + 1))).length := fun e => h k (by omega) (rnd_stop e)
    show k + 1 + 1 ≤ (dd (rnd n out (k + 1))).length
    have h4 : (dd (rnd n out k)).length ≤ (dd (rnd n out (k + 1))).length := h2
    omega
/-- R is the last round: behind it nothing changes, and ahead of it something did each time. -/
def Last (n : Nat) (out : Nat → List St) (R : Nat) : Prop := rnd n out (R + 1) = rnd n out R ∧ ∀ j, j < R → rnd n out (j + 1) ≠ rnd n out j
theorem changes_lt {n : Nat} {out : Nat → List St} {k : Nat} (h : ∀ j, j < k → rnd n out (j + 1) ≠ rnd n out j) : k < max n 1 := by
  by_cases hn : 0 < n
  · have h1 := rnd_grow hn h
    have h2 := dd_le (rnd n out k)
    rw [rnd_len] at h2
    omega
  · obtain rfl : n = 0 := by omega
    rcases Nat.eq_zero_or_pos k with rfl | hk
    · simp
    · exact absurd (by rw [List.length_eq_zero_iff.1 (rnd_len 0 out (0 + 1)), List.length_eq_zero_iff.1 (rnd_len 0 out 0)]) (h 0 hk)
theorem Last.lt {n : Nat} {out : Nat → List St} {R : Nat} (h : Last n out R) : R < max n 1 := changes_lt h.2
theorem exists_last (n : Nat) (out : Nat → List St) : ∃ R, Last n out R := by
  have h : ∀ f k, k + f = max n 1 → (∀ j, j < k → rnd n out (j + 1) ≠ rnd n out j) → ∃ R, Last n out R := fun f => by
    induction f with
    | zero => intro k hk hc; have := changes_lt hc; omega
    | succ f ih =>
      intro k hk hc
      by_cases e : rnd n out (k + 1) = rnd n out k
      · exact ⟨k, e, hc⟩
      · exact ih (k + 1) (by omega) fun j hj => by
          rcases Nat.lt_or_ge j k with h1 | h1
          · exact hc j h1
          · obtain rfl : j = k := by omega
            exact e
  exact h (max n 1) 0 (by omega) fun j hj => by omega
theorem Last.ge {n : Nat} {out : Nat → List St} {R k : Nat} (h : Last n out R) (hc : ∀ j, j < k → rnd n out (j + 1) ≠ rnd n out j) : k ≤ R := by
  rcases Nat.lt_or_ge R k with h1 | h1
  · exact absurd h.1 (hc R h1)
  · exact h1
theorem Last.unique {n : Nat} {out : Nat → List St} {R S : Nat} (h : Last n out R) (k : Last n out S) : R = S := by
  rcases Nat.lt_trichotomy R S with h1 | h1 | h1
  · exact absurd h.1 (k.2 R h1)
  · exact h1
  · exact absurd k.1 (h.2 S h1)
/-- The rounds, from the first one on. -/
def rounds (n : Nat) (out : Nat → List St) (k : Nat) : List (List Nat) := (List.range k).map (rnd n out)
theorem rounds_succ (n : Nat) (out : Nat → List St) (k : Nat) : rounds n out (k + 1) = rounds n out k ++ [rnd n out k] := by simp [rounds, List.range_succ]
theorem rounds_at {n k i : Nat} (out : Nat → List St) (h : i < k) : (rounds n out k)[i]? = some (rnd n out i) := by
  unfold rounds
  rw [List.getElem?_map, List.getElem?_range h]; rfl
/-- The rank of two states in the rounds from k on, of which there are f. -/
def rankG (n : Nat) (out : Nat → List St) (p q : Nat) (k : Nat) : Nat → Int
  | 0 => -1
  | f + 1 => if (rnd n out k)[p]? = (rnd n out k)[q]? then rankG n out p q (k + 1) f else k
def rank (n : Nat) (out : Nat → List St) (R p q : Nat) : Int := rankG n out p q 0 (R + 1)
/-- Out of rows that are the same rounds are the same. -/
theorem nx_out {n : Nat} {out out' : Nat → List St} (c : List Nat) (h : ∀ i, i < n → ∀ z, z ∈ out i ↔ z ∈ out' i) : nx n out c = nx n out' c := by
  unfold nx
  congr 1
  refine List.map_congr_left fun i hi => ?_
  unfold key
  congr 1
  rw [sd_eq]
  intro x
  unfold ends
  rw [List.mem_map, List.mem_map]
  exact ⟨fun ⟨z, hz, e⟩ => ⟨z, (h i (List.mem_range.1 hi) z).1 hz, e⟩, fun ⟨z, hz, e⟩ => ⟨z, (h i (List.mem_range.1 hi) z).2 hz, e⟩⟩
theorem rnd_out {n : Nat} {out out' : Nat → List St} (h : ∀ i, i < n → ∀ z, z ∈ out i ↔ z ∈ out' i) (k : Nat) : rnd n out k = rnd n out' k := by
  induction k with
  | zero => rfl
  | succ k ih =>
    show nx n out (rnd n out k) = nx n out' (rnd n out' k)
    rw [ih]
    exact nx_out _ h
end Go.Proofs.YtpmanmoljlhogaaGreatDoor.Ro
