/- Contract of the book's Apart, where it has lists of these kinds alone: Tokens, Lines. (Written by mkap.py.) -/
import Derived.Test.YthcboklkejlifaaGreatDoorBXaTokens
import Derived.Test.YthcboklkejlifaaGreatDoorBYaLines
import Derived.Test.YthcboklkejlifaaGreatDoorBookNil
namespace Go.Proofs.YthcboklkejlifaaGreatDoor.ApTL
open Go.RowKit Go.Maps
attribute [local go_sem ↓] Go.wp_at_zero Go.wp_at_succ
/-- Of the other kinds the book has none. -/
structure Oth (w : World) (bk : Nat) : Prop where
  dInts : w.cell? ⟨bk, 0, none⟩ = some (.slice none 0 0)
  dTexts : w.cell? ⟨bk, 4, none⟩ = some (.slice none 0 0)
  dBools : w.cell? ⟨bk, 6, none⟩ = some (.slice none 0 0)
  dSteps : w.cell? ⟨bk, 8, none⟩ = some (.slice none 0 0)
  dEdges : w.cell? ⟨bk, 10, none⟩ = some (.slice none 0 0)
  dNodes : w.cell? ⟨bk, 12, none⟩ = some (.slice none 0 0)
  dPairs : w.cell? ⟨bk, 14, none⟩ = some (.slice none 0 0)
  dRows : w.cell? ⟨bk, 16, none⟩ = some (.slice none 0 0)
  dWalks : w.cell? ⟨bk, 20, none⟩ = some (.slice none 0 0)
theorem Oth.block {w w' : World} {bk : Nat} (h : Oth w bk) (hb : w'.heap[bk]? = w.heap[bk]?) : Oth w' bk :=
  ⟨(World.cell?_of_block (a := ⟨bk, 0, none⟩) hb).trans h.dInts, (World.cell?_of_block (a := ⟨bk, 4, none⟩) hb).trans h.dTexts, (World.cell?_of_block (a := ⟨bk, 6, none⟩) hb).trans h.dBools, (World.cell?_of_block (a := ⟨bk, 8, none⟩) hb).trans h.dSteps, (World.cell?_of_block (a := ⟨bk, 10, none⟩) hb).trans h.dEdges, (World.cell?_of_block (a := ⟨bk, 12, none⟩) hb).trans h.dNodes, (World.cell?_of_block (a := ⟨bk, 14, none⟩) hb).trans h.dPairs, (World.cell?_of_block (a := ⟨bk, 16, none⟩) hb).trans h.dRows, (World.cell?_of_block (a := ⟨bk, 20, none⟩) hb).trans h.dWalks⟩
theorem Oth.lt {w : World} {bk : Nat} (h : Oth w bk) : bk < w.heap.size := World.block_lt_of_cell? w _ h.dInts
theorem Oth.below {w w' : World} {bk : Nat} (h : Oth w bk) (hb : Below w.heap.size w w') : Oth w' bk := h.block (hb.block bk h.lt)
theorem Oth.kept {F : Nat → Prop} {w w' : World} {bk : Nat} (h : Oth w bk) (hk : Kept F w w') (hF : ¬ F bk) : Oth w' bk := h.block (hk.block bk h.lt hF)
/-- Lists of unlike kinds lie apart. -/
structure Dis (w : World) (bk : Nat) (viTokens : Value) (lsTokens : List Value) (viLines : Value) (lsLines : List Value) : Prop where
  ltTokens : ∀ b, LsF lsTokens b → b < w.heap.size
  bkTokens : ¬ LsF lsTokens bk
  ltLines : ∀ b, LsF lsLines b → b < w.heap.size
  bkLines : ¬ LsF lsLines bk
  rTokensLines : ∀ b, viLines.ownBlock = some b → ¬ LsF lsTokens b
  lTokensLines : ∀ b, LsF lsLines b → ¬ LsF lsTokens b
  rLinesTokens : ∀ b, viTokens.ownBlock = some b → ¬ LsF lsLines b
  lLinesTokens : ∀ b, LsF lsTokens b → ¬ LsF lsLines b
theorem dis_of {w : World} {bk : Nat} {viTokens vwTokens : Value} {lsTokens wsTokens : List Value} {zssTokens : List (List BTokens.El)} {viLines vwLines : Value} {lsLines wsLines : List Value} {zssLines : List (List BLines.El)} (hTokens : BTokens.Bs w bk viTokens vwTokens lsTokens wsTokens zssTokens) (hLines : BLines.Bs w bk viLines vwLines lsLines wsLines zssLines) (hXLines : ∀ b, viTokens.ownBlock = some b → ¬ LsF lsLines b) : Dis w bk viTokens lsTokens viLines lsLines :=
  ⟨fun _ hb => BTokens.Bp.lsf_lt hTokens.p hb, BTokens.Bp.far_bk hTokens.p, fun _ hb => BLines.Bp.lsf_lt hLines.p hb, BLines.Bp.far_bk hLines.p, fun _ hb => BTokens.Bp.far_of hTokens.p hLines.p.ri (by decide) hb, fun _ hb => by obtain ⟨_, _, _, _, ho, hob⟩ := BLines.Bp.typed hLines.p hb; exact BTokens.Bp.far_of hTokens.p ho (by decide) hob, hXLines, fun _ hb => by obtain ⟨_, _, _, _, ho, hob⟩ := BTokens.Bp.typed hTokens.p hb; exact BLines.Bp.far_of hLines.p ho (by decide) hob⟩
set_option maxRecDepth 100000 in
set_option maxHeartbeats 16000000 in
theorem apart_any (bk : Nat) (viTokens vwTokens : Value) (lsTokens wsTokens : List Value) (zssTokens : List (List BTokens.El)) (viLines vwLines : Value) (lsLines wsLines : List Value) (zssLines : List (List BLines.El)) (w : World) (hTokens : BTokens.Bs w bk viTokens vwTokens lsTokens wsTokens zssTokens) (hLines : BLines.Bs w bk viLines vwLines lsLines wsLines zssLines) (hXLines : ∀ b, viTokens.ownBlock = some b → ¬ LsF lsLines b) (hRLines : BLines.Rd w zssLines) (ho : Oth w bk) :
    Calls Tryz.prog 14 #[.pointer (some ⟨bk, 0, none⟩)] w fun r w' => r = .returned (.bool true) ∧ Kept (fun b => LsF lsTokens b ∨ LsF lsLines b) w w' := by
  have HD : Hid _ := And.intro (dis_of hTokens hLines hXLines) (And.intro (And.intro hTokens.p.len hTokens.p.sz) (And.intro hLines.p.len hLines.p.sz))
  have S0 : Hid _ := And.intro (hTokens) (And.intro (And.intro hLines hRLines) (And.intro (ho) (Kept.refl (fun b => LsF lsTokens b ∨ LsF lsLines b) w)))
  clear hTokens hLines hRLines hXLines ho
  go_enter Tryz.func14, Tryz.ntmps14
  go_wp2_with (first
    | (go_at_call 32; refine (stillInts_nil bk _ (S0.out.2.2.1).dInts).mono ?_; rintro r9 w9 ⟨rfl, hw⟩; obtain rfl := hw.symm; clear hw)
    | (go_at_call 33; refine (BTokens.still_any bk viTokens vwTokens lsTokens wsTokens zssTokens _ (S0.out.1)).mono ?_; rintro r1 ws1 ⟨rfl, hb⟩; have S1 : Hid _ := And.intro ((S0.out.1).below hb) (And.intro (And.intro ((S0.out.2.1).1.below hb) ((S0.out.2.1).2.below hb)) (And.intro ((S0.out.2.2.1).below hb) ((S0.out.2.2.2).trans (Kept.of_below hb)))); clear hb S0)
    | (go_at_call 34; refine (stillTexts_nil bk _ (S1.out.2.2.1).dTexts).mono ?_; rintro r9 w9 ⟨rfl, hw⟩; obtain rfl := hw.symm; clear hw)
    | (go_at_call 35; refine (stillBools_nil bk _ (S1.out.2.2.1).dBools).mono ?_; rintro r9 w9 ⟨rfl, hw⟩; obtain rfl := hw.symm; clear hw)
    | (go_at_call 36; refine (stillSteps_nil bk _ (S1.out.2.2.1).dSteps).mono ?_; rintro r9 w9 ⟨rfl, hw⟩; obtain rfl := hw.symm; clear hw)
    | (go_at_call 37; refine (stillEdges_nil bk _ (S1.out.2.2.1).dEdges).mono ?_; rintro r9 w9 ⟨rfl, hw⟩; obtain rfl := hw.symm; clear hw)
    | (go_at_call 38; refine (stillNodes_nil bk _ (S1.out.2.2.1).dNodes).mono ?_; rintro r9 w9 ⟨rfl, hw⟩; obtain rfl := hw.symm; clear hw)
    | (go_at_call 39; refine (stillPairs_nil bk _ (S1.out.2.2.1).dPairs).mono ?_; rintro r9 w9 ⟨rfl, hw⟩; obtain rfl := hw.symm; clear hw)
    | (go_at_call 40; refine (stillRows_nil bk _ (S1.out.2.2.1).dRows).mono ?_; rintro r9 w9 ⟨rfl, hw⟩; obtain rfl := hw.symm; clear hw)
    | (go_at_call 41; refine (BLines.still_any bk viLines vwLines lsLines wsLines zssLines _ (S1.out.2.1).1 (S1.out.2.1).2).mono ?_; rintro r1 ws2 ⟨rfl, hb⟩; have S2 : Hid _ := And.intro ((S1.out.1).below hb) (And.intro (And.intro ((S1.out.2.1).1.below hb) ((S1.out.2.1).2.below hb)) (And.intro ((S1.out.2.2.1).below hb) ((S1.out.2.2.2).trans (Kept.of_below hb)))); clear hb S1)
    | (go_at_call 42; refine (stillWalks_nil bk _ (S2.out.2.2.1).dWalks).mono ?_; rintro r9 w9 ⟨rfl, hw⟩; obtain rfl := hw.symm; clear hw)
    | (go_at_call 43; refine (putInts_nil bk _ (S2.out.2.2.1).dInts).mono ?_; rintro r9 w9 ⟨rfl, hw⟩; obtain rfl := hw.symm; clear hw)
    | (go_at_call 44; refine (BTokens.putI_any bk viTokens lsTokens zssTokens _ (S2.out.1.p)).mono ?_; rintro r2 wp1 ⟨rfl, hp, hk⟩; have P1 : Hid _ := And.intro (hp) (And.intro (And.intro (BLines.Bp.keep (S2.out.2.1.1.p) hk HD.out.1.bkTokens HD.out.1.rTokensLines HD.out.1.lTokensLines) True.intro) (And.intro ((S2.out.2.2.1).kept hk HD.out.1.bkTokens) ((S2.out.2.2.2).trans (hk.mono fun _ _ hb => (.inl hb))))); clear hp hk S2)
    | (go_at_call 45; refine (putTexts_nil bk _ (P1.out.2.2.1).dTexts).mono ?_; rintro r9 w9 ⟨rfl, hw⟩; obtain rfl := hw.symm; clear hw)
    | (go_at_call 46; refine (putBools_nil bk _ (P1.out.2.2.1).dBools).mono ?_; rintro r9 w9 ⟨rfl, hw⟩; obtain rfl := hw.symm; clear hw)
    | (go_at_call 47; refine (putSteps_nil bk _ (P1.out.2.2.1).dSteps).mono ?_; rintro r9 w9 ⟨rfl, hw⟩; obtain rfl := hw.symm; clear hw)
    | (go_at_call 48; refine (putEdges_nil bk _ (P1.out.2.2.1).dEdges).mono ?_; rintro r9 w9 ⟨rfl, hw⟩; obtain rfl := hw.symm; clear hw)
    | (go_at_call 49; refine (putNodes_nil bk _ (P1.out.2.2.1).dNodes).mono ?_; rintro r9 w9 ⟨rfl, hw⟩; obtain rfl := hw.symm; clear hw)
    | (go_at_call 50; refine (putPairs_nil bk _ (P1.out.2.2.1).dPairs).mono ?_; rintro r9 w9 ⟨rfl, hw⟩; obtain rfl := hw.symm; clear hw)
    | (go_at_call 51; refine (putRows_nil bk _ (P1.out.2.2.1).dRows).mono ?_; rintro r9 w9 ⟨rfl, hw⟩; obtain rfl := hw.symm; clear hw)
    | (go_at_call 52; refine (BLines.putI_any bk viLines lsLines zssLines _ (P1.out.2.1.1)).mono ?_; rintro r2 wp2 ⟨rfl, mssLines, hp, hmk, hk⟩; have P2 : Hid _ := And.intro (BTokens.Bp.keep (P1.out.1) hk HD.out.1.bkLines HD.out.1.rLinesTokens HD.out.1.lLinesTokens) (And.intro (And.intro hp (hmk.base (P1.out.2.2.2).size)) (And.intro ((P1.out.2.2.1).kept hk HD.out.1.bkLines) ((P1.out.2.2.2).trans (hk.mono fun _ _ hb => (.inr (hb)))))); clear hp hk hmk P1)
    | (go_at_call 53; refine (putWalks_nil bk _ (P2.out.2.2.1).dWalks).mono ?_; rintro r9 w9 ⟨rfl, hw⟩; obtain rfl := hw.symm; clear hw)
    | (go_at_call 54; refine (growInts_nil bk _ (P2.out.2.2.1).dInts).mono ?_; rintro r9 w9 ⟨rfl, hw⟩; obtain rfl := hw.symm; clear hw)
    | (go_at_call 55; refine (BTokens.growI_any bk viTokens lsTokens (BTokens.allM zssTokens) _ (P2.out.1)).mono ?_; rintro r3 wg1 ⟨voTokens, osTokens, rfl, hG⟩; have hM := And.intro (BTokens.gr_marked hG) (And.intro hG.c0 (P2.out.2.2.2).size); have G1 : Hid _ := And.intro (hM) (And.intro (And.intro (BLines.Bp.keep (P2.out.2.1).1 hG.kp HD.out.1.bkTokens HD.out.1.rTokensLines HD.out.1.lTokensLines) ((P2.out.2.1).2.up hG.kp (fun g _ hg _ hf => by have := HD.out.1.ltTokens g hf; omega))) (And.intro ((P2.out.2.2.1).kept hG.kp HD.out.1.bkTokens) ((P2.out.2.2.2).trans (hG.kp.mono fun _ _ hb => (.inl hb))))); clear hM hG P2)
    | (go_at_call 56; refine (growTexts_nil bk _ (G1.out.2.2.1).dTexts).mono ?_; rintro r9 w9 ⟨rfl, hw⟩; obtain rfl := hw.symm; clear hw)
    | (go_at_call 57; refine (growBools_nil bk _ (G1.out.2.2.1).dBools).mono ?_; rintro r9 w9 ⟨rfl, hw⟩; obtain rfl := hw.symm; clear hw)
    | (go_at_call 58; refine (growSteps_nil bk _ (G1.out.2.2.1).dSteps).mono ?_; rintro r9 w9 ⟨rfl, hw⟩; obtain rfl := hw.symm; clear hw)
    | (go_at_call 59; refine (growEdges_nil bk _ (G1.out.2.2.1).dEdges).mono ?_; rintro r9 w9 ⟨rfl, hw⟩; obtain rfl := hw.symm; clear hw)
    | (go_at_call 60; refine (growNodes_nil bk _ (G1.out.2.2.1).dNodes).mono ?_; rintro r9 w9 ⟨rfl, hw⟩; obtain rfl := hw.symm; clear hw)
    | (go_at_call 61; refine (growPairs_nil bk _ (G1.out.2.2.1).dPairs).mono ?_; rintro r9 w9 ⟨rfl, hw⟩; obtain rfl := hw.symm; clear hw)
    | (go_at_call 62; refine (growRows_nil bk _ (G1.out.2.2.1).dRows).mono ?_; rintro r9 w9 ⟨rfl, hw⟩; obtain rfl := hw.symm; clear hw)
    | (go_at_call 63; refine (BLines.growI_any bk viLines lsLines mssLines _ (G1.out.2.1).1).mono ?_; rintro r3 wg2 ⟨voLines, osLines, rfl, hG⟩; have hM := And.intro (BLines.gr_marked hG (G1.out.2.1).1 (G1.out.2.1).2 (G1.out.2.2.2).size) (And.intro hG.c0 (G1.out.2.2.2).size); have G2 : Hid _ := And.intro (And.intro (And.intro ((G1.out.1).1.1.kept hG.kp (fun b hb hg => hb.elim (fun e => HD.out.1.lLinesTokens b e hg) (fun e => e.elim (fun e => HD.out.1.rLinesTokens b e hg) (fun e => by have := HD.out.1.ltLines b hg; have := (G1.out.1).2.2; omega)))) ((G1.out.1).1.2.kept hG.kp (fun b hb hg => hb.elim (fun e => HD.out.1.lLinesTokens b e hg) (fun e => e.elim (fun e => HD.out.1.rLinesTokens b e hg) (fun e => by have := HD.out.1.ltLines b hg; have := (G1.out.1).2.2; omega))))) (And.intro ((World.cell?_of_block (a := ⟨bk, 2, none⟩) (hG.kp.block bk (G1.out.2.2.1).lt HD.out.1.bkLines)).trans (G1.out.1).2.1) (G1.out.1).2.2)) (And.intro (hM) (And.intro ((G1.out.2.2.1).kept hG.kp HD.out.1.bkLines) ((G1.out.2.2.2).trans (hG.kp.mono fun _ _ hb => (.inr (hb)))))); clear hM hG G1)
    | (go_at_call 64; refine (growWalks_nil bk _ (G2.out.2.2.1).dWalks).mono ?_; rintro r9 w9 ⟨rfl, hw⟩; obtain rfl := hw.symm; clear hw)
    | fail)
  obtain ⟨dInts, dTexts, dBools, dSteps, dEdges, dNodes, dPairs, dRows, dWalks⟩ := G2.out.2.2.1
  go_wp2_with (first
    | (go_at_call 65; refine (markedInts_nil _).mono ?_; rintro r9 w9 ⟨rfl, hw⟩; obtain rfl := hw.symm; clear hw)
    | (go_at_call 67; refine (markedTexts_nil _).mono ?_; rintro r9 w9 ⟨rfl, hw⟩; obtain rfl := hw.symm; clear hw)
    | (go_at_call 68; refine (markedBools_nil _).mono ?_; rintro r9 w9 ⟨rfl, hw⟩; obtain rfl := hw.symm; clear hw)
    | (go_at_call 69; refine (markedSteps_nil _).mono ?_; rintro r9 w9 ⟨rfl, hw⟩; obtain rfl := hw.symm; clear hw)
    | (go_at_call 70; refine (markedEdges_nil _).mono ?_; rintro r9 w9 ⟨rfl, hw⟩; obtain rfl := hw.symm; clear hw)
    | (go_at_call 71; refine (markedNodes_nil _).mono ?_; rintro r9 w9 ⟨rfl, hw⟩; obtain rfl := hw.symm; clear hw)
    | (go_at_call 72; refine (markedPairs_nil _).mono ?_; rintro r9 w9 ⟨rfl, hw⟩; obtain rfl := hw.symm; clear hw)
    | (go_at_call 73; refine (markedRows_nil _).mono ?_; rintro r9 w9 ⟨rfl, hw⟩; obtain rfl := hw.symm; clear hw)
    | (go_at_call 75; refine (markedWalks_nil _).mono ?_; rintro r9 w9 ⟨rfl, hw⟩; obtain rfl := hw.symm; clear hw)
    | fail)
  clear dInts dTexts dBools dSteps dEdges dNodes dPairs dRows dWalks
  refine (BTokens.markedI_any voTokens (zssTokens.map fun z => z.length + 96) _ (G2.out.1).1.1.mr (by rw [List.length_map]; exact HD.out.2.1.1) (fun n hn => by obtain ⟨z, hz, rfl⟩ := List.mem_map.1 hn; have := HD.out.2.1.2 z hz; omega)).mono ?_
  rintro r4 wm1 ⟨rfl, hb⟩
  have M1 : Hid _ := And.intro (And.intro (And.intro ((G2.out.1).1.1.below hb) ((G2.out.1).1.2.below hb)) (And.intro (cell_up (G2.out.1).2.1 hb) (G2.out.1).2.2)) (And.intro (And.intro (And.intro ((G2.out.2.1).1.1.below hb) ((G2.out.2.1).1.2.below hb)) (And.intro (cell_up (G2.out.2.1).2.1 hb) (G2.out.2.1).2.2)) (And.intro ((G2.out.2.2.1).below hb) ((G2.out.2.2.2).trans (Kept.of_below hb))))
  clear hb G2
  have cTokens := (M1.out.1).2.1
  go_wp2_with fail
  clear cTokens
  refine (BTokens.markedI_any viTokens (zssTokens.map List.length) _ (M1.out.1).1.2.mr (by rw [List.length_map]; exact HD.out.2.1.1) (fun n hn => by obtain ⟨z, hz, rfl⟩ := List.mem_map.1 hn; have := HD.out.2.1.2 z hz; omega)).mono ?_
  rintro r4 wm2 ⟨rfl, hb⟩
  have M2 : Hid _ := And.intro (And.intro (And.intro ((M1.out.1).1.1.below hb) ((M1.out.1).1.2.below hb)) (And.intro (cell_up (M1.out.1).2.1 hb) (M1.out.1).2.2)) (And.intro (And.intro (And.intro ((M1.out.2.1).1.1.below hb) ((M1.out.2.1).1.2.below hb)) (And.intro (cell_up (M1.out.2.1).2.1 hb) (M1.out.2.1).2.2)) (And.intro ((M1.out.2.2.1).below hb) ((M1.out.2.2.2).trans (Kept.of_below hb))))
  clear hb M1
  obtain ⟨dInts, dTexts, dBools, dSteps, dEdges, dNodes, dPairs, dRows, dWalks⟩ := M2.out.2.2.1
  go_wp2_with (first
    | (go_at_call 65; refine (markedInts_nil _).mono ?_; rintro r9 w9 ⟨rfl, hw⟩; obtain rfl := hw.symm; clear hw)
    | (go_at_call 67; refine (markedTexts_nil _).mono ?_; rintro r9 w9 ⟨rfl, hw⟩; obtain rfl := hw.symm; clear hw)
    | (go_at_call 68; refine (markedBools_nil _).mono ?_; rintro r9 w9 ⟨rfl, hw⟩; obtain rfl := hw.symm; clear hw)
    | (go_at_call 69; refine (markedSteps_nil _).mono ?_; rintro r9 w9 ⟨rfl, hw⟩; obtain rfl := hw.symm; clear hw)
    | (go_at_call 70; refine (markedEdges_nil _).mono ?_; rintro r9 w9 ⟨rfl, hw⟩; obtain rfl := hw.symm; clear hw)
    | (go_at_call 71; refine (markedNodes_nil _).mono ?_; rintro r9 w9 ⟨rfl, hw⟩; obtain rfl := hw.symm; clear hw)
    | (go_at_call 72; refine (markedPairs_nil _).mono ?_; rintro r9 w9 ⟨rfl, hw⟩; obtain rfl := hw.symm; clear hw)
    | (go_at_call 73; refine (markedRows_nil _).mono ?_; rintro r9 w9 ⟨rfl, hw⟩; obtain rfl := hw.symm; clear hw)
    | (go_at_call 75; refine (markedWalks_nil _).mono ?_; rintro r9 w9 ⟨rfl, hw⟩; obtain rfl := hw.symm; clear hw)
    | fail)
  clear dInts dTexts dBools dSteps dEdges dNodes dPairs dRows dWalks
  refine (BLines.markedI_any voLines (zssLines.map fun z => z.length + 96) _ (M2.out.2.1).1.1.mr (by rw [List.length_map]; exact HD.out.2.2.1) (fun n hn => by obtain ⟨z, hz, rfl⟩ := List.mem_map.1 hn; have := HD.out.2.2.2 z hz; omega)).mono ?_
  rintro r4 wm3 ⟨rfl, hb⟩
  have M3 : Hid _ := And.intro (And.intro (And.intro ((M2.out.1).1.1.below hb) ((M2.out.1).1.2.below hb)) (And.intro (cell_up (M2.out.1).2.1 hb) (M2.out.1).2.2)) (And.intro (And.intro (And.intro ((M2.out.2.1).1.1.below hb) ((M2.out.2.1).1.2.below hb)) (And.intro (cell_up (M2.out.2.1).2.1 hb) (M2.out.2.1).2.2)) (And.intro ((M2.out.2.2.1).below hb) ((M2.out.2.2.2).trans (Kept.of_below hb))))
  clear hb M2
  have cLines := (M3.out.2.1).2.1
  go_wp2_with fail
  clear cLines
  refine (BLines.markedI_any viLines (zssLines.map List.length) _ (M3.out.2.1).1.2.mr (by rw [List.length_map]; exact HD.out.2.2.1) (fun n hn => by obtain ⟨z, hz, rfl⟩ := List.mem_map.1 hn; have := HD.out.2.2.2 z hz; omega)).mono ?_
  rintro r4 wm4 ⟨rfl, hb⟩
  have M4 : Hid _ := And.intro (And.intro (And.intro ((M3.out.1).1.1.below hb) ((M3.out.1).1.2.below hb)) (And.intro (cell_up (M3.out.1).2.1 hb) (M3.out.1).2.2)) (And.intro (And.intro (And.intro ((M3.out.2.1).1.1.below hb) ((M3.out.2.1).1.2.below hb)) (And.intro (cell_up (M3.out.2.1).2.1 hb) (M3.out.2.1).2.2)) (And.intro ((M3.out.2.2.1).below hb) ((M3.out.2.2.2).trans (Kept.of_below hb))))
  clear hb M3
  obtain ⟨dInts, dTexts, dBools, dSteps, dEdges, dNodes, dPairs, dRows, dWalks⟩ := M4.out.2.2.1
  go_wp2_with (first
    | (go_at_call 65; refine (markedInts_nil _).mono ?_; rintro r9 w9 ⟨rfl, hw⟩; obtain rfl := hw.symm; clear hw)
    | (go_at_call 67; refine (markedTexts_nil _).mono ?_; rintro r9 w9 ⟨rfl, hw⟩; obtain rfl := hw.symm; clear hw)
    | (go_at_call 68; refine (markedBools_nil _).mono ?_; rintro r9 w9 ⟨rfl, hw⟩; obtain rfl := hw.symm; clear hw)
    | (go_at_call 69; refine (markedSteps_nil _).mono ?_; rintro r9 w9 ⟨rfl, hw⟩; obtain rfl := hw.symm; clear hw)
    | (go_at_call 70; refine (markedEdges_nil _).mono ?_; rintro r9 w9 ⟨rfl, hw⟩; obtain rfl := hw.symm; clear hw)
    | (go_at_call 71; refine (markedNodes_nil _).mono ?_; rintro r9 w9 ⟨rfl, hw⟩; obtain rfl := hw.symm; clear hw)
    | (go_at_call 72; refine (markedPairs_nil _).mono ?_; rintro r9 w9 ⟨rfl, hw⟩; obtain rfl := hw.symm; clear hw)
    | (go_at_call 73; refine (markedRows_nil _).mono ?_; rintro r9 w9 ⟨rfl, hw⟩; obtain rfl := hw.symm; clear hw)
    | (go_at_call 75; refine (markedWalks_nil _).mono ?_; rintro r9 w9 ⟨rfl, hw⟩; obtain rfl := hw.symm; clear hw)
    | fail)
  go_ret
  exact ⟨rfl, M4.out.2.2.2⟩
end Go.Proofs.YthcboklkejlifaaGreatDoor.ApTL
