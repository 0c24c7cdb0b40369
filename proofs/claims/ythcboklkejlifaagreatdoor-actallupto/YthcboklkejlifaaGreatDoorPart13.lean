/- Texts of this claim, joined: BookApT, PlaySt, PlayLk. -/
import Derived.Test.YthcboklkejlifaaGreatDoorPart8
import Derived.Test.YthcboklkejlifaaGreatDoorPart5
import Derived.Test.YthcboklkejlifaaGreatDoorPart10
import Derived.Test.YthcboklkejlifaaGreatDoorToldAct2
import Derived.Deep.DeepCutAuto
import Derived.Deep.RegionHeld3
/- Contract of the book's Apart, where it has lists of these kinds alone: Texts. (Written by mkap.py.) -/
namespace Go.Proofs.YthcboklkejlifaaGreatDoor.ApT
open Go.RowKit Go.Maps
attribute [local go_sem ↓] Go.wp_at_zero Go.wp_at_succ
/-- Of the other kinds the book has none. -/
structure Oth (w : World) (bk : Nat) : Prop where
  dInts : w.cell? ⟨bk, 0, none⟩ = some (.slice none 0 0)
  dTokens : w.cell? ⟨bk, 2, none⟩ = some (.slice none 0 0)
  dBools : w.cell? ⟨bk, 6, none⟩ = some (.slice none 0 0)
  dSteps : w.cell? ⟨bk, 8, none⟩ = some (.slice none 0 0)
  dEdges : w.cell? ⟨bk, 10, none⟩ = some (.slice none 0 0)
  dNodes : w.cell? ⟨bk, 12, none⟩ = some (.slice none 0 0)
  dPairs : w.cell? ⟨bk, 14, none⟩ = some (.slice none 0 0)
  dRows : w.cell? ⟨bk, 16, none⟩ = some (.slice none 0 0)
  dLines : w.cell? ⟨bk, 18, none⟩ = some (.slice none 0 0)
  dWalks : w.cell? ⟨bk, 20, none⟩ = some (.slice none 0 0)
theorem Oth.block {w w' : World} {bk : Nat} (h : Oth w bk) (hb : w'.heap[bk]? = w.heap[bk]?) : Oth w' bk :=
  ⟨(World.cell?_of_block (a := ⟨bk, 0, none⟩) hb).trans h.dInts, (World.cell?_of_block (a := ⟨bk, 2, none⟩) hb).trans h.dTokens, (World.cell?_of_block (a := ⟨bk, 6, none⟩) hb).trans h.dBools, (World.cell?_of_block (a := ⟨bk, 8, none⟩) hb).trans h.dSteps, (World.cell?_of_block (a := ⟨bk, 10, none⟩) hb).trans h.dEdges, (World.cell?_of_block (a := ⟨bk, 12, none⟩) hb).trans h.dNodes, (World.cell?_of_block (a := ⟨bk, 14, none⟩) hb).trans h.dPairs, (World.cell?_of_block (a := ⟨bk, 16, none⟩) hb).trans h.dRows, (World.cell?_of_block (a := ⟨bk, 18, none⟩) hb).trans h.dLines, (World.cell?_of_block (a := ⟨bk, 20, none⟩) hb).trans h.dWalks⟩
theorem Oth.lt {w : World} {bk : Nat} (h : Oth w bk) : bk < w.heap.size := World.block_lt_of_cell? w _ h.dInts
theorem Oth.below {w w' : World} {bk : Nat} (h : Oth w bk) (hb : Below w.heap.size w w') : Oth w' bk := h.block (hb.block bk h.lt)
theorem Oth.kept {F : Nat → Prop} {w w' : World} {bk : Nat} (h : Oth w bk) (hk : Kept F w w') (hF : ¬ F bk) : Oth w' bk := h.block (hk.block bk h.lt hF)
/-- Lists of unlike kinds lie apart. -/
structure Dis (w : World) (bk : Nat) (viTexts : Value) (lsTexts : List Value) : Prop where
  ltTexts : ∀ b, LsF lsTexts b → b < w.heap.size
  bkTexts : ¬ LsF lsTexts bk
theorem dis_of {w : World} {bk : Nat} {viTexts vwTexts : Value} {lsTexts wsTexts : List Value} {zssTexts : List (List BTexts.El)} (hTexts : BTexts.Bs w bk viTexts vwTexts lsTexts wsTexts zssTexts) : Dis w bk viTexts lsTexts :=
  ⟨fun _ hb => BTexts.Bp.lsf_lt hTexts.p hb, BTexts.Bp.far_bk hTexts.p⟩
set_option maxRecDepth 100000 in
set_option maxHeartbeats 16000000 in
theorem apart_any (bk : Nat) (viTexts vwTexts : Value) (lsTexts wsTexts : List Value) (zssTexts : List (List BTexts.El)) (w : World) (hTexts : BTexts.Bs w bk viTexts vwTexts lsTexts wsTexts zssTexts) (ho : Oth w bk) :
    Calls Tryz.prog 14 #[.pointer (some ⟨bk, 0, none⟩)] w fun r w' => r = .returned (.bool true) ∧ Kept (fun b => LsF lsTexts b) w w' := by
  have HD : Hid _ := And.intro (dis_of hTexts) (And.intro hTexts.p.len hTexts.p.sz)
  have S0 : Hid _ := And.intro (hTexts) (And.intro (ho) (Kept.refl (fun b => LsF lsTexts b) w))
  clear hTexts ho
  go_enter Tryz.func14, Tryz.ntmps14
  go_wp2_with (first
    | (go_at_call 32; refine (stillInts_nil bk _ (S0.out.2.1).dInts).mono ?_; rintro r9 w9 ⟨rfl, hw⟩; obtain rfl := hw.symm; clear hw)
    | (go_at_call 33; refine (stillTokens_nil bk _ (S0.out.2.1).dTokens).mono ?_; rintro r9 w9 ⟨rfl, hw⟩; obtain rfl := hw.symm; clear hw)
    | (go_at_call 34; refine (BTexts.still_any bk viTexts vwTexts lsTexts wsTexts zssTexts _ (S0.out.1)).mono ?_; rintro r1 ws1 ⟨rfl, hb⟩; have S1 : Hid _ := And.intro ((S0.out.1).below hb) (And.intro ((S0.out.2.1).below hb) ((S0.out.2.2).trans (Kept.of_below hb))); clear hb S0)
    | (go_at_call 35; refine (stillBools_nil bk _ (S1.out.2.1).dBools).mono ?_; rintro r9 w9 ⟨rfl, hw⟩; obtain rfl := hw.symm; clear hw)
    | (go_at_call 36; refine (stillSteps_nil bk _ (S1.out.2.1).dSteps).mono ?_; rintro r9 w9 ⟨rfl, hw⟩; obtain rfl := hw.symm; clear hw)
    | (go_at_call 37; refine (stillEdges_nil bk _ (S1.out.2.1).dEdges).mono ?_; rintro r9 w9 ⟨rfl, hw⟩; obtain rfl := hw.symm; clear hw)
    | (go_at_call 38; refine (stillNodes_nil bk _ (S1.out.2.1).dNodes).mono ?_; rintro r9 w9 ⟨rfl, hw⟩; obtain rfl := hw.symm; clear hw)
    | (go_at_call 39; refine (stillPairs_nil bk _ (S1.out.2.1).dPairs).mono ?_; rintro r9 w9 ⟨rfl, hw⟩; obtain rfl := hw.symm; clear hw)
    | (go_at_call 40; refine (stillRows_nil bk _ (S1.out.2.1).dRows).mono ?_; rintro r9 w9 ⟨rfl, hw⟩; obtain rfl := hw.symm; clear hw)
    | (go_at_call 41; refine (stillLines_nil bk _ (S1.out.2.1).dLines).mono ?_; rintro r9 w9 ⟨rfl, hw⟩; obtain rfl := hw.symm; clear hw)
    | (go_at_call 42; refine (stillWalks_nil bk _ (S1.out.2.1).dWalks).mono ?_; rintro r9 w9 ⟨rfl, hw⟩; obtain rfl := hw.symm; clear hw)
    | (go_at_call 43; refine (putInts_nil bk _ (S1.out.2.1).dInts).mono ?_; rintro r9 w9 ⟨rfl, hw⟩; obtain rfl := hw.symm; clear hw)
    | (go_at_call 44; refine (putTokens_nil bk _ (S1.out.2.1).dTokens).mono ?_; rintro r9 w9 ⟨rfl, hw⟩; obtain rfl := hw.symm; clear hw)
    | (go_at_call 45; refine (BTexts.putI_any bk viTexts lsTexts zssTexts _ (S1.out.1.p)).mono ?_; rintro r2 wp1 ⟨rfl, hp, hk⟩; have P1 : Hid _ := And.intro (hp) (And.intro ((S1.out.2.1).kept hk HD.out.1.bkTexts) ((S1.out.2.2).trans (hk.mono fun _ _ hb => hb))); clear hp hk S1)
    | (go_at_call 46; refine (putBools_nil bk _ (P1.out.2.1).dBools).mono ?_; rintro r9 w9 ⟨rfl, hw⟩; obtain rfl := hw.symm; clear hw)
    | (go_at_call 47; refine (putSteps_nil bk _ (P1.out.2.1).dSteps).mono ?_; rintro r9 w9 ⟨rfl, hw⟩; obtain rfl := hw.symm; clear hw)
    | (go_at_call 48; refine (putEdges_nil bk _ (P1.out.2.1).dEdges).mono ?_; rintro r9 w9 ⟨rfl, hw⟩; obtain rfl := hw.symm; clear hw)
    | (go_at_call 49; refine (putNodes_nil bk _ (P1.out.2.1).dNodes).mono ?_; rintro r9 w9 ⟨rfl, hw⟩; obtain rfl := hw.symm; clear hw)
    | (go_at_call 50; refine (putPairs_nil bk _ (P1.out.2.1).dPairs).mono ?_; rintro r9 w9 ⟨rfl, hw⟩; obtain rfl := hw.symm; clear hw)
    | (go_at_call 51; refine (putRows_nil bk _ (P1.out.2.1).dRows).mono ?_; rintro r9 w9 ⟨rfl, hw⟩; obtain rfl := hw.symm; clear hw)
    | (go_at_call 52; refine (putLines_nil bk _ (P1.out.2.1).dLines).mono ?_; rintro r9 w9 ⟨rfl, hw⟩; obtain rfl := hw.symm; clear hw)
    | (go_at_call 53; refine (putWalks_nil bk _ (P1.out.2.1).dWalks).mono ?_; rintro r9 w9 ⟨rfl, hw⟩; obtain rfl := hw.symm; clear hw)
    | (go_at_call 54; refine (growInts_nil bk _ (P1.out.2.1).dInts).mono ?_; rintro r9 w9 ⟨rfl, hw⟩; obtain rfl := hw.symm; clear hw)
    | (go_at_call 55; refine (growTokens_nil bk _ (P1.out.2.1).dTokens).mono ?_; rintro r9 w9 ⟨rfl, hw⟩; obtain rfl := hw.symm; clear hw)
    | (go_at_call 56; refine (BTexts.growI_any bk viTexts lsTexts (BTexts.allM zssTexts) _ (P1.out.1)).mono ?_; rintro r3 wg1 ⟨voTexts, osTexts, rfl, hG⟩; have hM := And.intro (BTexts.gr_marked hG) (And.intro hG.c0 (P1.out.2.2).size); have G1 : Hid _ := And.intro (hM) (And.intro ((P1.out.2.1).kept hG.kp HD.out.1.bkTexts) ((P1.out.2.2).trans (hG.kp.mono fun _ _ hb => hb))); clear hM hG P1)
    | (go_at_call 57; refine (growBools_nil bk _ (G1.out.2.1).dBools).mono ?_; rintro r9 w9 ⟨rfl, hw⟩; obtain rfl := hw.symm; clear hw)
    | (go_at_call 58; refine (growSteps_nil bk _ (G1.out.2.1).dSteps).mono ?_; rintro r9 w9 ⟨rfl, hw⟩; obtain rfl := hw.symm; clear hw)
    | (go_at_call 59; refine (growEdges_nil bk _ (G1.out.2.1).dEdges).mono ?_; rintro r9 w9 ⟨rfl, hw⟩; obtain rfl := hw.symm; clear hw)
    | (go_at_call 60; refine (growNodes_nil bk _ (G1.out.2.1).dNodes).mono ?_; rintro r9 w9 ⟨rfl, hw⟩; obtain rfl := hw.symm; clear hw)
    | (go_at_call 61; refine (growPairs_nil bk _ (G1.out.2.1).dPairs).mono ?_; rintro r9 w9 ⟨rfl, hw⟩; obtain rfl := hw.symm; clear hw)
    | (go_at_call 62; refine (growRows_nil bk _ (G1.out.2.1).dRows).mono ?_; rintro r9 w9 ⟨rfl, hw⟩; obtain rfl := hw.symm; clear hw)
    | (go_at_call 63; refine (growLines_nil bk _ (G1.out.2.1).dLines).mono ?_; rintro r9 w9 ⟨rfl, hw⟩; obtain rfl := hw.symm; clear hw)
    | (go_at_call 64; refine (growWalks_nil bk _ (G1.out.2.1).dWalks).mono ?_; rintro r9 w9 ⟨rfl, hw⟩; obtain rfl := hw.symm; clear hw)
    | fail)
  obtain ⟨dInts, dTokens, dBools, dSteps, dEdges, dNodes, dPairs, dRows, dLines, dWalks⟩ := G1.out.2.1
  go_wp2_with (first
    | (go_at_call 65; refine (markedInts_nil _).mono ?_; rintro r9 w9 ⟨rfl, hw⟩; obtain rfl := hw.symm; clear hw)
    | (go_at_call 66; refine (markedTokens_nil _).mono ?_; rintro r9 w9 ⟨rfl, hw⟩; obtain rfl := hw.symm; clear hw)
    | (go_at_call 68; refine (markedBools_nil _).mono ?_; rintro r9 w9 ⟨rfl, hw⟩; obtain rfl := hw.symm; clear hw)
    | (go_at_call 69; refine (markedSteps_nil _).mono ?_; rintro r9 w9 ⟨rfl, hw⟩; obtain rfl := hw.symm; clear hw)
    | (go_at_call 70; refine (markedEdges_nil _).mono ?_; rintro r9 w9 ⟨rfl, hw⟩; obtain rfl := hw.symm; clear hw)
    | (go_at_call 71; refine (markedNodes_nil _).mono ?_; rintro r9 w9 ⟨rfl, hw⟩; obtain rfl := hw.symm; clear hw)
    | (go_at_call 72; refine (markedPairs_nil _).mono ?_; rintro r9 w9 ⟨rfl, hw⟩; obtain rfl := hw.symm; clear hw)
    | (go_at_call 73; refine (markedRows_nil _).mono ?_; rintro r9 w9 ⟨rfl, hw⟩; obtain rfl := hw.symm; clear hw)
    | (go_at_call 74; refine (markedLines_nil _).mono ?_; rintro r9 w9 ⟨rfl, hw⟩; obtain rfl := hw.symm; clear hw)
    | (go_at_call 75; refine (markedWalks_nil _).mono ?_; rintro r9 w9 ⟨rfl, hw⟩; obtain rfl := hw.symm; clear hw)
    | fail)
  clear dInts dTokens dBools dSteps dEdges dNodes dPairs dRows dLines dWalks
  refine (BTexts.markedI_any voTexts (zssTexts.map fun z => z.length + 96) _ (G1.out.1).1.1.mr (by rw [List.length_map]; exact HD.out.2.1) (fun n hn => by obtain ⟨z, hz, rfl⟩ := List.mem_map.1 hn; have := HD.out.2.2 z hz; omega)).mono ?_
  rintro r4 wm1 ⟨rfl, hb⟩
  have M1 : Hid _ := And.intro (And.intro (And.intro ((G1.out.1).1.1.below hb) ((G1.out.1).1.2.below hb)) (And.intro (cell_up (G1.out.1).2.1 hb) (G1.out.1).2.2)) (And.intro ((G1.out.2.1).below hb) ((G1.out.2.2).trans (Kept.of_below hb)))
  clear hb G1
  have cTexts := (M1.out.1).2.1
  go_wp2_with fail
  clear cTexts
  refine (BTexts.markedI_any viTexts (zssTexts.map List.length) _ (M1.out.1).1.2.mr (by rw [List.length_map]; exact HD.out.2.1) (fun n hn => by obtain ⟨z, hz, rfl⟩ := List.mem_map.1 hn; have := HD.out.2.2 z hz; omega)).mono ?_
  rintro r4 wm2 ⟨rfl, hb⟩
  have M2 : Hid _ := And.intro (And.intro (And.intro ((M1.out.1).1.1.below hb) ((M1.out.1).1.2.below hb)) (And.intro (cell_up (M1.out.1).2.1 hb) (M1.out.1).2.2)) (And.intro ((M1.out.2.1).below hb) ((M1.out.2.2).trans (Kept.of_below hb)))
  clear hb M1
  obtain ⟨dInts, dTokens, dBools, dSteps, dEdges, dNodes, dPairs, dRows, dLines, dWalks⟩ := M2.out.2.1
  go_wp2_with (first
    | (go_at_call 65; refine (markedInts_nil _).mono ?_; rintro r9 w9 ⟨rfl, hw⟩; obtain rfl := hw.symm; clear hw)
    | (go_at_call 66; refine (markedTokens_nil _).mono ?_; rintro r9 w9 ⟨rfl, hw⟩; obtain rfl := hw.symm; clear hw)
    | (go_at_call 68; refine (markedBools_nil _).mono ?_; rintro r9 w9 ⟨rfl, hw⟩; obtain rfl := hw.symm; clear hw)
    | (go_at_call 69; refine (markedSteps_nil _).mono ?_; rintro r9 w9 ⟨rfl, hw⟩; obtain rfl := hw.symm; clear hw)
    | (go_at_call 70; refine (markedEdges_nil _).mono ?_; rintro r9 w9 ⟨rfl, hw⟩; obtain rfl := hw.symm; clear hw)
    | (go_at_call 71; refine (markedNodes_nil _).mono ?_; rintro r9 w9 ⟨rfl, hw⟩; obtain rfl := hw.symm; clear hw)
    | (go_at_call 72; refine (markedPairs_nil _).mono ?_; rintro r9 w9 ⟨rfl, hw⟩; obtain rfl := hw.symm; clear hw)
    | (go_at_call 73; refine (markedRows_nil _).mono ?_; rintro r9 w9 ⟨rfl, hw⟩; obtain rfl := hw.symm; clear hw)
    | (go_at_call 74; refine (markedLines_nil _).mono ?_; rintro r9 w9 ⟨rfl, hw⟩; obtain rfl := hw.symm; clear hw)
    | (go_at_call 75; refine (markedWalks_nil _).mono ?_; rintro r9 w9 ⟨rfl, hw⟩; obtain rfl := hw.symm; clear hw)
    | fail)
  go_ret
  exact ⟨rfl, M2.out.2.2⟩
end Go.Proofs.YthcboklkejlifaaGreatDoor.ApT
/- Two tables, the document's beside them, and a book with lists of texts: what stands while they are played. -/
namespace Go.Proofs.YthcboklkejlifaaGreatDoor
open Go.RowKit Go.Maps
def oW (who : Bool) : Nat := if who then 3 else 0
def pB (b : Nat) : Value := .pointer (some ⟨b, 0, none⟩)
/-- The cells of the two pairs: this one's and the other one's. -/
def cellsOf (who : Bool) (b : Nat) (v : Value) (bk b' : Nat) (v' : Value) : Array Value := if who then #[pB b', v', pB bk, pB b, v, pB bk] else #[pB b, v, pB bk, pB b', v', pB bk]
theorem cells_swap (who : Bool) (b : Nat) (v : Value) (bk b' : Nat) (v' : Value) : cellsOf who b v bk b' v' = cellsOf (!who) b' v' bk b v := by cases who <;> rfl
/-- What is read and not written: the book's lists, the copies, the document's names. -/
def St (ls ws : List Value) (v v' : Value) (i : Nat) : Prop := LsF ls i ∨ LsF ws i ∨ v.ownBlock = some i ∨ v'.ownBlock = some i
structure PS (w0 wr : World) (g bk : Nat) (who : Bool) (b : Nat) (vn vm v : Value) (ns : List ByteArray) (b' : Nat) (vn' vm' v' : Value) (ns' : List ByteArray) (vi vw : Value) (ls ws : List Value) (zss : List (List ByteArray)) : Prop where
  arr : wr.heap[g]? = some (.cells (cellsOf who b v bk b' v') 105 (0, 0))
  t : Tab wr b vn vm ns
  t' : Tab wr b' vn' vm' ns'
  r : BTexts.Own wr 0 v ns
  r' : BTexts.Own wr 0 v' ns'
  bs : BTexts.Bs wr bk vi vw ls ws zss
  ot : ApT.Oth wr bk
  d : ∀ i, Foot b vn vm i → ¬ Foot b' vn' vm' i
  s : ∀ i, Foot b vn vm i → ¬ St ls ws v v' i
  s' : ∀ i, Foot b' vn' vm' i → ¬ St ls ws v v' i
  nm : Named ns
  nm' : Named ns'
  lo : ∀ i, (Foot b vn vm i ∨ Foot b' vn' vm' i ∨ i = g ∨ i = bk ∨ vi.ownBlock = some i ∨ vw.ownBlock = some i ∨ LsF ls i) → w0.heap.size ≤ i
  bl : Below w0.heap.size w0 wr
theorem PS.swap {w0 wr : World} {g bk : Nat} {who : Bool} {b : Nat} {vn vm v : Value} {ns : List ByteArray} {b' : Nat} {vn' vm' v' : Value} {ns' : List ByteArray} {vi vw : Value} {ls ws : List Value} {zss : List (List ByteArray)} (h : PS w0 wr g bk who b vn vm v ns b' vn' vm' v' ns' vi vw ls ws zss) : PS w0 wr g bk (!who) b' vn' vm' v' ns' b vn vm v ns vi vw ls ws zss := by
  have hst : ∀ i, St ls ws v' v i → St ls ws v v' i := fun i hi => by
    rcases hi with hi | hi | hi | hi
    · exact .inl hi
    · exact .inr (.inl hi)
    · exact .inr (.inr (.inr hi))
    · exact .inr (.inr (.inl hi))
  refine ⟨by rw [← cells_swap]; exact h.arr, h.t', h.t, h.r', h.r, h.bs, h.ot, fun i hi hj => h.d i hj hi, fun i hi hs => h.s' i hi (hst i hs), fun i hi hs => h.s i hi (hst i hs), h.nm', h.nm, fun i hi => h.lo i ?_, h.bl⟩
  rcases hi with hi | hi | hi
  · exact .inr (.inl hi)
  · exact .inl hi
  · exact .inr (.inr hi)
theorem PS.below {w0 wr w' : World} {g bk : Nat} {who : Bool} {b : Nat} {vn vm v : Value} {ns : List ByteArray} {b' : Nat} {vn' vm' v' : Value} {ns' : List ByteArray} {vi vw : Value} {ls ws : List Value} {zss : List (List ByteArray)} (h : PS w0 wr g bk who b vn vm v ns b' vn' vm' v' ns' vi vw ls ws zss) (hb : Below wr.heap.size wr w') : PS w0 w' g bk who b vn vm v ns b' vn' vm' v' ns' vi vw ls ws zss :=
  ⟨(hb.block g (t_lt h.arr)).trans h.arr, h.t.below hb, h.t'.below hb, trow_at h.r fun i hi => hb.block i (h.r.lt i hi).2, trow_at h.r' fun i hi => hb.block i (h.r'.lt i hi).2, h.bs.below hb, h.ot.below hb, h.d, h.s, h.s', h.nm, h.nm', h.lo, h.bl.trans (hb.mono h.bl.size)⟩
/-- What a block of a table looks like. -/
theorem foot_typed {w : World} {b : Nat} {vn vm : Value} {ns : List ByteArray} (h : Tab w b vn vm ns) {i : Nat} (hi : Foot b vn vm i) {cs : Array Value} {t : TypeId} (hc : w.heap[i]? = some (.cells cs t (0, 0))) : t = 104 ∨ t = 9 := by
  rcases hi with rfl | hi | hi
  · rw [h.cell] at hc
    injection hc with e
    injection e with _ e
    exact .inl e.symm
  · obtain ⟨c, hr⟩ := row_cells h.row hi
    rw [hr] at hc
    injection hc with e
    injection e with _ e
    exact .inr e.symm
  · rcases h.map with ⟨e, _⟩ | ⟨bm, D, e, ho, _⟩
    · rw [e] at hi; cases hi
    · rw [e] at hi
      injection hi with hi
      injection hi with hi
      subst hi
      obtain ⟨es, clock, hm, _⟩ := ho
      rw [hm] at hc
      cases hc
theorem foot_row {w : World} {b : Nat} {vn vm : Value} {ns : List ByteArray} (h : Tab w b vn vm ns) {B : Nat} {e : TypeId} {sz : Nat} {v : Value} {n : Nat} {xs : List Value} (ho : w.ownsRow B e sz v n xs) (h1 : 104 ≠ e) (h2 : 9 ≠ e) {i : Nat} (hv : v.ownBlock = some i) : ¬ Foot b vn vm i := fun hi => by
  obtain ⟨c, hc⟩ := row_cells ho hv
  rcases foot_typed h hi hc with e | e
  · exact h1 e.symm
  · exact h2 e.symm
/-- The book stands while blocks turn that are none of its own. -/
theorem bs_keep {w w' : World} {F : Nat → Prop} {bk : Nat} {vi vw : Value} {ls ws : List Value} {zss : List (List ByteArray)} (h : BTexts.Bs w bk vi vw ls ws zss) (hk : Kept F w w') (hb : ¬ F bk) (hr : ∀ i, vi.ownBlock = some i → ¬ F i) (hw : ∀ i, vw.ownBlock = some i → ¬ F i) (hl : ∀ i, LsF ls i → ¬ F i) (hs : ∀ i, LsF ws i → ¬ F i) : BTexts.Bs w' bk vi vw ls ws zss := by
  obtain ⟨cs, hcs, hsz⟩ := h.bt
  have hbk := hk.block bk (t_lt hcs) hb
  exact ⟨BTexts.Bp.keep h.p hk hb hr hl, (World.cell?_of_block (a := ⟨bk, 5, none⟩) hbk).trans h.c1, own_up h.rw hk hw, fun k l zs h1 h2 => own_up (h.lw k l zs h1 h2) hk fun i hi => hs i ⟨l, List.mem_of_getElem? h1, hi⟩, ⟨cs, hbk.trans hcs, hsz⟩, h.ne⟩
theorem kept_of_keeps {F : Nat → Prop} {w w' : World} (h : Keeps F w w') : Kept F w w' := ⟨h.os, h.tape, h.output, h.size, h.block⟩
end Go.Proofs.YthcboklkejlifaaGreatDoor
/- Contract of the pair's looks. -/
namespace Go.Proofs.YthcboklkejlifaaGreatDoor
open Go.RowKit Go.Maps
attribute [local go_sem ↓] Go.wp_at_zero Go.wp_at_succ
/-- The book takes a list of the call's own. -/
theorem PS.book {w0 wr w' : World} {g bk : Nat} {who : Bool} {b : Nat} {vn vm v : Value} {ns : List ByteArray} {b' : Nat} {vn' vm' v' : Value} {ns' : List ByteArray} {vi vw : Value} {ls ws : List Value} {zss : List (List ByteArray)} (h : PS w0 wr g bk who b vn vm v ns b' vn' vm' v' ns' vi vw ls ws zss) {l : Value} {zs : List ByteArray} {vi' vw' v1 : Value} (hN : BTexts.Bsn wr w' bk vi vw l ls ws zss zs vi' vw' v1) (hl : ∀ i, l.ownBlock = some i → w0.heap.size ≤ i ∧ ¬ Foot b vn vm i ∧ ¬ Foot b' vn' vm' i) : PS w0 w' g bk who b vn vm v ns b' vn' vm' v' ns' vi' vw' (ls ++ [l]) (ws ++ [v1]) (zss ++ [zs]) := by
  obtain ⟨cs, hcs, _⟩ := h.bs.bt
  have hT : ∀ {b2 : Nat} {vn2 vm2 : Value} {ns2 : List ByteArray}, Tab wr b2 vn2 vm2 ns2 → ∀ i, Foot b2 vn2 vm2 i → ¬ (i = bk ∨ vi.ownBlock = some i ∨ vw.ownBlock = some i) := fun ht i hi hf => by
    rcases hf with rfl | hf | hf
    · rcases foot_typed ht hi hcs with e | e <;> exact absurd e (by decide)
    · exact foot_row ht h.bs.p.ri (by decide) (by decide) hf hi
    · exact foot_row ht h.bs.rw (by decide) (by decide) hf hi
  have hR : ∀ {v2 : Value} {ns2 : List ByteArray}, BTexts.Own wr 0 v2 ns2 → BTexts.Own w' 0 v2 ns2 := fun ho => own_up ho hN.k fun i hi hf => by
    rcases hf with rfl | hf | hf
    · exact own_bk ho hcs (by decide) hi
    · exact own_ne ho h.bs.p.ri (by decide) i hi hf
    · exact own_ne ho h.bs.rw (by decide) i hi hf
  have hst : ∀ {b2 : Nat} {vn2 vm2 : Value} {ns2 : List ByteArray}, Tab wr b2 vn2 vm2 ns2 → (∀ i, Foot b2 vn2 vm2 i → ¬ St ls ws v v' i) → (∀ i, l.ownBlock = some i → ¬ Foot b2 vn2 vm2 i) → ∀ i, Foot b2 vn2 vm2 i → ¬ St (ls ++ [l]) (ws ++ [v1]) v v' i := fun ht hs hl2 i hi hS => by
    rcases hS with ⟨x, hx, hxi⟩ | ⟨x, hx, hxi⟩ | hS
    · rcases List.mem_append.1 hx with hx | hx
      · exact hs i hi (.inl ⟨x, hx, hxi⟩)
      · rw [List.mem_singleton.1 hx] at hxi; exact hl2 i hxi hi
    · rcases List.mem_append.1 hx with hx | hx
      · exact hs i hi (.inr (.inl ⟨x, hx, hxi⟩))
      · rw [List.mem_singleton.1 hx] at hxi
        have h1 := hN.n i hxi
        have h2 := ht.foot_lt hi
        omega
    · exact hs i hi (.inr (.inr hS))
  have hbl := h.bl.size
  refine ⟨(hN.k.block g (t_lt h.arr) fun hf => ?_).trans h.arr, h.t.at fun i hi => hN.k.block i (h.t.foot_lt hi) (hT h.t i hi), h.t'.at fun i hi => hN.k.block i (h.t'.foot_lt hi) (hT h.t' i hi), hR h.r, hR h.r', hN.b, ?_, h.d, hst h.t h.s fun i hi => (hl i hi).2.1, hst h.t' h.s' fun i hi => (hl i hi).2.2, h.nm, h.nm', fun i hi => ?_, h.bl.trans (hN.k.below hbl fun i hi => h.lo i ?_)⟩
  · rcases hf with rfl | hf | hf
    · have ha := h.arr
      rw [hcs] at ha
      injection ha with e
      injection e with _ e
      exact absurd e (by decide)
    · exact own_bk h.bs.p.ri h.arr (by decide) hf
    · exact own_bk h.bs.rw h.arr (by decide) hf
  · exact ⟨(hN.o _ (by omega) (by omega)).trans h.ot.dInts, (hN.o _ (by omega) (by omega)).trans h.ot.dTokens, (hN.o _ (by omega) (by omega)).trans h.ot.dBools, (hN.o _ (by omega) (by omega)).trans h.ot.dSteps, (hN.o _ (by omega) (by omega)).trans h.ot.dEdges, (hN.o _ (by omega) (by omega)).trans h.ot.dNodes, (hN.o _ (by omega) (by omega)).trans h.ot.dPairs, (hN.o _ (by omega) (by omega)).trans h.ot.dRows, (hN.o _ (by omega) (by omega)).trans h.ot.dLines, (hN.o _ (by omega) (by omega)).trans h.ot.dWalks⟩
  · rcases hi with hi | hi | hi | hi | hi | hi | ⟨x, hx, hxi⟩
    · exact h.lo i (.inl hi)
    · exact h.lo i (.inr (.inl hi))
    · exact h.lo i (.inr (.inr (.inl hi)))
    · exact h.lo i (.inr (.inr (.inr (.inl hi))))
    · rcases hN.f i (.inl hi) with (e | e) | e
      · exact h.lo i (.inr (.inr (.inr (.inr (.inl e)))))
      · exact h.lo i (.inr (.inr (.inr (.inr (.inr (.inl e))))))
      · omega
    · rcases hN.f i (.inr hi) with (e | e) | e
      · exact h.lo i (.inr (.inr (.inr (.inr (.inl e)))))
      · exact h.lo i (.inr (.inr (.inr (.inr (.inr (.inl e))))))
      · omega
    · rcases List.mem_append.1 hx with hx | hx
      · exact h.lo i (.inr (.inr (.inr (.inr (.inr (.inr ⟨x, hx, hxi⟩))))))
      · rw [List.mem_singleton.1 hx] at hxi; exact (hl i hxi).1
  · rcases hi with hi | hi | hi
    · exact .inr (.inr (.inr (.inl hi)))
    · exact .inr (.inr (.inr (.inr (.inl hi))))
    · exact .inr (.inr (.inr (.inr (.inr (.inl hi)))))
def PSE (w0 wr : World) (g bk : Nat) (who : Bool) (b : Nat) (vn vm v : Value) (ns : List ByteArray) (b' : Nat) (vn' vm' v' : Value) (ns' : List ByteArray) : Prop := ∃ vi vw ls ws zss, PS w0 wr g bk who b vn vm v ns b' vn' vm' v' ns' vi vw ls ws zss
theorem PSE.below {w0 wr w' : World} {g bk : Nat} {who : Bool} {b : Nat} {vn vm v : Value} {ns : List ByteArray} {b' : Nat} {vn' vm' v' : Value} {ns' : List ByteArray} (h : PSE w0 wr g bk who b vn vm v ns b' vn' vm' v' ns') (hb : Below wr.heap.size wr w') : PSE w0 w' g bk who b vn vm v ns b' vn' vm' v' ns' := by
  obtain ⟨vi, vw, ls, ws, zss, h⟩ := h
  exact ⟨vi, vw, ls, ws, zss, h.below hb⟩
/-- The cells of this one. -/
theorem cells_this {w : World} {g bk b b' : Nat} {who : Bool} {v v' : Value} (h : w.heap[g]? = some (.cells (cellsOf who b v bk b' v') 105 (0, 0))) : w.cell? ⟨g, oW who, none⟩ = some (pB b) ∧ w.cell? ⟨g, oW who + 1, none⟩ = some v ∧ w.cell? ⟨g, oW who + 2, none⟩ = some (pB bk) := by
  cases who
  · exact ⟨cell0_of h rfl, cell0_of h rfl, cell0_of h rfl⟩
  · exact ⟨cell0_of h rfl, cell0_of h rfl, cell0_of h rfl⟩
/-- One more list of texts. -/
theorem PSE.texts {w0 wr : World} {g bk : Nat} {who : Bool} {b : Nat} {vn vm v : Value} {ns : List ByteArray} {b' : Nat} {vn' vm' v' : Value} {ns' : List ByteArray} (h : PSE w0 wr g bk who b vn vm v ns b' vn' vm' v' ns') (l : Value) (zs : List ByteArray) (w1 : World) (hb : Below wr.heap.size wr w1) (hO : BTexts.Own w1 wr.heap.size l zs) (hsz : zs.length ≤ 1000000) :
    Calls Tryz.prog 121 #[pB bk, l] w1 fun r w' => r = .returned (.tuple #[]) ∧ PSE w0 w' g bk who b vn vm v ns b' vn' vm' v' ns' ∧ BTexts.Has w' l zs := by
  obtain ⟨vi, vw, ls, ws, zss, h⟩ := h
  have h1 := h.below hb
  have hO0 : BTexts.Own w1 0 l zs := row_base hO (Nat.zero_le _)
  have hfresh : ∀ i, l.ownBlock = some i → w0.heap.size ≤ i ∧ ¬ Foot b vn vm i ∧ ¬ Foot b' vn' vm' i := fun i hi => by
    have h2 := (hO.lt i hi).1
    refine ⟨by have := h.bl.size; omega, fun hf => ?_, fun hf => ?_⟩
    · have := h.t.foot_lt hf; omega
    · have := h.t'.foot_lt hf; omega
  by_cases hlen : zss.length < 400
  · refine (BTexts.ints_any bk vi vw l ls ws zss zs w1 h1.bs hO0 (fun x hx q hq e => ?_) hlen hsz).mono ?_
    · obtain ⟨k, hk, rfl⟩ := List.getElem_of_mem hx
      have h3 := ((h.bs.p.li k _ _ (List.getElem?_eq_getElem hk) (List.getElem?_eq_getElem (by have := h.bs.p.ll; omega))).lt q hq).2
      have h4 := (hO.lt q e).1
      omega
    rintro r w' ⟨rfl, vi', vw', v1, hN⟩
    refine ⟨rfl, ⟨_, _, _, _, _, h1.book hN hfresh⟩, ?_⟩
    have hll := h.bs.p.ll
    refine BTexts.Own.has (hN.b.p.li zss.length l zs ?_ ?_)
    · rw [List.getElem?_append_right (by omega), hll, Nat.sub_self]; rfl
    · rw [List.getElem?_append_right (by omega), Nat.sub_self]; rfl
  · refine (BTexts.ints_full bk vi vw l ls ws zss w1 h1.bs hlen).mono ?_
    rintro r w' ⟨rfl, rfl⟩
    exact ⟨rfl, ⟨_, _, _, _, _, h1⟩, BTexts.Own.has hO⟩
end Go.Proofs.YthcboklkejlifaaGreatDoor
