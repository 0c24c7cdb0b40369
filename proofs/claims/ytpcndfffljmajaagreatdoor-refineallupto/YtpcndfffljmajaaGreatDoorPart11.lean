/- Texts of this claim, joined: BookWI, BkI, RfSd, RfDoc7, RfIdx, RfLk, RfSt0. -/
import Derived.Test.YtpcndfffljmajaaGreatDoorPart10
import Derived.Deep.DeepCutAuto
import Derived.Test.YtpcndfffljmajaaGreatDoorPart6
import Derived.Test.YtpcndfffljmajaaGreatDoorPart9
import Derived.Test.YtpcndfffljmajaaGreatDoorPart5
import Derived.Test.YtpcndfffljmajaaGreatDoorPart7
import Derived.Test.YtpcndfffljmajaaGreatDoorPart4
import Derived.Deep.RegionHeld3
import Derived.Test.YtpcndfffljmajaaGreatDoorPart3
/- A book with lists of these kinds, made since a world: what stands while it takes lists: Ints. (Written by mkwb.py.) -/
namespace Go.Proofs.YtpcndfffljmajaaGreatDoor.WI
open Go.RowKit Go.Maps
attribute [local go_sem ↓] Go.wp_at_zero Go.wp_at_succ
def bookZ : Array Value := Array.replicate 22 (.slice none 0 0)
/-- The book. P: where its lists lie; X: blocks that no row of the kind within uses. -/
structure St (wB wr : World) (PInts : Nat → Prop) (vInts uInts : Value) (lInts mInts : List Value) (zInts : List (List Int)) : Prop where
  bInts : Bs wr wB.heap.size vInts uInts lInts mInts zInts
  ot : ApI.Oth wr wB.heap.size
  bw : Below wB.heap.size wB wr
  rInts : ∀ b, (vInts.ownBlock = some b ∨ uInts.ownBlock = some b) → wB.heap.size ≤ b
  hInts : ∀ l ∈ lInts, ∀ b, l.ownBlock = some b → wB.heap.size ≤ b ∧ PInts b
def E (wB wr : World) (PInts : Nat → Prop) : Prop := ∃ vInts uInts lInts mInts zInts, St wB wr PInts vInts uInts lInts mInts zInts
theorem E.mono {wB wr : World} {PInts : Nat → Prop} {PInts' : Nat → Prop} (h : E wB wr PInts) (qInts : ∀ b, b < wr.heap.size → PInts b → PInts' b) : E wB wr PInts' := by
  obtain ⟨vInts, uInts, lInts, mInts, zInts, h⟩ := h
  exact ⟨vInts, uInts, lInts, mInts, zInts, h.bInts, h.ot, h.bw, h.rInts, fun l hl b hb => ⟨(h.hInts l hl b hb).1, qInts b (BInts.Bp.lsf_lt h.bInts.p ⟨l, hl, hb⟩) (h.hInts l hl b hb).2⟩⟩
theorem E.below {wB wr w' : World} {PInts : Nat → Prop} (h : E wB wr PInts) (hb : Below wr.heap.size wr w') : E wB w' PInts := by
  obtain ⟨vInts, uInts, lInts, mInts, zInts, h⟩ := h
  exact ⟨vInts, uInts, lInts, mInts, zInts, h.bInts.below hb, h.ot.below hb, h.bw.trans (hb.mono h.bw.size), h.rInts, h.hInts⟩
theorem E.bw {wB wr : World} {PInts : Nat → Prop} (h : E wB wr PInts) : Below wB.heap.size wB wr := by
  obtain ⟨vInts, uInts, lInts, mInts, zInts, h⟩ := h
  exact h.bw
theorem new (wB : World) : E wB (wB.alloc (.cells bookZ 40)) (fun _ => False) := by
  have h := (MapKept.heap_alloc wB (.cells bookZ 40)).1
  have hc : ∀ k, k < 22 → (wB.alloc (.cells bookZ 40)).cell? ⟨wB.heap.size, k, none⟩ = some (.slice none 0 0) := fun k hk => by
    have h2 : bookZ[k]? = some (.slice none 0 0) := by unfold bookZ; rw [Array.getElem?_replicate, if_pos hk]
    exact cell0_of h h2
  exact ⟨.slice none 0 0, .slice none 0 0, [], [], [], ⟨⟨hc _ (by omega), World.ownsRow_nil _ _ _ _, fun k l zs h1 => by simp at h1, ⟨fun l hl => by simp at hl, fun l hl => by simp at hl, by simp [Value.ownBlock], fun i j l m hl => by simp at hl⟩, by simp, fun zs h => by simp at h⟩, hc _ (by omega), World.ownsRow_nil _ _ _ _, fun k l zs h1 => by simp at h1, ⟨_, h, by unfold bookZ; simp⟩, fun k hk => by simp [Value.ownBlock] at hk⟩, ⟨hc _ (by omega), hc _ (by omega), hc _ (by omega), hc _ (by omega), hc _ (by omega), hc _ (by omega), hc _ (by omega), hc _ (by omega), hc _ (by omega), hc _ (by omega)⟩, (Below.refl _ _).alloc (Nat.le_refl _) _, fun b hb => by simp [Value.ownBlock] at hb, fun l hl => by simp at hl⟩
/-- Blocks of other types stand. -/
def Fr (w w' : World) : Prop := w.heap.size ≤ w'.heap.size ∧ ∀ (g : Nat) (cs : Array Value) (t : TypeId), w.heap[g]? = some (.cells cs t (0, 0)) → 40 ≠ t → 22 ≠ t → w'.heap[g]? = some (.cells cs t (0, 0))
theorem Fr.refl (w : World) : Fr w w := ⟨Nat.le_refl _, fun _ _ _ h _ _ => h⟩
theorem Fr.trans {a b c : World} (h : Fr a b) (k : Fr b c) : Fr a c := ⟨Nat.le_trans h.1 k.1, fun g cs t hg c0 c1 => k.2 g cs t (h.2 g cs t hg c0 c1) c0 c1⟩
theorem Fr.of_below {a b : World} (h : Below a.heap.size a b) : Fr a b := ⟨h.size, fun g _ _ hg _ _ => (h.block g (t_lt hg)).trans hg⟩
theorem Fr.own {w w' : World} (h : Fr w w') {B : Nat} {e : TypeId} {sz : Nat} {v : Value} {n : Nat} {xs : List Value} (ho : w.ownsRow B e sz v n xs) (hc : ∀ b, v.ownBlock = some b → 40 ≠ e ∧ 22 ≠ e) : w'.ownsRow B e sz v n xs := trow_at ho fun i hi => by
  obtain ⟨c, hr⟩ := row_cells ho hi
  obtain ⟨c0, c1⟩ := hc i hi
  rw [hr]; exact h.2 i c _ hr c0 c1
theorem Fr.ownInts {w w' : World} (h : Fr w w') {B : Nat} {v : Value} {n : Nat} {xs : List Value} (ho : w.ownsRow B 3 1 v n xs) : w'.ownsRow B 3 1 v n xs := h.own ho fun _ _ => ⟨by decide, by decide⟩
theorem Fr.ownTokens {w w' : World} (h : Fr w w') {B : Nat} {v : Value} {n : Nat} {xs : List Value} (ho : w.ownsRow B 145 4 v n xs) : w'.ownsRow B 145 4 v n xs := h.own ho fun _ _ => ⟨by decide, by decide⟩
theorem Fr.ownTexts {w w' : World} (h : Fr w w') {B : Nat} {v : Value} {n : Nat} {xs : List Value} (ho : w.ownsRow B 9 1 v n xs) : w'.ownsRow B 9 1 v n xs := h.own ho fun _ _ => ⟨by decide, by decide⟩
theorem Fr.ownBools {w w' : World} (h : Fr w w') {B : Nat} {v : Value} {n : Nat} {xs : List Value} (ho : w.ownsRow B 4 1 v n xs) : w'.ownsRow B 4 1 v n xs := h.own ho fun _ _ => ⟨by decide, by decide⟩
theorem Fr.ownSteps {w w' : World} (h : Fr w w') {B : Nat} {v : Value} {n : Nat} {xs : List Value} (ho : w.ownsRow B 150 2 v n xs) : w'.ownsRow B 150 2 v n xs := h.own ho fun _ _ => ⟨by decide, by decide⟩
theorem Fr.ownEdges {w w' : World} (h : Fr w w') {B : Nat} {v : Value} {n : Nat} {xs : List Value} (ho : w.ownsRow B 153 3 v n xs) : w'.ownsRow B 153 3 v n xs := h.own ho fun _ _ => ⟨by decide, by decide⟩
theorem Fr.ownNodes {w w' : World} (h : Fr w w') {B : Nat} {v : Value} {n : Nat} {xs : List Value} (ho : w.ownsRow B 156 2 v n xs) : w'.ownsRow B 156 2 v n xs := h.own ho fun _ _ => ⟨by decide, by decide⟩
theorem Fr.ownPairs {w w' : World} (h : Fr w w') {B : Nat} {v : Value} {n : Nat} {xs : List Value} (ho : w.ownsRow B 159 2 v n xs) : w'.ownsRow B 159 2 v n xs := h.own ho fun _ _ => ⟨by decide, by decide⟩
theorem typed_bk {w : World} {bk g : Nat} {cs cs' : Array Value} {t u : TypeId} (h : w.heap[bk]? = some (.cells cs u (0, 0))) (hg : w.heap[g]? = some (.cells cs' t (0, 0))) (hne : u ≠ t) : g ≠ bk := fun e => by
  subst e
  rw [h] at hg
  injection hg with e
  injection e with _ e
  exact hne e
/-- One more list of Ints. -/
theorem E.addInts {wB wr : World} {PInts : Nat → Prop} (h : E wB wr PInts) (v : Value) (zs : List Int) (B : Nat) (hO : OwnI wr B v zs) (hB : wB.heap.size ≤ B) (hv : ∀ b, v.ownBlock = some b → ¬ PInts b) (hsz : zs.length ≤ 1000000) :
    Calls Tryz.prog 29 #[.pointer (some ⟨wB.heap.size, 0, none⟩), v] wr fun r w' => r = .returned (.tuple #[]) ∧ (E wB w' (fun b => PInts b ∨ v.ownBlock = some b)) ∧ Fr wr w' := by
  obtain ⟨vInts, uInts, lInts, mInts, zInts, h⟩ := h
  have hO0 : OwnI wr 0 v zs := row_base hO (Nat.zero_le _)
  by_cases hlen : zInts.length < 400
  · refine (ints_any wB.heap.size vInts uInts v lInts mInts zInts zs wr h.bInts hO0 (fun l hl q hq e => hv q e (h.hInts l hl q hq).2) hlen hsz).mono ?_
    rintro r w' ⟨rfl, vi', vw', v1, hN⟩
    have hup : ∀ b, (b = wB.heap.size ∨ vInts.ownBlock = some b ∨ uInts.ownBlock = some b) → wB.heap.size ≤ b := fun b hb => by
      rcases hb with rfl | hb
      · exact Nat.le_refl _
      · exact h.rInts b hb
    obtain ⟨cs0, hc0, _⟩ := h.bInts.bt
    have hFr : Fr wr w' := ⟨hN.k.size, fun g cs t hg c0 c1 => by
      refine (hN.k.block g (t_lt hg) fun hf => ?_).trans hg
      rcases hf with hf | hf | hf
      · exact typed_bk hc0 hg c0 hf
      · exact own_bk h.bInts.p.ri hg c1 hf
      · exact own_bk h.bInts.rw hg c1 hf⟩
    exact ⟨rfl, ⟨vi', vw', _, _, _, hN.b, ⟨(hN.o _ (by omega)).trans h.ot.dTokens, (hN.o _ (by omega)).trans h.ot.dTexts, (hN.o _ (by omega)).trans h.ot.dBools, (hN.o _ (by omega)).trans h.ot.dSteps, (hN.o _ (by omega)).trans h.ot.dEdges, (hN.o _ (by omega)).trans h.ot.dNodes, (hN.o _ (by omega)).trans h.ot.dPairs, (hN.o _ (by omega)).trans h.ot.dRows, (hN.o _ (by omega)).trans h.ot.dLines, (hN.o _ (by omega)).trans h.ot.dWalks⟩, h.bw.trans (hN.k.below h.bw.size hup), fun b hb => by
        rcases hN.f b hb with e | e
        · exact h.rInts b e
        · have := h.bw.size; omega, fun l hl b hb => by
        rcases List.mem_append.1 hl with hl | hl
        · exact ⟨(h.hInts l hl b hb).1, .inl (h.hInts l hl b hb).2⟩
        · rw [List.mem_singleton.1 hl] at hb
          have := hO.lt b hb
          exact ⟨by omega, .inr hb⟩⟩, hFr⟩
  · refine (ints_full wB.heap.size vInts uInts v lInts mInts zInts wr h.bInts hlen).mono ?_
    rintro r w' ⟨rfl, rfl⟩
    exact ⟨rfl, ⟨vInts, uInts, lInts, mInts, zInts, h.bInts, h.ot, h.bw, h.rInts, fun l hl b hb => ⟨(h.hInts l hl b hb).1, .inl (h.hInts l hl b hb).2⟩⟩, Fr.refl _⟩
/-- The book's Apart. -/
theorem E.apart {wB wr : World} {PInts : Nat → Prop} (h : E wB wr PInts) :
    Calls Tryz.prog 15 #[.pointer (some ⟨wB.heap.size, 0, none⟩)] wr fun r w' => r = .returned (.bool true) ∧ Below wB.heap.size wB w' := by
  obtain ⟨vInts, uInts, lInts, mInts, zInts, h⟩ := h
  refine (ApI.apart_any wB.heap.size vInts uInts lInts mInts zInts wr h.bInts h.ot).mono ?_
  rintro r w' ⟨rfl, hk⟩
  exact ⟨rfl, h.bw.trans (hk.below h.bw.size fun b hb => (fun ⟨l, hl, e⟩ => (h.hInts l hl b e).1) hb)⟩
end Go.Proofs.YtpcndfffljmajaaGreatDoor.WI
/- A book of lists of numbers beside other blocks that are written: its lists and copies lie in no block of F. -/
namespace Go.Proofs.YtpcndfffljmajaaGreatDoor
open Go.RowKit Go.Maps
def Bk (wB wr : World) (F : Nat → Prop) : Prop := ∃ v u l m z, WI.St wB wr (fun b => ¬ F b) v u l m z ∧ ∀ x ∈ m, ∀ b, x.ownBlock = some b → ¬ F b
theorem Bk.below {wB wr w' : World} {F : Nat → Prop} (h : Bk wB wr F) (hb : Below wr.heap.size wr w') : Bk wB w' F := by
  obtain ⟨v, u, l, m, z, h, hm⟩ := h
  exact ⟨v, u, l, m, z, ⟨h.bInts.below hb, h.ot.below hb, h.bw.trans (hb.mono h.bw.size), h.rInts, h.hInts⟩, hm⟩
theorem Bk.bw {wB wr : World} {F : Nat → Prop} (h : Bk wB wr F) : Below wB.heap.size wB wr := by
  obtain ⟨v, u, l, m, z, h, hm⟩ := h
  exact h.bw
theorem Bk.mono {wB wr : World} {F G : Nat → Prop} (h : Bk wB wr F) (hG : ∀ b, b < wr.heap.size → G b → F b) : Bk wB wr G := by
  obtain ⟨v, u, l, m, z, h, hm⟩ := h
  refine ⟨v, u, l, m, z, ⟨h.bInts, h.ot, h.bw, h.rInts, fun x hx b hb => ⟨(h.hInts x hx b hb).1, fun hg => (h.hInts x hx b hb).2 (hG b (BInts.Bp.lsf_lt h.bInts.p ⟨x, hx, hb⟩) hg)⟩⟩, fun x hx b hb hg => hm x hx b hb (hG b ?_ hg)⟩
  obtain ⟨k, hk, rfl⟩ := List.getElem_of_mem hx
  have hwl : m.length = z.length := by have := h.bInts.rw.1; rw [Nat.mul_one] at this; exact this
  exact ((h.bInts.lw k _ _ (List.getElem?_eq_getElem hk) (List.getElem?_eq_getElem (by omega))).lt b hb).2
theorem bs_keepI {w w' : World} {F : Nat → Prop} {bk : Nat} {vi vw : Value} {ls ws : List Value} {zss : List (List Int)} (h : Bs w bk vi vw ls ws zss) (hk : Kept F w w') (hb : ¬ F bk) (hr : ∀ i, vi.ownBlock = some i → ¬ F i) (hw : ∀ i, vw.ownBlock = some i → ¬ F i) (hl : ∀ i, LsF ls i → ¬ F i) (hs : ∀ i, LsF ws i → ¬ F i) : Bs w' bk vi vw ls ws zss := by
  obtain ⟨cs, hcs, hsz⟩ := h.bt
  have hbk := hk.block bk (t_lt hcs) hb
  exact ⟨BInts.Bp.keep h.p hk hb hr hl, (World.cell?_of_block (a := ⟨bk, 1, none⟩) hbk).trans h.c1, own_up h.rw hk hw, fun k l zs h1 h2 => own_up (h.lw k l zs h1 h2) hk fun i hi => hs i ⟨l, List.mem_of_getElem? h1, hi⟩, ⟨cs, hbk.trans hcs, hsz⟩, h.ne⟩
/-- Blocks of F turn. -/
theorem Bk.kept {wB wr w' : World} {F G : Nat → Prop} (h : Bk wB wr F) (hk : Kept G wr w') (hG : ∀ i, G i → wB.heap.size ≤ i ∧ F i) (hT : ∀ i, G i → ∃ cs t, wr.heap[i]? = some (.cells cs t (0, 0)) ∧ 40 ≠ t ∧ 22 ≠ t) : Bk wB w' F := by
  obtain ⟨v, u, l, m, z, h, hm⟩ := h
  obtain ⟨cs0, hc0, hsz⟩ := h.bInts.bt
  have hbk : ¬ G wB.heap.size := fun hg => by
    obtain ⟨cs, t, hc, h1, h2⟩ := hT _ hg
    exact WI.typed_bk hc0 hc h1 rfl
  refine ⟨v, u, l, m, z, ⟨bs_keepI h.bInts hk hbk (fun i hi hg => ?_) (fun i hi hg => ?_) (fun i ⟨x, hx, hi⟩ hg => (h.hInts x hx i hi).2 (hG i hg).2) (fun i ⟨x, hx, hi⟩ hg => hm x hx i hi (hG i hg).2), h.ot.kept hk hbk, h.bw.trans (hk.below h.bw.size fun i hi => (hG i hi).1), h.rInts, h.hInts⟩, hm⟩
  · obtain ⟨cs, t, hc, h1, h2⟩ := hT _ hg
    exact own_bk h.bInts.p.ri hc h2 hi
  · obtain ⟨cs, t, hc, h1, h2⟩ := hT _ hg
    exact own_bk h.bInts.rw hc h2 hi
theorem Bk.new (wB : World) (F : Nat → Prop) : Bk wB (wB.alloc (.cells WI.bookZ 40)) F := by
  have h := (MapKept.heap_alloc wB (.cells WI.bookZ 40)).1
  have hc : ∀ k, k < 22 → (wB.alloc (.cells WI.bookZ 40)).cell? ⟨wB.heap.size, k, none⟩ = some (.slice none 0 0) := fun k hk => by
    have h2 : WI.bookZ[k]? = some (.slice none 0 0) := by unfold WI.bookZ; rw [Array.getElem?_replicate, if_pos hk]
    exact cell0_of h h2
  exact ⟨.slice none 0 0, .slice none 0 0, [], [], [], ⟨⟨⟨hc _ (by omega), World.ownsRow_nil _ _ _ _, fun k l zs h1 => by simp at h1, ⟨fun l hl => by simp at hl, fun l hl => by simp at hl, by simp [Value.ownBlock], fun i j l m hl => by simp at hl⟩, by simp, fun zs h => by simp at h⟩, hc _ (by omega), World.ownsRow_nil _ _ _ _, fun k l zs h1 => by simp at h1, ⟨_, h, by unfold WI.bookZ; simp⟩, fun k hk => by simp [Value.ownBlock] at hk⟩, ⟨hc _ (by omega), hc _ (by omega), hc _ (by omega), hc _ (by omega), hc _ (by omega), hc _ (by omega), hc _ (by omega), hc _ (by omega), hc _ (by omega), hc _ (by omega)⟩, (Below.refl _ _).alloc (Nat.le_refl _) _, fun b hb => by simp [Value.ownBlock] at hb, fun l hl => by simp at hl⟩, fun x hx => by simp at hx⟩
/-- Lists that were made since lie apart from the book's. -/
theorem Bk.fresh {wB W w1 : World} {F : Nat → Prop} (h : Bk wB W F) (hb : Below W.heap.size W w1) (Q : Nat → Prop) (hQ : ∀ b, Q b → W.heap.size ≤ b) : Bk wB w1 (fun b => F b ∨ Q b) :=
  (h.mono (G := fun b => F b ∨ Q b) fun b hlt hg => hg.elim id fun hq => by have := hQ b hq; omega).below hb
/-- One more list. -/
theorem Bk.add {wB w1 : World} {F : Nat → Prop} {l : Value} (h : Bk wB w1 (fun b => F b ∨ l.ownBlock = some b)) (hF : ∀ b, F b → b < w1.heap.size) {B : Nat} {zs : List Int} (hO : OwnI w1 B l zs) (hB : wB.heap.size ≤ B) (hl : ∀ b, l.ownBlock = some b → ¬ F b) (hsz : zs.length ≤ 1000000) :
    Calls Tryz.prog 29 #[.pointer (some ⟨wB.heap.size, 0, none⟩), l] w1 fun r w' => r = .returned (.tuple #[]) ∧ Bk wB w' F ∧ WI.Fr w1 w' ∧ HasI w' l zs := by
  obtain ⟨vInts, uInts, lInts, mInts, zInts, h, hm⟩ := h
  have hO0 : OwnI w1 0 l zs := row_base hO (Nat.zero_le _)
  by_cases hlen : zInts.length < 400
  · refine (ints_any wB.heap.size vInts uInts l lInts mInts zInts zs w1 h.bInts hO0 (fun x hx q hq e => (h.hInts x hx q hq).2 (.inr e)) hlen hsz).mono ?_
    rintro r w' ⟨rfl, vi', vw', v1, hN⟩
    have hup : ∀ b, (b = wB.heap.size ∨ vInts.ownBlock = some b ∨ uInts.ownBlock = some b) → wB.heap.size ≤ b := fun b hb => by
      rcases hb with rfl | hb
      · exact Nat.le_refl _
      · exact h.rInts b hb
    obtain ⟨cs0, hc0, _⟩ := h.bInts.bt
    have hFr : WI.Fr w1 w' := ⟨hN.k.size, fun g cs t hg c0 c1 => by
      refine (hN.k.block g (t_lt hg) fun hf => ?_).trans hg
      rcases hf with hf | hf | hf
      · exact WI.typed_bk hc0 hg c0 hf
      · exact own_bk h.bInts.p.ri hg c1 hf
      · exact own_bk h.bInts.rw hg c1 hf⟩
    refine ⟨rfl, ⟨vi', vw', _, _, _, ⟨hN.b, ?_, h.bw.trans (hN.k.below h.bw.size hup), fun b hb => ?_, fun x hx b hb => ?_⟩, fun x hx b hb => ?_⟩, hFr, OwnI.has (hFr.ownInts hO)⟩
    · exact ⟨(hN.o _ (by omega)).trans h.ot.dTokens, (hN.o _ (by omega)).trans h.ot.dTexts, (hN.o _ (by omega)).trans h.ot.dBools, (hN.o _ (by omega)).trans h.ot.dSteps, (hN.o _ (by omega)).trans h.ot.dEdges, (hN.o _ (by omega)).trans h.ot.dNodes, (hN.o _ (by omega)).trans h.ot.dPairs, (hN.o _ (by omega)).trans h.ot.dRows, (hN.o _ (by omega)).trans h.ot.dLines, (hN.o _ (by omega)).trans h.ot.dWalks⟩
    · rcases hN.f b hb with e | e
      · exact h.rInts b e
      · have := h.bw.size; omega
    · rcases List.mem_append.1 hx with hx | hx
      · exact ⟨(h.hInts x hx b hb).1, fun hf => (h.hInts x hx b hb).2 (.inl hf)⟩
      · rw [List.mem_singleton.1 hx] at hb
        have h3 := (hO.lt b hb).1
        exact ⟨by omega, hl b hb⟩
    · rcases List.mem_append.1 hx with hx | hx
      · exact fun hf => hm x hx b hb (.inl hf)
      · rw [List.mem_singleton.1 hx] at hb
        have := hN.n b hb
        exact fun hf => by have := hF b hf; omega
  · refine (ints_full wB.heap.size vInts uInts l lInts mInts zInts w1 h.bInts hlen).mono ?_
    rintro r w' ⟨rfl, rfl⟩
    exact ⟨rfl, ⟨vInts, uInts, lInts, mInts, zInts, ⟨h.bInts, h.ot, h.bw, h.rInts, fun x hx b hb => ⟨(h.hInts x hx b hb).1, fun hf => (h.hInts x hx b hb).2 (.inl hf)⟩⟩, fun x hx b hb hf => hm x hx b hb (.inl hf)⟩, WI.Fr.refl _, OwnI.has hO⟩
theorem Bk.apart {wB wr : World} {F : Nat → Prop} (h : Bk wB wr F) :
    Calls Tryz.prog 15 #[.pointer (some ⟨wB.heap.size, 0, none⟩)] wr fun r w' => r = .returned (.bool true) ∧ Below wB.heap.size wB w' := by
  obtain ⟨v, u, l, m, z, h, hm⟩ := h
  exact WI.E.apart (PInts := fun b => ¬ F b) ⟨v, u, l, m, z, h⟩
end Go.Proofs.YtpcndfffljmajaaGreatDoor
/- Chapter 8's law: a partition and the document's beside it, in memory; two such pairs and the book. -/
namespace Go.Proofs.YtpcndfffljmajaaGreatDoor
open Go.RowKit Go.Maps
theorem frz_of_block {w w' : World} {b o : Nat} (h : w'.heap[b]? = w.heap[b]?) (hf : w.frozen? ⟨b, o, none⟩ = false) : w'.frozen? ⟨b, o, none⟩ = false := by
  unfold World.frozen? at hf ⊢
  simp only at hf ⊢
  rw [h]
  exact hf
theorem cell_of_block {w w' : World} {b o : Nat} {x : Value} (h : w'.heap[b]? = w.heap[b]?) (hc : w.cell? ⟨b, o, none⟩ = some x) : w'.cell? ⟨b, o, none⟩ = some x := (World.cell?_of_block (a := ⟨b, o, none⟩) h).trans hc
theorem Dd.same {wr w' : World} {x0 x4 : Value} {rb ro bB bM : Nat} {vB vM : Value} {N nb : Nat} {O : Nat → Nat} {bs : Nat → Bool} (h : Dd wr x0 x4 rb ro bB bM vB vM N nb O bs) (hr : w'.heap[rb]? = wr.heap[rb]?) (hB : 0 < N → w'.heap[bB]? = wr.heap[bB]?) (hM : 0 < N → w'.heap[bM]? = wr.heap[bM]?) : Dd w' x0 x4 rb ro bB bM vB vM N nb O bs :=
  ⟨cell_of_block hr h.cB, cell_of_block hr h.cM, cell_of_block hr h.cN, frz_of_block hr h.fN, h.sB, h.sM, fun e he => ⟨cell_of_block (hB (by omega)) (h.rB e he).1, frz_of_block (hB (by omega)) (h.rB e he).2⟩, fun e he => ⟨cell_of_block (hM (by omega)) (h.rM e he).1, frz_of_block (hM (by omega)) (h.rM e he).2⟩, h.n1, h.n2, h.n3, ⟨hr.trans h.tR.1, h.tR.2⟩, fun hN => by obtain ⟨cs, hc⟩ := h.tB hN; exact ⟨cs, (hB hN).trans hc⟩, fun hN => by obtain ⟨cs, hc⟩ := h.tM hN; exact ⟨cs, (hM hN).trans hc⟩⟩
/-- The blocks of a pair. -/
def Ft (g pb bB bM n i : Nat) : Prop := i = g ∨ i = pb ∨ (0 < n ∧ (i = bB ∨ i = bM))
/-- A partition, and the document's, which say the same. -/
structure Sd (wB wr : World) (g pb bB bM : Nat) (vB vM : Value) (s : Pst) : Prop where
  pt : ∃ c, Pt wB wr pb c ∧ Lay c s
  ok : s.Ok
  dd : Dd wr (.pointer (some ⟨pb, 0, none⟩)) (.pointer (some ⟨wB.heap.size, 0, none⟩)) g 1 bB bM vB vM s.n s.nb s.O s.isM
  gu : wB.heap.size ≤ g
  lo : 0 < s.n → wB.heap.size ≤ bB ∧ wB.heap.size ≤ bM
theorem Sd.typed {wB wr : World} {g pb bB bM : Nat} {vB vM : Value} {s : Pst} (h : Sd wB wr g pb bB bM vB vM s) {i : Nat} (hi : Ft g pb bB bM s.n i) : wB.heap.size ≤ i ∧ i < wr.heap.size ∧ ∃ cs t, wr.heap[i]? = some (.cells cs t (0, 0)) ∧ 40 ≠ t ∧ 22 ≠ t := by
  obtain ⟨c, hP, hL⟩ := h.pt
  rcases hi with rfl | rfl | ⟨h0, rfl | rfl⟩
  · exact ⟨h.gu, t_lt h.dd.tR.1, _, _, h.dd.tR.1, by decide, by decide⟩
  · obtain ⟨cs, hc, _⟩ := hP.ids
    exact ⟨hP.gu, t_lt hc, _, _, hc, by decide, by decide⟩
  · obtain ⟨cs, hc⟩ := h.dd.tB h0
    exact ⟨(h.lo h0).1, t_lt hc, _, _, hc, by decide, by decide⟩
  · obtain ⟨cs, hc⟩ := h.dd.tM h0
    exact ⟨(h.lo h0).2, t_lt hc, _, _, hc, by decide, by decide⟩
theorem Sd.same {wB wr w' : World} {g pb bB bM : Nat} {vB vM : Value} {s : Pst} (h : Sd wB wr g pb bB bM vB vM s) (hb : Below wB.heap.size wB w') (hs : ∀ i, Ft g pb bB bM s.n i → w'.heap[i]? = wr.heap[i]?) : Sd wB w' g pb bB bM vB vM s := by
  obtain ⟨c, hP, hL⟩ := h.pt
  obtain ⟨cs, hc, hx⟩ := hP.ids
  exact ⟨⟨c, ⟨hb, ⟨cs, (hs pb (.inr (.inl rfl))).trans hc, hx⟩, hP.gu⟩, hL⟩, h.ok, h.dd.same (hs g (.inl rfl)) (fun h0 => hs bB (.inr (.inr ⟨h0, .inl rfl⟩))) (fun h0 => hs bM (.inr (.inr ⟨h0, .inr rfl⟩))), h.gu, h.lo⟩
theorem Sd.fr {wB wr w' : World} {g pb bB bM : Nat} {vB vM : Value} {s : Pst} (h : Sd wB wr g pb bB bM vB vM s) (hb : Below wB.heap.size wB w') (hf : WI.Fr wr w') : Sd wB w' g pb bB bM vB vM s := h.same hb fun i hi => by
  obtain ⟨_, _, cs, t, hc, h1, h2⟩ := h.typed hi
  rw [hc]; exact hf.2 i cs t hc h1 h2
theorem Sd.below {wB wr w' : World} {g pb bB bM : Nat} {vB vM : Value} {s : Pst} (h : Sd wB wr g pb bB bM vB vM s) (hb : Below wr.heap.size wr w') : Sd wB w' g pb bB bM vB vM s := by
  obtain ⟨c, hP, hL⟩ := h.pt
  exact h.same (hP.bl.trans (hb.mono hP.bl.size)) fun i hi => hb.block i (h.typed hi).2.1
theorem Sd.bl {wB wr : World} {g pb bB bM : Nat} {vB vM : Value} {s : Pst} (h : Sd wB wr g pb bB bM vB vM s) : Below wB.heap.size wB wr := by
  obtain ⟨c, hP, hL⟩ := h.pt
  exact hP.bl
theorem Sd.kept {wB wr w' : World} {G : Nat → Prop} {g pb bB bM : Nat} {vB vM : Value} {s : Pst} (h : Sd wB wr g pb bB bM vB vM s) (hk : Kept G wr w') (hG : ∀ i, G i → wB.heap.size ≤ i ∧ ¬ Ft g pb bB bM s.n i) : Sd wB w' g pb bB bM vB vM s :=
  h.same (h.bl.trans (hk.below h.bl.size fun i hi => (hG i hi).1)) fun i hi => hk.block i (h.typed hi).2.1 fun hg => (hG i hg).2 hi
/-- Two pairs and the book, whose lists lie in no block of theirs, nor of Q. -/
structure PS (Q : Nat → Prop) (wB wr : World) (g pb bB bM : Nat) (vB vM : Value) (s : Pst) (g' pb' bB' bM' : Nat) (vB' vM' : Value) (s' : Pst) : Prop where
  a : Sd wB wr g pb bB bM vB vM s
  b : Sd wB wr g' pb' bB' bM' vB' vM' s'
  bk : Bk wB wr (fun i => (Ft g pb bB bM s.n i ∨ Ft g' pb' bB' bM' s'.n i) ∨ Q i)
  d : ∀ i, Ft g pb bB bM s.n i → ¬ Ft g' pb' bB' bM' s'.n i
theorem PS.swap {wB wr : World} {Q : Nat → Prop} {g pb bB bM : Nat} {vB vM : Value} {s : Pst} {g' pb' bB' bM' : Nat} {vB' vM' : Value} {s' : Pst} (h : PS Q wB wr g pb bB bM vB vM s g' pb' bB' bM' vB' vM' s') : PS Q wB wr g' pb' bB' bM' vB' vM' s' g pb bB bM vB vM s :=
  ⟨h.b, h.a, h.bk.mono fun _ _ hi => hi.imp Or.symm id, fun i hi hj => h.d i hj hi⟩
theorem PS.below {wB wr w' : World} {Q : Nat → Prop} {g pb bB bM : Nat} {vB vM : Value} {s : Pst} {g' pb' bB' bM' : Nat} {vB' vM' : Value} {s' : Pst} (h : PS Q wB wr g pb bB bM vB vM s g' pb' bB' bM' vB' vM' s') (hb : Below wr.heap.size wr w') : PS Q wB w' g pb bB bM vB vM s g' pb' bB' bM' vB' vM' s' :=
  ⟨h.a.below hb, h.b.below hb, h.bk.below hb, h.d⟩
theorem PS.monoQ {wB wr : World} {Q Q' : Nat → Prop} {g pb bB bM : Nat} {vB vM : Value} {s : Pst} {g' pb' bB' bM' : Nat} {vB' vM' : Value} {s' : Pst} (h : PS Q wB wr g pb bB bM vB vM s g' pb' bB' bM' vB' vM' s') (hQ : ∀ b, Q' b → Q b) : PS Q' wB wr g pb bB bM vB vM s g' pb' bB' bM' vB' vM' s' := ⟨h.a, h.b, h.bk.mono fun b _ hi => hi.imp id (hQ b), h.d⟩
/-- The first pair turns. -/
theorem PS.turn {wB wr w' : World} {Q : Nat → Prop} {g pb bB bM : Nat} {vB vM : Value} {s s2 : Pst} {g' pb' bB' bM' : Nat} {vB' vM' : Value} {s' : Pst} (h : PS Q wB wr g pb bB bM vB vM s g' pb' bB' bM' vB' vM' s') (hk : Kept (Ft g pb bB bM s.n) wr w') (hn : s2.n = s.n) (ha : Sd wB w' g pb bB bM vB vM s2) : PS Q wB w' g pb bB bM vB vM s2 g' pb' bB' bM' vB' vM' s' := by
  refine ⟨ha, h.b.kept hk fun i hi => ⟨(h.a.typed hi).1, h.d i hi⟩, ?_, by rw [hn]; exact h.d⟩
  rw [hn]
  exact h.bk.kept hk (fun i hi => ⟨(h.a.typed hi).1, .inl (.inl hi)⟩) fun i hi => (h.a.typed hi).2.2
/-- Lists that were made since. -/
theorem PS.fresh {wB wr w1 : World} {g pb bB bM : Nat} {vB vM : Value} {s : Pst} {g' pb' bB' bM' : Nat} {vB' vM' : Value} {s' : Pst} (h : PS (fun _ => False) wB wr g pb bB bM vB vM s g' pb' bB' bM' vB' vM' s') (hb : Below wr.heap.size wr w1) (Q : Nat → Prop) (hQ : ∀ b, Q b → wr.heap.size ≤ b) : PS Q wB w1 g pb bB bM vB vM s g' pb' bB' bM' vB' vM' s' :=
  ⟨h.a.below hb, h.b.below hb, (h.bk.fresh hb Q hQ).mono fun _ _ hg => hg.imp .inl id, h.d⟩
/-- The book takes a list. -/
theorem PS.add {wB w1 : World} {Q : Nat → Prop} {g pb bB bM : Nat} {vB vM : Value} {s : Pst} {g' pb' bB' bM' : Nat} {vB' vM' : Value} {s' : Pst} {l : Value} (h : PS (fun b => Q b ∨ l.ownBlock = some b) wB w1 g pb bB bM vB vM s g' pb' bB' bM' vB' vM' s') (hQ : ∀ b, Q b → b < w1.heap.size) {W : World} {zs : List Int} (hW : Below wB.heap.size wB W) (hF : ∀ b, Ft g pb bB bM s.n b ∨ Ft g' pb' bB' bM' s'.n b → b < W.heap.size) (hO : OwnI w1 W.heap.size l zs) (hl : ∀ b, l.ownBlock = some b → ¬ Q b) (hsz : zs.length ≤ 1000000) :
    Calls Tryz.prog 29 #[.pointer (some ⟨wB.heap.size, 0, none⟩), l] w1 fun r w' => r = .returned (.tuple #[]) ∧ PS Q wB w' g pb bB bM vB vM s g' pb' bB' bM' vB' vM' s' ∧ WI.Fr w1 w' ∧ HasI w' l zs := by
  have hA : ∀ b, Ft g pb bB bM s.n b ∨ Ft g' pb' bB' bM' s'.n b → b < w1.heap.size := fun b hF => hF.elim (fun hF => (h.a.typed hF).2.1) fun hF => (h.b.typed hF).2.1
  refine ((h.bk.mono fun _ _ hg => by
    rcases hg with (hg | hg) | hg
    · exact .inl hg
    · exact .inr (.inl hg)
    · exact .inr (.inr hg)).add (F := fun i => (Ft g pb bB bM s.n i ∨ Ft g' pb' bB' bM' s'.n i) ∨ Q i) (fun b hF => hF.elim (hA b) (hQ b)) hO hW.size (fun b hb hg => hg.elim (fun hg => by have := hF b hg; have := (hO.lt b hb).1; omega) (hl b hb)) hsz).mono ?_
  rintro r w' ⟨rfl, hB, hF, hH⟩
  exact ⟨rfl, ⟨h.a.fr hB.bw hF, h.b.fr hB.bw hF, hB, h.d⟩, hF, hH⟩
theorem PS.lt {wB wr : World} {Q : Nat → Prop} {g pb bB bM : Nat} {vB vM : Value} {s : Pst} {g' pb' bB' bM' : Nat} {vB' vM' : Value} {s' : Pst} (h : PS Q wB wr g pb bB bM vB vM s g' pb' bB' bM' vB' vM' s') : ∀ b, Ft g pb bB bM s.n b ∨ Ft g' pb' bB' bM' s'.n b → b < wr.heap.size := fun _ hF => hF.elim (fun hF => (h.a.typed hF).2.1) fun hF => (h.b.typed hF).2.1
/-- The book takes one list of the call's own. -/
theorem PS.one {wB W w1 : World} {g pb bB bM : Nat} {vB vM : Value} {s : Pst} {g' pb' bB' bM' : Nat} {vB' vM' : Value} {s' : Pst} (h : PS (fun _ => False) wB W g pb bB bM vB vM s g' pb' bB' bM' vB' vM' s') {l : Value} {zs : List Int} (hb : Below W.heap.size W w1) (hO : OwnI w1 W.heap.size l zs) (hsz : zs.length ≤ 1000000) :
    Calls Tryz.prog 29 #[.pointer (some ⟨wB.heap.size, 0, none⟩), l] w1 fun r w' => r = .returned (.tuple #[]) ∧ PS (fun _ => False) wB w' g pb bB bM vB vM s g' pb' bB' bM' vB' vM' s' ∧ WI.Fr w1 w' ∧ HasI w' l zs :=
  PS.add (Q := fun _ => False) (h.fresh hb _ fun b hb => hb.elim (fun hf => hf.elim) fun hl => (hO.lt b hl).1) (fun _ hf => hf.elim) h.a.bl h.lt hO (fun _ _ hf => hf) hsz
/-- The pairs, whatever they hold. -/
def PE (wB wr : World) (g g' : Nat) : Prop := ∃ pb bB bM vB vM s pb' bB' bM' vB' vM' s', PS (fun _ => False) wB wr g pb bB bM vB vM s g' pb' bB' bM' vB' vM' s'
theorem PE.swap {wB wr : World} {g g' : Nat} (h : PE wB wr g g') : PE wB wr g' g := by
  obtain ⟨pb, bB, bM, vB, vM, s, pb', bB', bM', vB', vM', s', h⟩ := h
  exact ⟨pb', bB', bM', vB', vM', s', pb, bB, bM, vB, vM, s, h.swap⟩
theorem PE.below {wB wr w' : World} {g g' : Nat} (h : PE wB wr g g') (hb : Below wr.heap.size wr w') : PE wB w' g g' := by
  obtain ⟨pb, bB, bM, vB, vM, s, pb', bB', bM', vB', vM', s', h⟩ := h
  exact ⟨pb, bB, bM, vB, vM, s, pb', bB', bM', vB', vM', s', h.below hb⟩
theorem PE.bl {wB wr : World} {g g' : Nat} (h : PE wB wr g g') : Below wB.heap.size wB wr := by
  obtain ⟨pb, bB, bM, vB, vM, s, pb', bB', bM', vB', vM', s', h⟩ := h
  exact h.a.bl
theorem PS.pe {wB wr : World} {g pb bB bM : Nat} {vB vM : Value} {s : Pst} {g' pb' bB' bM' : Nat} {vB' vM' : Value} {s' : Pst} (h : PS (fun _ => False) wB wr g pb bB bM vB vM s g' pb' bB' bM' vB' vM' s') : PE wB wr g g' := ⟨_, _, _, _, _, _, _, _, _, _, _, _, h⟩
end Go.Proofs.YtpcndfffljmajaaGreatDoor
/- The document's partition of chapter 8: Of. -/
namespace Go.Proofs.YtpcndfffljmajaaGreatDoor
open Go.RowKit Go.Maps
attribute [local go_sem ↓] Go.wp_at_zero Go.wp_at_succ
set_option maxRecDepth 100000 in
set_option maxHeartbeats 4000000 in
theorem rOf_bad (v : Value) (zs : List Int) (w : World) (hv : HasI w v zs) (h : 1000 < zs.length) : Calls Tryz.prog 10 #[v] w fun r w' => r = .returned (.tuple #[.agg #[.slice none 0 0, .slice none 0 0, .int .i64 0], .bool false]) ∧ Below w.heap.size w w' := by
  obtain ⟨ao, cap, rfl, _⟩ := hv
  generalize zs.length = n at h
  have d2 : (1000 : Int) < (n : Int) := by omega
  go_enter Tryz.func10, Tryz.ntmps10
  go_wp2_with fail
  refine bodyPost_ret (v := .tuple #[.agg #[.slice none 0 0, .slice none 0 0, .int .i64 0], .bool false]) (by simp [results, Tryz.results10, go_sem]) rfl ⟨rfl, ?_⟩
  first | exact (Below.refl _ _).alloc (Nat.le_refl _) _ | exact ((Below.refl _ _).alloc (Nat.le_refl _) _).setCell (Nat.le_refl _) _
theorem res_up {W w8 : World} {b : Nat} {o : Obj} (hb : Below W.heap.size W w8) (h : W.heap[b]? = some o) : w8.heap[b]? = some o := (hb.block b (t_lt h)).trans h
theorem res_new (w : World) (o p : Obj) : (w.alloc o).heap[w.heap.size]? = some o ∧ ((w.alloc o).alloc p).heap[w.heap.size]? = some o := by
  have h1 := (MapKept.heap_alloc w o).1
  refine ⟨h1, ((MapKept.heap_alloc (w.alloc o) p).2 _ (t_lt h1)).trans h1⟩
theorem res_alloc {w : World} {b : Nat} {o p : Obj} (h : w.heap[b]? = some o) : (w.alloc p).heap[b]? = some o := ((MapKept.heap_alloc w p).2 _ (t_lt h)).trans h
theorem bel_step {w W w8 : World} (hb : Below W.heap.size W w8) (h : Below w.heap.size w W) : Below w.heap.size w w8 := h.trans (hb.mono h.size)
/-- Out of the row that Canon made and the row that was made. -/
theorem rw_of2 {wr : World} {B bM N : Nat} {u : Value} {zs : List Int} (hN : N = zs.length) (hu : OwnI wr B u (natI (Sy.canon zs))) (hM : wr.heap[bM]? = some (.cells (madeV (.bool false) N) 4 (0, 0))) (l2 : B ≤ bM) : ∃ bB, Rw wr B bB bM u (.slice (some ⟨bM, 0, none⟩) N N) N (cO zs) (fun _ => false) := by
  have hl : (natI (Sy.canon zs)).length = zs.length := by unfold natI; rw [List.length_map, canon_len8]
  rcases hu.2 with ⟨e, hz⟩ | ⟨g, cap, cur, e, hg, hb, hc, hm, hs, ht⟩
  · rw [hl] at hz
    refine ⟨bM + 1, ⟨none, 0, ?_, fun h => by omega⟩, ⟨_, _, rfl, fun _ => rfl⟩, fun e he => by omega, fun e he => by omega, by omega, by omega, l2, fun h => by omega, fun h => by omega⟩
    rw [e, hN, hz]
  · have hne : g ≠ bM := fun q => by
      subst q
      rw [hb] at hM
      injection hM with q
      injection q with _ q
      exact absurd q (by decide)
    rw [hl] at e
    refine ⟨g, ⟨_, cap, by rw [e, hN], fun _ => rfl⟩, ⟨_, _, rfl, fun _ => rfl⟩, fun k hk => ⟨?_, blk_free hb k⟩, fun k hk => ⟨cell0_of hM (made_at _ rfl hk), blk_free hM k⟩, hne, hg, l2, fun _ => ⟨_, hb⟩, fun _ => ⟨_, hM⟩⟩
    have hO : OwnI wr B (.slice (some ⟨g, 0, none⟩) zs.length cap) (natI (Sy.canon zs)) := by rw [← e]; exact hu
    refine OwnI.cell hO ?_
    unfold natI
    rw [List.getElem?_map, cO_at zs (by omega)]
    rfl
theorem fin_of {w w8 wE : World} {B8 bM n : Nat} {u : Value} {zs : List Int} (hN : n = zs.length) (hO8 : OwnI w8 B8 u (natI (Sy.canon zs))) (hB8 : w.heap.size < B8) (hk : Kept (fun i => i = w.heap.size) w8 wE) (hM : wE.heap[bM]? = some (.cells (madeV (.bool false) n) 4 (0, 0))) (l2 : w.heap.size < bM) : ∃ bB, Rw wE w.heap.size bB bM u (.slice (some ⟨bM, 0, none⟩) n n) n (cO zs) (fun _ => false) :=
  rw_of2 hN (row_base (own_up hO8 hk fun b hb e => by have := (hO8.lt b hb).1; omega) (by omega)) hM (by omega)
theorem made_set {X : World} {b bM : Nat} {o : Obj} (h : X.heap[bM]? = some o) (hne : bM ≠ b) (y0 y1 y2 : Value) : (((X.setCell ⟨b, 0, none⟩ y0).setCell ⟨b, 1, none⟩ y1).setCell ⟨b, 2, none⟩ y2).heap[bM]? = some o := ((kept_set3 X b y0 y1 y2).block bM (t_lt h) hne).trans h
set_option maxRecDepth 100000 in
set_option maxHeartbeats 4000000 in
theorem rOf_ok (v : Value) (zs : List Int) (w : World) (hv : HasI w v zs) (hn : zs.length ≤ 1000) : Calls Tryz.prog 10 #[v] w fun r w' => ∃ bB bM vB vM, r = .returned (.tuple #[.agg #[vB, vM, .int .i64 (Sy.together zs : Nat)], .bool true]) ∧ Rw w' w.heap.size bB bM vB vM zs.length (cO zs) (fun _ => false) ∧ Below w.heap.size w w' := by
  have hC := fun W (hb : Below w.heap.size w W) => refCanon_any v zs W (hv.below hb) (by omega)
  have hT := fun W (hb : Below w.heap.size w W) => refTogether_any v zs W (hv.below hb) (by omega)
  have mB := fun W => makeB zs.length (by omega) W
  obtain ⟨ao, cap, rfl, _⟩ := hv
  obtain ⟨n, hN⟩ : ∃ n, n = zs.length := ⟨_, rfl⟩
  obtain ⟨tg, htg⟩ : ∃ tg, tg = Sy.together zs := ⟨_, rfl⟩
  rw [← hN] at hC hT mB hn ⊢
  rw [← htg] at hT ⊢
  have H : Hid _ := And.intro hC hT
  have HN : Hid (n = zs.length) := hN
  have d3 : ¬ (1000 : Int) < (n : Int) := by omega
  clear hC hT hN htg
  go_enter Tryz.func10, Tryz.ntmps10
  go_upto_region 3 with fail
  go_region_law
    ((first
      | (go_simp; go_at_call 22; refine (H.out.1 _ (by repeat (first | exact Below.refl _ _ | assumption | refine Below.drew ?_ | refine Below.setCell ?_ (by first | simp | (simp; omega) | omega) _ | refine Below.alloc ?_ (by first | simp | (simp; omega) | omega) _))).mono ?_; rintro r8 w8 ⟨u, rfl, hO8, hb8⟩; have hw8 : Below w.heap.size w w8 := bel_step hb8 (by repeat (first | exact Below.refl _ _ | assumption | refine Below.drew ?_ | refine Below.setCell ?_ (by first | simp | (simp; omega) | omega) _ | refine Below.alloc ?_ (by first | simp | (simp; omega) | omega) _)); have hz8 := hw8.size; obtain ⟨au, ku, hu8⟩ := row_shape hO8; subst hu8; have hR8 : w8.heap[w.heap.size]? = some (.cells #[.slice none 0 0, .slice none 0 0, .int .i64 0] 48 (0, 0)) := res_up hb8 (by first | assumption | exact (res_new w _ (.cells #[] 0)).1 | exact (res_new w _ _).2 | exact res_alloc (by assumption)))
      | (go_simp; go_at_call 23; refine (H.out.2 _ (by repeat (first | exact Below.refl _ _ | assumption | refine Below.drew ?_ | refine Below.setCell ?_ (by first | simp | (simp; omega) | omega) _ | refine Below.alloc ?_ (by first | simp | (simp; omega) | omega) _))).mono ?_; rintro r9 w9 ⟨rfl, hb9⟩; have hw9 : Below w.heap.size w w9 := bel_step hb9 (by repeat (first | exact Below.refl _ _ | assumption | refine Below.drew ?_ | refine Below.setCell ?_ (by first | simp | (simp; omega) | omega) _ | refine Below.alloc ?_ (by first | simp | (simp; omega) | omega) _)); have hz9 := hw9.size; have hR9 : w9.heap[w.heap.size]? = some (.cells #[.slice none 0 0, .slice none 0 0, .int .i64 0] 48 (0, 0)) := res_up hb9 (by first | assumption | exact (res_new w _ (.cells #[] 0)).1 | exact (res_new w _ _).2 | exact res_alloc (by assumption)); have x0 := cell0_of (k := 0) hR9 rfl; have x1 := cell0_of (k := 1) hR9 rfl; have x2 := cell0_of (k := 2) hR9 rfl; have f0 := blk_free hR9 0; have f1 := blk_free hR9 1; have f2 := blk_free hR9 2; have hlt9 := t_lt hR9; have hne9 : ¬ w.heap.size = w9.heap.size := by omega)
      | fail))
  all_goals
    have HF : Hid (OwnI w8 (w.heap.size + 1) (.slice au (natI (Sy.canon zs)).length ku) (natI (Sy.canon zs))) := (row_base hO8 (by simp) : OwnI w8 (w.heap.size + 1) (.slice au (natI (Sy.canon zs)).length ku) (natI (Sy.canon zs)))
    have HB : Hid (w.heap.size < w8.heap.size ∧ Below w.heap.size w w9 ∧ w.heap.size < w9.heap.size) := ⟨t_lt hR8, hw9, hlt9⟩
    have H8 : Hid _ := And.intro hb8 hb9
    clear hO8 hb8 hb9 hw8 hw9 hR8 hR9 hz8 hz9
    generalize (natI (Sy.canon zs)).length = nu at HF ⊢
    go_wp2_with fail
  · refine bodyPost_ret (v := .tuple #[.agg #[.slice au nu ku, .slice (some ⟨w8.heap.size, 0, none⟩) n n, .int .i64 tg], .bool true]) (by simp [results, Tryz.results10, go_sem, *]) rfl ?_
    obtain ⟨bB, h1⟩ := fin_of (bM := w8.heap.size) HN.out HF.out (Nat.lt_succ_self _) (((Kept.of_below ((Below.refl _ _).alloc (Nat.le_refl _) _)).trans (Kept.of_below H8.out.2)).trans (kept_set3 w9 w.heap.size (.slice au nu ku) (.slice (some ⟨w8.heap.size, 0, none⟩) n n) (.int .i64 tg))) (made_set (res_up H8.out.2 (MapKept.heap_alloc w8 _).1) (by have := HB.out.1; omega) _ _ _) HB.out.1
    exact ⟨bB, _, _, _, rfl, h1, ((HB.out.2.1.setCell (Nat.le_refl _) _).setCell (Nat.le_refl _) _).setCell (Nat.le_refl _) _⟩
  · refine bodyPost_ret (v := .tuple #[.agg #[.slice au nu ku, .slice (some ⟨w9.heap.size, 0, none⟩) n n, .int .i64 tg], .bool true]) (by simp [results, Tryz.results10, go_sem, *]) rfl ?_
    have hs : (((w9.setCell ⟨w.heap.size, 0, none⟩ (.slice au nu ku)).setCell ⟨w.heap.size, 1, none⟩ (.slice (some ⟨w9.heap.size, 0, none⟩) n n)).setCell ⟨w.heap.size, 2, none⟩ (.int .i64 tg)).heap.size = w9.heap.size := by simp
    have hm := (MapKept.heap_alloc (((w9.setCell ⟨w.heap.size, 0, none⟩ (.slice au nu ku)).setCell ⟨w.heap.size, 1, none⟩ (.slice (some ⟨w9.heap.size, 0, none⟩) n n)).setCell ⟨w.heap.size, 2, none⟩ (.int .i64 tg)) (.cells (madeV (.bool false) n) 4)).1
    rw [hs] at hm
    obtain ⟨bB, h1⟩ := fin_of (bM := w9.heap.size) HN.out HF.out (Nat.lt_succ_self _) (((Kept.of_below H8.out.2).trans (kept_set3 w9 w.heap.size (.slice au nu ku) (.slice (some ⟨w9.heap.size, 0, none⟩) n n) (.int .i64 tg))).trans (Kept.of_below ((Below.refl _ _).alloc (Nat.le_refl _) _))) hm HB.out.2.2
    exact ⟨bB, _, _, _, rfl, h1, (((HB.out.2.1.setCell (Nat.le_refl _) _).setCell (Nat.le_refl _) _).setCell (Nat.le_refl _) _).alloc (by rw [hs]; exact HB.out.2.1.size) _⟩
  · refine bodyPost_ret (v := .tuple #[.agg #[.slice au nu ku, .slice (some ⟨w.heap.size + 1, 0, none⟩) n n, .int .i64 tg], .bool true]) (by simp [results, Tryz.results10, go_sem, *]) rfl ?_
    have h9 := (MapKept.heap_alloc (w.alloc (.cells #[.slice none 0 0, .slice none 0 0, .int .i64 0] 48)) (.cells (madeV (.bool false) n) 4)).1
    rw [show (w.alloc (.cells #[.slice none 0 0, .slice none 0 0, .int .i64 0] 48)).heap.size = w.heap.size + 1 by simp] at h9
    obtain ⟨bB, h1⟩ := fin_of (bM := w.heap.size + 1) HN.out HF.out (Nat.lt_succ_self _) ((Kept.of_below H8.out.2).trans (kept_set3 w9 w.heap.size (.slice au nu ku) (.slice (some ⟨w.heap.size + 1, 0, none⟩) n n) (.int .i64 tg))) (made_set (res_up H8.out.2 (res_up H8.out.1 h9)) (by omega) _ _ _) (Nat.lt_succ_self _)
    exact ⟨bB, _, _, _, rfl, h1, ((HB.out.2.1.setCell (Nat.le_refl _) _).setCell (Nat.le_refl _) _).setCell (Nat.le_refl _) _⟩
end Go.Proofs.YtpcndfffljmajaaGreatDoor
/- Chapter 8's law: index, the classes of no element. -/
namespace Go.Proofs.YtpcndfffljmajaaGreatDoor
open Go.RowKit Go.Maps
attribute [local go_sem ↓] Go.wp_at_zero Go.wp_at_succ
def refB1 : ByteArray := ⟨#[114, 101, 102, 105, 110, 101, 32]⟩
theorem ref_join : joinS ⟨#[]⟩ [refB] = refB1 := by unfold joinS joinS refB refB1; decide
theorem bad8 (k : Int) (w : World) : Calls Tryz.prog 11 #[.string ⟨#[114, 101, 102, 105, 110, 101]⟩, .int .i64 k] w fun e w' => e = .returned (.agg #[.int .i64 k, .int .i64 0, .int .i64 0, .string refB1]) ∧ Below w.heap.size w w' := by
  have zs : (⟨#[114, 101, 102, 105, 110, 101]⟩ ++ ⟨#[32]⟩ : ByteArray) = refB1 := by decide
  go_enter Tryz.func11, Tryz.ntmps11
  go_wp2
  exact bodyPost_ret (v := .agg #[.int .i64 k, .int .i64 0, .int .i64 0, .string refB1]) (by simp [results, Tryz.results11, go_sem]) rfl ⟨rfl, (Below.refl _ _).alloc (Nat.le_refl _) _⟩
theorem told8 (k : Nat) (h1 : 1 ≤ k) (h2 : k ≤ 19) (x : Value) (e : Nat → Addr) (w : World) (hE : Er 19 w e) (hC : Chain w 0 0 (e k) [refB] x) : Calls Tryz.prog 12 #[x, .agg #[.int .i64 k, .int .i64 0, .int .i64 0, .string refB1]] w fun r w' => r = .returned (.bool true) ∧ Below w.heap.size w w' := by
  have h := told_chain k h1 h2 h2 x [refB] 0 0 e w hE hC (by decide) (by decide)
  rw [ref_join] at h
  exact h
theorem index_ok (w : World) : Calls Tryz.prog 25 #[.nilIface, .bool true] w fun r w' => r = .returned (.bool true) ∧ w' = w := by
  go_enter Tryz.func25, Tryz.ntmps25
  go_wp2_with fail
  go_ret
  exact ⟨rfl, rfl⟩
theorem index_bad (x : Value) (e : Nat → Addr) (w : World) (hE : Er 19 w e) (hC : Chain w 0 0 (e 3) [refB] x) : Calls Tryz.prog 25 #[x, .bool false] w fun r w' => r = .returned (.bool true) ∧ Below w.heap.size w w' := by
  have hB := bad8 3 w
  have hT := fun W (hb : Below w.heap.size w W) => told8 3 (by decide) (by decide) x e W (hE.below hb) (hC.below hb)
  have H : Hid _ := And.intro hB hT
  clear hB hT hE hC
  go_enter Tryz.func25, Tryz.ntmps25
  go_wp2_with fail
  refine Calls.mono H.out.1 ?_
  rintro r w1 ⟨rfl, hb1⟩
  have H1 : Hid _ := hb1
  clear hb1
  go_wp2_with fail
  refine Calls.mono (H.out.2 _ H1.out) ?_
  rintro r w2 ⟨rfl, hb2⟩
  have H2 : Hid _ := hb2
  clear hb2
  go_wp2_with fail
  go_ret
  exact ⟨rfl, H1.out.trans (H2.out.mono H1.out.size)⟩
set_option maxRecDepth 100000 in
set_option maxHeartbeats 4000000 in
theorem classes_nil (g : Nat) (c : Nat → Int) (s : Pst) (w0 w : World) (hP : Pt w0 w g c) (hL : Lay c s) (h0 : s.n = 0) :
    Calls Tryz.prog 31 #[.pointer (some ⟨g, 0, none⟩)] w fun r w' => ∃ u, r = .returned u ∧ OwnI w' w.heap.size u [] ∧ Below w.heap.size w w' := by
  have c0 := hP.cell (i := 0) (by omega)
  rw [hL.n, h0] at c0
  have hCn : ∀ (ao : Option Addr) W, Calls Tryz.prog 20 #[.slice ao 0 0] W fun r w' => ∃ u, r = .returned u ∧ OwnI w' W.heap.size u [] ∧ Below W.heap.size W w' := fun ao W => pCanon (.slice ao 0 0) [] W ⟨ao, 0, rfl, fun i z h => by simp at h⟩ (by simp) (fun z hz => by simp at hz)
  have H : Hid _ := And.intro hCn trivial
  clear hCn hP hL h0
  simp only [Int.natCast_zero] at c0
  go_enter Tryz.func31, Tryz.ntmps31
  go_upto_region 3 with fail
  go_region_held3 (fun w' => (w'.cell? ⟨g, 0, none⟩ = some (.int .i64 0) ∧ w'.cell? ⟨g, 0, none⟩ = some (.int .i64 0)) ∧ Hid (Below w.heap.size w w')) (first | exact rgu2 hb5 (by assumption) | exact ⟨⟨c0, c0⟩, ((Below.refl _ _).drew : Below w.heap.size w w.drew)⟩ | go_keep)
    ((first
      | (go_at_call 20; refine Calls.mono (H.out.1 _ _) ?_; rintro r w5 ⟨u, rfl, hO5, hb5⟩)
      | fail))
  have hbw : Below w.heap.size w w5 := rgb3 (by assumption)
  have HB : Hid (OwnI w5 w.heap.size u [] ∧ Below w.heap.size w w5) := ⟨hO5, hbw⟩
  go_wp2_with fail
  go_ret
  exact ⟨_, rfl, HB.out.1, HB.out.2⟩
theorem classes_all (g : Nat) (c : Nat → Int) (s : Pst) (w0 w : World) (hP : Pt w0 w g c) (hL : Lay c s) (hO : s.Ok) :
    Calls Tryz.prog 31 #[.pointer (some ⟨g, 0, none⟩)] w fun r w' => ∃ u, r = .returned u ∧ OwnI w' w.heap.size u (natI (Sy.canon s.own)) ∧ Below w.heap.size w w' := by
  by_cases h0 : s.n = 0
  · have h1 : s.own = [] := by unfold Pst.own; rw [h0]; rfl
    rw [h1]
    exact classes_nil g c s w0 w hP hL h0
  · exact classes_any g c s w0 w hP hL hO (by omega)
end Go.Proofs.YtpcndfffljmajaaGreatDoor
/- Chapter 8's law: a pair's looks. -/
namespace Go.Proofs.YtpcndfffljmajaaGreatDoor
open Go.RowKit Go.Maps
attribute [local go_sem ↓] Go.wp_at_zero Go.wp_at_succ
/-- The cells of a pair. -/
theorem Sd.cells {wB wr : World} {g pb bB bM : Nat} {vB vM : Value} {s : Pst} (h : Sd wB wr g pb bB bM vB vM s) : wr.cell? ⟨g, 0, none⟩ = some (.pointer (some ⟨pb, 0, none⟩)) ∧ wr.cell? ⟨g, 1, none⟩ = some vB ∧ wr.cell? ⟨g, 2, none⟩ = some vM ∧ wr.cell? ⟨g, 3, none⟩ = some (.int .i64 s.nb) ∧ wr.cell? ⟨g, 4, none⟩ = some (.pointer (some ⟨wB.heap.size, 0, none⟩)) :=
  ⟨cell0_of h.dd.tR.1 rfl, cell0_of h.dd.tR.1 rfl, cell0_of h.dd.tR.1 rfl, cell0_of h.dd.tR.1 rfl, cell0_of h.dd.tR.1 rfl⟩
/-- The document's blocks as a list. -/
theorem Sd.hasB {wB wr : World} {g pb bB bM : Nat} {vB vM : Value} {s : Pst} (h : Sd wB wr g pb bB bM vB vM s) : HasI wr vB s.own := by
  obtain ⟨aB, kB, h1, h2⟩ := h.dd.sB
  refine ⟨aB, kB, by rw [h1, own_len], fun i z hi => ?_⟩
  have hlt : i < s.n := by rw [← own_len]; exact (List.getElem?_eq_some_iff.1 hi).1
  refine ⟨_, h2 (by omega), ?_⟩
  rw [addz, (h.dd.rB i hlt).1]
  simp [Pst.own, hlt] at hi
  rw [hi]
theorem canon_own_len (s : Pst) : (natI (Sy.canon s.own)).length = s.n := by unfold natI; rw [List.length_map, canon_len8, own_len]
/-- What both tell, in every world that comes. -/
structure Tell (wr : World) (g pb : Nat) (vB : Value) (s : Pst) : Prop where
  cl : ∀ W, Below wr.heap.size wr W → Calls Tryz.prog 31 #[.pointer (some ⟨pb, 0, none⟩)] W fun r w' => ∃ u, r = .returned u ∧ OwnI w' W.heap.size u (natI (Sy.canon s.own)) ∧ Below W.heap.size W w'
  mk1 : ∀ W, Below wr.heap.size wr W → Calls Tryz.prog 32 #[.pointer (some ⟨pb, 0, none⟩)] W fun r w' => ∃ u, r = .returned u ∧ OwnI w' W.heap.size u (s.some s.nb) ∧ Below W.heap.size W w'
  bl : ∀ W, Below wr.heap.size wr W → Calls Tryz.prog 18 #[.pointer (some ⟨pb, 0, none⟩)] W fun r w' => r = .returned (.int .i64 s.nb) ∧ Below W.heap.size W w'
  sz : ∀ W, Below wr.heap.size wr W → Calls Tryz.prog 35 #[.pointer (some ⟨pb, 0, none⟩)] W fun r w' => r = .returned (.int .i64 s.n) ∧ Below W.heap.size W w'
  me : ∀ W b, Below wr.heap.size wr W → b < s.nb → Calls Tryz.prog 28 #[.pointer (some ⟨pb, 0, none⟩), .int .i64 (b : Nat)] W fun r w' => ∃ u, r = .returned (.tuple #[u, .nilIface]) ∧ OwnI w' W.heap.size u (s.mem b) ∧ Below W.heap.size W w'
  ms : ∀ W b, Below wr.heap.size wr W → b < s.nb → Calls Tryz.prog 30 #[.pointer (some ⟨pb, 0, none⟩), .int .i64 (b : Nat)] W fun r w' => r = .returned (.tuple #[.int .i64 ((s.R b - s.B b : Nat) : Int), .nilIface]) ∧ Below W.heap.size W w'
  rc : ∀ W, Below wr.heap.size wr W → Calls Tryz.prog 22 #[vB] W fun r w' => ∃ u, r = .returned u ∧ OwnI w' W.heap.size u (natI (Sy.canon s.own)) ∧ Below W.heap.size W w'
  rs : ∀ W, Below wr.heap.size wr W → Calls Tryz.prog 34 #[.pointer (some ⟨g, 1, none⟩)] W fun r w' => ∃ u, r = .returned u ∧ OwnI w' W.heap.size u (s.some s.nb) ∧ Below W.heap.size W w'
  rm : ∀ W b, Below wr.heap.size wr W → b < s.nb → Calls Tryz.prog 36 #[.pointer (some ⟨g, 1, none⟩), .int .i64 (b : Nat)] W fun r w' => r = .returned (.int .i64 ((s.R b - s.B b : Nat) : Int)) ∧ Below W.heap.size W w'
  re : ∀ W b, Below wr.heap.size wr W → b < s.nb → Calls Tryz.prog 37 #[.pointer (some ⟨g, 1, none⟩), .int .i64 (b : Nat)] W fun r w' => ∃ u, r = .returned u ∧ OwnI w' W.heap.size u (s.mem b) ∧ Below W.heap.size W w'
theorem Sd.tell {wB wr : World} {g pb bB bM : Nat} {vB vM : Value} {s : Pst} (h : Sd wB wr g pb bB bM vB vM s) : Tell wr g pb vB s := by
  have hn := h.ok.n1
  have hnb := h.ok.few
  refine ⟨fun W hb => ?_, fun W hb => ?_, fun W hb => ?_, fun W hb => ?_, fun W b hb hlt => ?_, fun W b hb hlt => ?_, fun W hb => ?_, fun W hb => ?_, fun W b hb hlt => ?_, fun W b hb hlt => ?_⟩
  all_goals
    have h2 := h.below hb
    obtain ⟨c, hP, hL⟩ := h2.pt
  · exact classes_all pb c s wB W hP hL h.ok
  · exact marked_any pb c s wB W hP hL h.ok
  · refine (blocks_any pb c wB W hP).mono ?_
    rintro r w' ⟨rfl, rfl⟩
    exact ⟨by rw [hL.nb], Below.refl _ _⟩
  · refine (size_any pb c wB W hP).mono ?_
    rintro r w' ⟨rfl, rfl⟩
    exact ⟨by rw [hL.n], Below.refl _ _⟩
  · exact members_ok pb c s b wB W hP hL h.ok hlt
  · exact marks8_ok pb c s b wB W hP hL h.ok hlt
  · exact refCanon_any vB s.own W h2.hasB (by rw [own_len]; omega)
  · have h3 := rSome_any g 1 vB vM s.n s.nb s.O s.isM W h2.dd.dc (by omega) (by omega)
    rw [dSome_some h.ok] at h3
    exact h3
  · refine (rMarks_any g 1 vB vM s.n s.nb s.O s.isM (b : Int) W h2.dd.dc (by omega)).mono ?_
    rintro r w' ⟨rfl, rfl⟩
    exact ⟨by rw [dMk_R h.ok hlt], Below.refl _ _⟩
  · have h3 := rMembers_any g 1 vB vM s.n s.nb s.O s.isM (b : Int) W h2.dd.dc (by omega)
    rw [dMem_mem] at h3
    exact h3
theorem mem_le {s : Pst} (b : Nat) : (s.mem b).length ≤ s.n := by
  unfold Pst.mem
  rw [List.length_map]
  exact Nat.le_trans (List.length_filter_le _ _) (by simp)
end Go.Proofs.YtpcndfffljmajaaGreatDoor
/- Chapter 8's law: what a step makes of a pair. Plain facts. -/
namespace Go.Proofs.YtpcndfffljmajaaGreatDoor
open Go.RowKit Go.Maps
theorem typed_ne {w : World} {a b : Nat} {ca cb : Array Value} {ta tb : TypeId} (ha : w.heap[a]? = some (.cells ca ta (0, 0))) (hb : w.heap[b]? = some (.cells cb tb (0, 0))) (h : ta ≠ tb) : a ≠ b := fun e => by
  subst e
  rw [ha] at hb
  injection hb with e
  injection e with _ e
  exact h e
theorem Sd.ne {wB wr : World} {g pb bB bM : Nat} {vB vM : Value} {s : Pst} (h : Sd wB wr g pb bB bM vB vM s) : g ≠ pb ∧ (0 < s.n → bB ≠ pb ∧ bM ≠ pb) := by
  obtain ⟨c, hP, hL⟩ := h.pt
  obtain ⟨cs, hc, _⟩ := hP.ids
  refine ⟨typed_ne h.dd.tR.1 hc (by decide), fun h0 => ?_⟩
  obtain ⟨c1, h1⟩ := h.dd.tB h0
  obtain ⟨c2, h2⟩ := h.dd.tM h0
  exact ⟨typed_ne h1 hc (by decide), typed_ne h2 hc (by decide)⟩
/-- Behind the program's Mark. -/
structure MkS (wB W wx : World) (pb : Nat) (s : Pst) (e : Nat) (s2 : Pst) : Prop where
  pt : ∃ c, Pt wB wx pb c ∧ Lay c s2
  ok : s2.Ok
  k : Kept (fun i => i = pb) W wx
  n : s2.n = s.n
  nb : s2.nb = s.nb
  o : s2.O = s.O
  m : ∀ y, y < s.n → s2.isM y = (decide (y = e) || s.isM y)
theorem MkS.below {wB W wx wy : World} {pb : Nat} {s : Pst} {e : Nat} {s2 : Pst} (h : MkS wB W wx pb s e s2) (hb : Below wx.heap.size wx wy) : MkS wB W wy pb s e s2 := by
  obtain ⟨c, hP, hL⟩ := h.pt
  exact ⟨⟨c, hP.below hb, hL⟩, h.ok, h.k.trans (Kept.of_below hb), h.n, h.nb, h.o, h.m⟩
theorem Sd.marked {wB W wx : World} {g pb bB bM : Nat} {vB vM : Value} {s s2 : Pst} {e : Nat} (h : Sd wB W g pb bB bM vB vM s) (he : e < s.n) (hm : MkS wB W wx pb s e s2) : Sd wB (wx.setCell ⟨bM, e, none⟩ (.bool true)) g pb bB bM vB vM s2 ∧ Kept (Ft g pb bB bM s.n) W (wx.setCell ⟨bM, e, none⟩ (.bool true)) ∧ Dd wx (.pointer (some ⟨pb, 0, none⟩)) (.pointer (some ⟨wB.heap.size, 0, none⟩)) g 1 bB bM vB vM s.n s.nb s.O s.isM := by
  obtain ⟨n1, n2⟩ := h.ne
  have h0 : 0 < s.n := by omega
  obtain ⟨n3, n4⟩ := n2 h0
  have hd := h.dd.kept hm.k n1 n3 n4
  have hk2 := Kept.setCell wx bM e (.bool true)
  obtain ⟨c, hP, hL⟩ := hm.pt
  refine ⟨⟨⟨c, hP.kept hk2 fun b hb => ?_, hL⟩, hm.ok, ?_, h.gu, fun _ => h.lo h0⟩, ?_, hd⟩
  · subst hb; exact ⟨(h.lo h0).2, n4⟩
  · have h3 := (hd.setM he true).congr (O' := s2.O) (bs' := s2.isM) (fun y _ => by rw [hm.o]) (fun y hy => by
      rw [hm.m y hy]
      by_cases hye : y = e
      · subst hye; rw [upd_same]; simp
      · rw [upd_ne _ _ hye]; simp [hye])
    rw [hm.n, hm.nb]
    exact h3
  · exact (hm.k.mono fun i _ hi => .inr (.inl hi)).trans (hk2.mono fun i _ hi => .inr (.inr ⟨h0, .inr hi⟩))
/-- Behind the program's Split. -/
structure SpS (wB W wx : World) (pb : Nat) (s2 : Pst) : Prop where
  pt : ∃ c, Pt wB wx pb c ∧ Lay c s2
  k : Kept (fun i => i = pb) W wx
theorem SpS.below {wB W wx wy : World} {pb : Nat} {s2 : Pst} (h : SpS wB W wx pb s2) (hb : Below wx.heap.size wx wy) : SpS wB W wy pb s2 := by
  obtain ⟨c, hP, hL⟩ := h.pt
  exact ⟨⟨c, hP.below hb, hL⟩, h.k.trans (Kept.of_below hb)⟩
theorem nb_pos {s : Pst} (hO : s.Ok) {b : Nat} (hb : b < s.nb) : 0 < s.n := by have := hO.few; omega
theorem Sd.spD {wB W wx : World} {g pb bB bM : Nat} {vB vM : Value} {s s2 : Pst} (h : Sd wB W g pb bB bM vB vM s) (h0 : 0 < s.n) (hm : SpS wB W wx pb s2) : Dd wx (.pointer (some ⟨pb, 0, none⟩)) (.pointer (some ⟨wB.heap.size, 0, none⟩)) g 1 bB bM vB vM s.n s.nb s.O s.isM := by
  obtain ⟨n1, n2⟩ := h.ne
  obtain ⟨n3, n4⟩ := n2 h0
  exact h.dd.kept hm.k n1 n3 n4
theorem Sd.splitted {wB W wx w2 : World} {g pb bB bM : Nat} {vB vM : Value} {s : Pst} {b : Nat} (h : Sd wB W g pb bB bM vB vM s) (hb : b < s.nb) (hm : SpS wB W wx pb (s.split b)) {O' : Nat → Nat} {bs' : Nat → Bool} {sp mv : Bool} (hsp : sp = decide (s.splits b)) (hmv : mv = decide (2 * dMk s.O s.isM (b : Int) s.n ≤ (dMem s.O (b : Int) s.n).length))
    (hd : Dd w2 (.pointer (some ⟨pb, 0, none⟩)) (.pointer (some ⟨wB.heap.size, 0, none⟩)) g 1 bB bM vB vM s.n (if sp then s.nb + 1 else s.nb) O' bs') (hk : Kept (fun i => i = bB ∨ i = bM ∨ i = g) wx w2) (hO' : ∀ e, e < s.n → O' e = (if (s.O e : Int) = (b : Int) ∧ sp = true ∧ s.isM e = mv then s.nb else s.O e) ∧ bs' e = (s.isM e && decide (¬ (s.O e : Int) = (b : Int)))) :
    Sd wB w2 g pb bB bM vB vM (s.split b) ∧ Kept (Ft g pb bB bM s.n) W w2 := by
  have h0 := nb_pos h.ok hb
  obtain ⟨n1, n2⟩ := h.ne
  obtain ⟨n3, n4⟩ := n2 h0
  obtain ⟨h1, h2, _, _, h5⟩ := split_ok h.ok hb
  obtain ⟨c, hP, hL⟩ := hm.pt
  refine ⟨⟨⟨c, hP.kept hk fun i hi => ?_, hL⟩, h1, ?_, h.gu, fun _ => h.lo h0⟩, ?_⟩
  · rcases hi with rfl | rfl | rfl
    · exact ⟨(h.lo h0).1, n3⟩
    · exact ⟨(h.lo h0).2, n4⟩
    · exact ⟨h.gu, n1⟩
  · rw [h2]
    have hnb : (s.split b).nb = if sp then s.nb + 1 else s.nb := by
      rw [split_nb, hsp]
      by_cases q : s.splits b
      · rw [if_pos q, if_pos (decide_eq_true q)]
      · rw [if_neg q, if_neg (by simpa using q)]
    rw [hnb]
    refine hd.congr (fun e he => ?_) (fun e he => ?_)
    · rw [(hO' e he).1, split_O h.ok hb he, hmv, hsp, dMk_R h.ok hb, dMem_mem, mem_len h.ok hb]
      by_cases q : s.splits b ∧ s.O e = b ∧ s.isM e = decide (2 * (s.R b - s.B b) ≤ s.D b - s.B b)
      · rw [if_pos q, if_pos ⟨by rw [q.2.1], decide_eq_true q.1, q.2.2⟩]
      · rw [if_neg q, if_neg (by rintro ⟨q1, q2, q3⟩; exact q ⟨of_decide_eq_true q2, by omega, q3⟩)]
    · rw [(hO' e he).2, h5 e he]
      congr 1
      exact decide_eq_decide.2 (by omega)
  · refine (hm.k.mono fun i _ hi => .inr (.inl hi)).trans (hk.mono fun i _ hi => ?_)
    rcases hi with hi | hi | hi
    · exact .inr (.inr ⟨h0, .inl hi⟩)
    · exact .inr (.inr ⟨h0, .inr hi⟩)
    · exact .inl hi
end Go.Proofs.YtpcndfffljmajaaGreatDoor
