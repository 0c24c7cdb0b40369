/- Texts of this claim, joined: BookWIR, SySmI, BkRows, SmAns, SmBk0, SmBk, SmAnsB, SmDMt, SmRow, SmLig, SmDAb0. -/
import Derived.Test.YtibdgefjpcebkaaGreatDoorPart12
import Derived.Deep.DeepCutAuto
import Derived.Test.YtibdgefjpcebkaaGreatDoorPart0
import Derived.Deep.QuietTactic
import Derived.BigQuiet
import Derived.Deep.RegionHeld3
import Derived.Test.YtibdgefjpcebkaaGreatDoorPart10
import Derived.Test.YtibdgefjpcebkaaGreatDoorPart5
import Derived.Test.YtibdgefjpcebkaaGreatDoorPart7
namespace Go.Proofs.YtibdgefjpcebkaaGreatDoor
namespace WIR
open Go.RowKit Go.Maps
attribute [local go_sem ↓] Go.wp_at_zero Go.wp_at_succ
def bookZ : Array Value := Array.replicate 22 (.slice none 0 0)
structure St (wB wr : World) (PInts PRows XRows : Nat → Prop) (vInts uInts : Value) (lInts mInts : List Value) (zInts : List (List Int)) (vRows uRows : Value) (lRows mRows : List Value) (zRows : List (List BRows.El)) : Prop where
  bInts : Bs wr wB.heap.size vInts uInts lInts mInts zInts
  bRows : BRows.Bs wr wB.heap.size vRows uRows lRows mRows zRows
  roRows : ∀ us ∈ zRows, ∀ z ∈ us, ∃ zs, zs.length ≤ 1000000 ∧ OwnI wr 0 (BRows.sl z) zs
  ot : ApIR.Oth wr wB.heap.size
  bw : Below wB.heap.size wB wr
  rInts : ∀ b, (vInts.ownBlock = some b ∨ uInts.ownBlock = some b) → wB.heap.size ≤ b
  hInts : ∀ l ∈ lInts, ∀ b, l.ownBlock = some b → wB.heap.size ≤ b ∧ PInts b
  rRows : ∀ b, (vRows.ownBlock = some b ∨ uRows.ownBlock = some b) → wB.heap.size ≤ b
  hRows : ∀ l ∈ lRows, ∀ b, l.ownBlock = some b → wB.heap.size ≤ b ∧ PRows b
  xRows : ∀ b, XRows b → b < wr.heap.size ∧ vInts.ownBlock ≠ some b ∧ uInts.ownBlock ≠ some b
  xlRows : ∀ l, (l ∈ lRows ∨ l ∈ mRows) → ∀ b, l.ownBlock = some b → XRows b
def E (wB wr : World) (PInts PRows XRows : Nat → Prop) : Prop := ∃ vInts uInts lInts mInts zInts vRows uRows lRows mRows zRows, St wB wr PInts PRows XRows vInts uInts lInts mInts zInts vRows uRows lRows mRows zRows
theorem E.mono {wB wr : World} {PInts PRows XRows : Nat → Prop} {PInts' PRows' : Nat → Prop} (h : E wB wr PInts PRows XRows) (qInts : ∀ b, b < wr.heap.size → PInts b → PInts' b) (qRows : ∀ b, b < wr.heap.size → PRows b → PRows' b) : E wB wr PInts' PRows' XRows := by
  obtain ⟨vInts, uInts, lInts, mInts, zInts, vRows, uRows, lRows, mRows, zRows, h⟩ := h
  exact ⟨vInts, uInts, lInts, mInts, zInts, vRows, uRows, lRows, mRows, zRows, h.bInts, h.bRows, h.roRows, h.ot, h.bw, h.rInts, fun l hl b hb => ⟨(h.hInts l hl b hb).1, qInts b (BInts.Bp.lsf_lt h.bInts.p ⟨l, hl, hb⟩) (h.hInts l hl b hb).2⟩, h.rRows, fun l hl b hb => ⟨(h.hRows l hl b hb).1, qRows b (BRows.Bp.lsf_lt h.bRows.p ⟨l, hl, hb⟩) (h.hRows l hl b hb).2⟩, h.xRows, h.xlRows⟩
theorem E.below {wB wr w' : World} {PInts PRows XRows : Nat → Prop} (h : E wB wr PInts PRows XRows) (hb : Below wr.heap.size wr w') : E wB w' PInts PRows XRows := by
  obtain ⟨vInts, uInts, lInts, mInts, zInts, vRows, uRows, lRows, mRows, zRows, h⟩ := h
  exact ⟨vInts, uInts, lInts, mInts, zInts, vRows, uRows, lRows, mRows, zRows, h.bInts.below hb, h.bRows.below hb, fun us hu z hz => by obtain ⟨zs, h1, h2⟩ := h.roRows us hu z hz; exact ⟨zs, h1, trow_at h2 fun i hi => hb.block i (h2.lt i hi).2⟩, h.ot.below hb, h.bw.trans (hb.mono h.bw.size), h.rInts, h.hInts, h.rRows, h.hRows, fun b hx => ⟨by have := (h.xRows b hx).1; have := hb.size; omega, (h.xRows b hx).2⟩, h.xlRows⟩
theorem E.bw {wB wr : World} {PInts PRows XRows : Nat → Prop} (h : E wB wr PInts PRows XRows) : Below wB.heap.size wB wr := by
  obtain ⟨vInts, uInts, lInts, mInts, zInts, vRows, uRows, lRows, mRows, zRows, h⟩ := h
  exact h.bw
theorem E.moreRows {wB wr w' : World} {PInts PRows XRows : Nat → Prop} (h : E wB wr PInts PRows XRows) (hb : Below wr.heap.size wr w') {Y : Nat → Prop} (hY : ∀ b, Y b → wr.heap.size ≤ b ∧ b < w'.heap.size) : E wB w' PInts PRows (fun b => XRows b ∨ Y b) := by
  obtain ⟨vInts, uInts, lInts, mInts, zInts, vRows, uRows, lRows, mRows, zRows, h⟩ := h
  exact ⟨vInts, uInts, lInts, mInts, zInts, vRows, uRows, lRows, mRows, zRows, h.bInts.below hb, h.bRows.below hb, fun us hu z hz => by obtain ⟨zs, h1, h2⟩ := h.roRows us hu z hz; exact ⟨zs, h1, trow_at h2 fun i hi => hb.block i (h2.lt i hi).2⟩, h.ot.below hb, h.bw.trans (hb.mono h.bw.size), h.rInts, h.hInts, h.rRows, h.hRows, fun b hx => hx.elim (fun hx => ⟨by have := (h.xRows b hx).1; have := hb.size; omega, (h.xRows b hx).2⟩) (fun hx => ⟨(hY b hx).2, fun e => by have := (h.bInts.p.ri.lt b e).2; have := (hY b hx).1; omega, fun e => by have := (h.bInts.rw.lt b e).2; have := (hY b hx).1; omega⟩), fun l hl b hb => .inl (h.xlRows l hl b hb)⟩
theorem new (wB : World) : E wB (wB.alloc (.cells bookZ 45)) (fun _ => False) (fun _ => False) (fun _ => False) := by
  have h := (MapKept.heap_alloc wB (.cells bookZ 45)).1
  have hc : ∀ k, k < 22 → (wB.alloc (.cells bookZ 45)).cell? ⟨wB.heap.size, k, none⟩ = some (.slice none 0 0) := fun k hk => by
    have h2 : bookZ[k]? = some (.slice none 0 0) := by unfold bookZ; rw [Array.getElem?_replicate, if_pos hk]
    exact cell0_of h h2
  exact ⟨.slice none 0 0, .slice none 0 0, [], [], [], .slice none 0 0, .slice none 0 0, [], [], [], ⟨⟨hc _ (by omega), World.ownsRow_nil _ _ _ _, fun k l zs h1 => by simp at h1, ⟨fun l hl => by simp at hl, fun l hl => by simp at hl, by simp [Value.ownBlock], fun i j l m hl => by simp at hl⟩, by simp, fun zs h => by simp at h⟩, hc _ (by omega), World.ownsRow_nil _ _ _ _, fun k l zs h1 => by simp at h1, ⟨_, h, by unfold bookZ; simp⟩, fun k hk => by simp [Value.ownBlock] at hk⟩, ⟨⟨hc _ (by omega), World.ownsRow_nil _ _ _ _, fun k l zs h1 => by simp at h1, ⟨fun l hl => by simp at hl, fun l hl => by simp at hl, by simp [Value.ownBlock], fun i j l m hl => by simp at hl⟩, by simp, fun zs h => by simp at h⟩, hc _ (by omega), World.ownsRow_nil _ _ _ _, fun k l zs h1 => by simp at h1, ⟨_, h, by unfold bookZ; simp⟩, fun k hk => by simp [Value.ownBlock] at hk⟩, fun us hu => by simp at hu, ⟨hc _ (by omega), hc _ (by omega), hc _ (by omega), hc _ (by omega), hc _ (by omega), hc _ (by omega), hc _ (by omega), hc _ (by omega), hc _ (by omega)⟩, (Below.refl _ _).alloc (Nat.le_refl _) _, fun b hb => by simp [Value.ownBlock] at hb, fun l hl => by simp at hl, fun b hb => by simp [Value.ownBlock] at hb, fun l hl => by simp at hl, fun b hb => hb.elim, fun l hl => by simp at hl⟩
def Fr (XRows : Nat → Prop) (w w' : World) : Prop := w.heap.size ≤ w'.heap.size ∧ ∀ (g : Nat) (cs : Array Value) (t : TypeId), w.heap[g]? = some (.cells cs t (0, 0)) → 45 ≠ t → (50 ≠ t ∨ XRows g) → 34 ≠ t → w'.heap[g]? = some (.cells cs t (0, 0))
theorem Fr.refl (XRows : Nat → Prop) (w : World) : Fr XRows w w := ⟨Nat.le_refl _, fun _ _ _ h _ _ _ => h⟩
theorem Fr.trans {XRows : Nat → Prop} {a b c : World} (h : Fr XRows a b) (k : Fr XRows b c) : Fr XRows a c := ⟨Nat.le_trans h.1 k.1, fun g cs t hg c0 c1 c2 => k.2 g cs t (h.2 g cs t hg c0 c1 c2) c0 c1 c2⟩
theorem Fr.own {XRows : Nat → Prop} {w w' : World} (h : Fr XRows w w') {B : Nat} {e : TypeId} {sz : Nat} {v : Value} {n : Nat} {xs : List Value} (ho : w.ownsRow B e sz v n xs) (hc : ∀ b, v.ownBlock = some b → 45 ≠ e ∧ (50 ≠ e ∨ XRows b) ∧ 34 ≠ e) : w'.ownsRow B e sz v n xs := trow_at ho fun i hi => by
  obtain ⟨c, hr⟩ := row_cells ho hi
  obtain ⟨c0, c1, c2⟩ := hc i hi
  rw [hr]; exact h.2 i c _ hr c0 c1 c2
theorem Fr.ownInts {XRows : Nat → Prop} {w w' : World} (h : Fr XRows w w') {B : Nat} {v : Value} {n : Nat} {xs : List Value} (ho : w.ownsRow B 3 1 v n xs) : w'.ownsRow B 3 1 v n xs := h.own ho fun _ _ => ⟨by decide, .inl (by decide), by decide⟩
theorem typed_bk {w : World} {bk g : Nat} {cs cs' : Array Value} {t u : TypeId} (h : w.heap[bk]? = some (.cells cs u (0, 0))) (hg : w.heap[g]? = some (.cells cs' t (0, 0))) (hne : u ≠ t) : g ≠ bk := fun e => by
  subst e
  rw [h] at hg
  injection hg with e
  injection e with _ e
  exact hne e
theorem E.addInts {wB wr : World} {PInts PRows XRows : Nat → Prop} (h : E wB wr PInts PRows XRows) (v : Value) (zs : List Int) (B : Nat) (hO : OwnI wr B v zs) (hB : wB.heap.size ≤ B) (hv : ∀ b, v.ownBlock = some b → ¬ PInts b) (hsz : zs.length ≤ 1000000) :
    Calls Tryz.prog 17 #[.pointer (some ⟨wB.heap.size, 0, none⟩), v] wr fun r w' => r = .returned (.tuple #[]) ∧ (E wB w' (fun b => PInts b ∨ v.ownBlock = some b) PRows XRows) ∧ Fr XRows wr w' := by
  obtain ⟨vInts, uInts, lInts, mInts, zInts, vRows, uRows, lRows, mRows, zRows, h⟩ := h
  have hO0 : OwnI wr 0 v zs := row_base hO (Nat.zero_le _)
  by_cases hlen : zInts.length < 400
  · refine (ints_any wB.heap.size vInts uInts v lInts mInts zInts zs wr h.bInts hO0 (fun l hl q hq e => hv q e (h.hInts l hl q hq).2) hlen hsz).mono ?_
    rintro r w' ⟨rfl, vi', vw', v1, hN⟩
    have hup : ∀ b, (b = wB.heap.size ∨ vInts.ownBlock = some b ∨ uInts.ownBlock = some b) → wB.heap.size ≤ b := fun b hb => by
      rcases hb with rfl | hb
      · exact Nat.le_refl _
      · exact h.rInts b hb
    obtain ⟨cs0, hc0, _⟩ := h.bInts.bt
    have hFr : Fr XRows wr w' := ⟨hN.k.size, fun g cs t hg c0 c1 _ => by
      refine (hN.k.block g (t_lt hg) fun hf => ?_).trans hg
      rcases hf with hf | hf | hf
      · exact typed_bk hc0 hg c0 hf
      · rcases c1 with c1 | c1
        · exact own_bk h.bInts.p.ri hg c1 hf
        · exact (h.xRows g c1).2.1 hf
      · rcases c1 with c1 | c1
        · exact own_bk h.bInts.rw hg c1 hf
        · exact (h.xRows g c1).2.2 hf⟩
    have hxF : ∀ l, (l ∈ lRows ∨ l ∈ mRows) → ∀ b, l.ownBlock = some b → ¬ (b = wB.heap.size ∨ vInts.ownBlock = some b ∨ uInts.ownBlock = some b) := fun l hl b hb hf => by
      have hx := h.xRows b (h.xlRows l hl b hb)
      rcases hf with rfl | hf | hf
      · rcases hl with hl | hl
        · obtain ⟨k, hk, rfl⟩ := List.getElem_of_mem hl
          have hz : zRows[k]? = some (zRows[k]'(by rw [← h.bRows.p.ll]; exact hk)) := List.getElem?_eq_getElem _
          exact own_bk (h.bRows.p.li k _ _ (List.getElem?_eq_getElem hk) hz) hc0 (by decide) hb
        · obtain ⟨k, hk, rfl⟩ := List.getElem_of_mem hl
          have hwl : mRows.length = zRows.length := by have := h.bRows.rw.1; rw [Nat.mul_one] at this; exact this
          have hz : zRows[k]? = some (zRows[k]'(by rw [← hwl]; exact hk)) := List.getElem?_eq_getElem _
          exact own_bk (h.bRows.lw k _ _ (List.getElem?_eq_getElem hk) hz) hc0 (by decide) hb
      · exact hx.2.1 hf
      · exact hx.2.2 hf
    exact ⟨rfl, ⟨vi', vw', _, _, _, vRows, uRows, lRows, mRows, zRows, hN.b, h.bRows.far hN.k (hN.o _ (by omega)) (hN.o _ (by omega)) hN.b.bt (fun b hb hf => by
        rcases hf with rfl | hf | hf
        · exact own_bk h.bRows.p.ri hc0 (by decide) hb
        · exact own_ne h.bRows.p.ri h.bInts.p.ri (by decide) b hb hf
        · exact own_ne h.bRows.p.ri h.bInts.rw (by decide) b hb hf) (fun b hb hf => by
        rcases hf with rfl | hf | hf
        · exact own_bk h.bRows.rw hc0 (by decide) hb
        · exact own_ne h.bRows.rw h.bInts.p.ri (by decide) b hb hf
        · exact own_ne h.bRows.rw h.bInts.rw (by decide) b hb hf) (fun l hl b hb => hxF l (.inl hl) b hb) (fun l hl b hb => hxF l (.inr hl) b hb), fun us hu z hz => by obtain ⟨ys, h1, h2⟩ := h.roRows us hu z hz; exact ⟨ys, h1, hFr.ownInts h2⟩, ⟨(hN.o _ (by omega)).trans h.ot.dTokens, (hN.o _ (by omega)).trans h.ot.dTexts, (hN.o _ (by omega)).trans h.ot.dBools, (hN.o _ (by omega)).trans h.ot.dSteps, (hN.o _ (by omega)).trans h.ot.dEdges, (hN.o _ (by omega)).trans h.ot.dNodes, (hN.o _ (by omega)).trans h.ot.dPairs, (hN.o _ (by omega)).trans h.ot.dLines, (hN.o _ (by omega)).trans h.ot.dWalks⟩, h.bw.trans (hN.k.below h.bw.size hup), fun b hb => by
        rcases hN.f b hb with e | e
        · exact h.rInts b e
        · have := h.bw.size; omega, fun l hl b hb => by
        rcases List.mem_append.1 hl with hl | hl
        · exact ⟨(h.hInts l hl b hb).1, .inl (h.hInts l hl b hb).2⟩
        · rw [List.mem_singleton.1 hl] at hb
          have := hO.lt b hb
          exact ⟨by omega, .inr hb⟩, h.rRows, h.hRows, fun b hx => ⟨by have := (h.xRows b hx).1; have := hN.k.size; omega, fun e => by
        rcases hN.f b (.inl e) with f | f
        · exact f.elim (h.xRows b hx).2.1 (h.xRows b hx).2.2
        · have := (h.xRows b hx).1; omega, fun e => by
        rcases hN.f b (.inr e) with f | f
        · exact f.elim (h.xRows b hx).2.1 (h.xRows b hx).2.2
        · have := (h.xRows b hx).1; omega⟩, h.xlRows⟩, hFr⟩
  · refine (ints_full wB.heap.size vInts uInts v lInts mInts zInts wr h.bInts hlen).mono ?_
    rintro r w' ⟨rfl, rfl⟩
    exact ⟨rfl, ⟨vInts, uInts, lInts, mInts, zInts, vRows, uRows, lRows, mRows, zRows, h.bInts, h.bRows, h.roRows, h.ot, h.bw, h.rInts, fun l hl b hb => ⟨(h.hInts l hl b hb).1, .inl (h.hInts l hl b hb).2⟩, h.rRows, h.hRows, h.xRows, h.xlRows⟩, Fr.refl _ _⟩
theorem E.addRows {wB wr : World} {PInts PRows XRows : Nat → Prop} (h : E wB wr PInts PRows XRows) (v : Value) (zs : List BRows.El) (B : Nat) (hO : BRows.Own wr B v zs) (hB : wB.heap.size ≤ B) (hv : ∀ b, v.ownBlock = some b → ¬ PRows b) (hsz : zs.length ≤ 1000000) (hx : ∀ b, v.ownBlock = some b → XRows b) (hr : ∀ z ∈ zs, ∃ ys, ys.length ≤ 1000000 ∧ OwnI wr 0 (BRows.sl z) ys) :
    Calls Tryz.prog 34 #[.pointer (some ⟨wB.heap.size, 0, none⟩), v] wr fun r w' => r = .returned (.tuple #[]) ∧ (∃ Y : Nat → Prop, E wB w' PInts (fun b => PRows b ∨ v.ownBlock = some b) (fun b => XRows b ∨ Y b)) ∧ Fr XRows wr w' := by
  obtain ⟨vInts, uInts, lInts, mInts, zInts, vRows, uRows, lRows, mRows, zRows, h⟩ := h
  have hO0 : BRows.Own wr 0 v zs := row_base hO (Nat.zero_le _)
  by_cases hlen : zRows.length < 400
  · refine (BRows.ints_any wB.heap.size vRows uRows v lRows mRows zRows zs wr h.bRows hO0 (fun l hl q hq e => hv q e (h.hRows l hl q hq).2) hlen hsz).mono ?_
    rintro r w' ⟨rfl, vi', vw', v1, hN⟩
    have hup : ∀ b, (b = wB.heap.size ∨ vRows.ownBlock = some b ∨ uRows.ownBlock = some b) → wB.heap.size ≤ b := fun b hb => by
      rcases hb with rfl | hb
      · exact Nat.le_refl _
      · exact h.rRows b hb
    obtain ⟨cs0, hc0, _⟩ := h.bRows.bt
    have hFr : Fr XRows wr w' := ⟨hN.k.size, fun g cs t hg c0 _ c2 => by
      refine (hN.k.block g (t_lt hg) fun hf => ?_).trans hg
      rcases hf with hf | hf | hf
      · exact typed_bk hc0 hg c0 hf
      · exact own_bk h.bRows.p.ri hg c2 hf
      · exact own_bk h.bRows.rw hg c2 hf⟩
    have hv1 : ∀ b, v1.ownBlock = some b → wr.heap.size ≤ b := hN.n
    have hv2 : ∀ b, v1.ownBlock = some b → b < w'.heap.size := fun b hb => by
      have hlw : mRows.length = zRows.length := by have := h.bRows.rw.1; rw [Nat.mul_one] at this; exact this
      exact ((hN.b.lw zRows.length v1 zs (by rw [List.getElem?_append_right (by omega), hlw, Nat.sub_self]; rfl) (by rw [List.getElem?_append_right (Nat.le_refl _), Nat.sub_self]; rfl)).lt b hb).2
    exact ⟨rfl, ⟨fun b => v1.ownBlock = some b, vInts, uInts, lInts, mInts, zInts, vi', vw', _, _, _, h.bInts.other hN.k (hN.o _ (by omega) (by omega)) (hN.o _ (by omega) (by omega)) hN.b.bt (fun b hb => by
        rcases hb with hb | hb | hb
        · exact .inl hb
        · exact .inr ⟨_, _, _, _, _, _, h.bRows.p.ri, hb, by decide, by decide⟩
        · exact .inr ⟨_, _, _, _, _, _, h.bRows.rw, hb, by decide, by decide⟩), hN.b, fun us hu z hz => by
        rcases List.mem_append.1 hu with hu | hu
        · obtain ⟨ys, h1, h2⟩ := h.roRows us hu z hz
          exact ⟨ys, h1, hFr.ownInts h2⟩
        · rw [List.mem_singleton.1 hu] at hz
          obtain ⟨ys, h1, h2⟩ := hr z hz
          exact ⟨ys, h1, hFr.ownInts h2⟩, ⟨(hN.o _ (by omega) (by omega)).trans h.ot.dTokens, (hN.o _ (by omega) (by omega)).trans h.ot.dTexts, (hN.o _ (by omega) (by omega)).trans h.ot.dBools, (hN.o _ (by omega) (by omega)).trans h.ot.dSteps, (hN.o _ (by omega) (by omega)).trans h.ot.dEdges, (hN.o _ (by omega) (by omega)).trans h.ot.dNodes, (hN.o _ (by omega) (by omega)).trans h.ot.dPairs, (hN.o _ (by omega) (by omega)).trans h.ot.dLines, (hN.o _ (by omega) (by omega)).trans h.ot.dWalks⟩, h.bw.trans (hN.k.below h.bw.size hup), h.rInts, h.hInts, fun b hb => by
        rcases hN.f b hb with e | e
        · exact h.rRows b e
        · have := h.bw.size; omega, fun l hl b hb => by
        rcases List.mem_append.1 hl with hl | hl
        · exact ⟨(h.hRows l hl b hb).1, .inl (h.hRows l hl b hb).2⟩
        · rw [List.mem_singleton.1 hl] at hb
          have := hO.lt b hb
          exact ⟨by omega, .inr hb⟩, fun b hx => hx.elim (fun hx => ⟨by have := (h.xRows b hx).1; have := hN.k.size; omega, (h.xRows b hx).2⟩) (fun hx => ⟨hv2 b hx, fun e => by have := (h.bInts.p.ri.lt b e).2; have := hv1 b hx; omega, fun e => by have := (h.bInts.rw.lt b e).2; have := hv1 b hx; omega⟩), fun l hl b hb => by
        rcases hl with hl | hl
        · rcases List.mem_append.1 hl with hl | hl
          · exact .inl (h.xlRows l (.inl hl) b hb)
          · rw [List.mem_singleton.1 hl] at hb; exact .inl (hx b hb)
        · rcases List.mem_append.1 hl with hl | hl
          · exact .inl (h.xlRows l (.inr hl) b hb)
          · rw [List.mem_singleton.1 hl] at hb; exact .inr hb⟩, hFr⟩
  · refine (BRows.ints_full wB.heap.size vRows uRows v lRows mRows zRows wr h.bRows hlen).mono ?_
    rintro r w' ⟨rfl, rfl⟩
    exact ⟨rfl, ⟨fun _ => False, vInts, uInts, lInts, mInts, zInts, vRows, uRows, lRows, mRows, zRows, h.bInts, h.bRows, h.roRows, h.ot, h.bw, h.rInts, h.hInts, h.rRows, fun l hl b hb => ⟨(h.hRows l hl b hb).1, .inl (h.hRows l hl b hb).2⟩, fun b hb => hb.elim (h.xRows b) (fun hf => hf.elim), fun l hl b hb => .inl (h.xlRows l hl b hb)⟩, Fr.refl _ _⟩
def RowsRows (w : World) (B : Nat) (v : Value) (D : List (List Int)) : Prop :=
  ∃ us : List Value, w.ownsRow B 50 1 v D.length us ∧ (∀ (k : Nat) (r : List Int), D[k]? = some r → ∃ u, us[k]? = some u ∧ OwnI w B u r) ∧ ∀ (i j : Nat) (u x : Value) (b : Nat), us[i]? = some u → us[j]? = some x → i ≠ j → u.ownBlock = some b → x.ownBlock ≠ some b
def asRows : Value → BRows.El
  | .slice a n c => (a, n, c)
  | _ => (none, 0, 0)
theorem asRows_sl {u : Value} (h : ∃ a n c, u = .slice a n c) : BRows.sl (asRows u) = u := by
  obtain ⟨a, n, c, rfl⟩ := h
  rfl
theorem asRows_C : ∀ (us : List Value), (∀ u ∈ us, ∃ a n c, u = .slice a n c) → BRows.C (us.map asRows) = us
  | [], _ => rfl
  | u :: r, h => by
    have ih := asRows_C r fun x hx => h x (List.mem_cons_of_mem _ hx)
    have h1 := asRows_sl (h u List.mem_cons_self)
    unfold BRows.C at ih ⊢
    rw [List.map_cons, List.flatMap_cons, ih]
    show [BRows.sl (asRows u)] ++ r = _
    rw [h1]
    rfl
end WIR
section
open Go.RowKit
set_option maxRecDepth 100000 in
set_option maxHeartbeats 1000000 in
theorem sameInts_any (va vb : Value) (zs : List Int) (w : World) (hn : zs.length ≤ 1000000) (hA : HasI w va zs) (hB : HasI w vb zs) :
    Calls Tryz.prog 13 #[va, vb] w fun e w' => e = .returned (.bool true) ∧ Below w.heap.size w w' := by
  obtain ⟨ao, cap, rfl, hcA⟩ := hA
  obtain ⟨ao', cap', rfl, hcB⟩ := hB
  obtain ⟨n, hN⟩ : ∃ n, n = zs.length := ⟨_, rfl⟩
  have HH : Hid ((∀ (i : Nat) (z : Int), zs[i]? = some z → ∃ a, ao = some a ∧ w.cell? (a.add i) = some (.int .i64 z)) ∧ (∀ (i : Nat) (z : Int), zs[i]? = some z → ∃ a, ao' = some a ∧ w.cell? (a.add i) = some (.int .i64 z)) ∧ n = zs.length) := ⟨hcA, hcB, hN⟩
  rw [← hN] at hn ⊢
  clear hcA hcB hN
  have q : ((n : Int) != (n : Int)) = false := by simp
  go_enter Tryz.func13, Tryz.ntmps13
  go_wp2
  go_loopg [5] n (fun g i wr => ∃ j m : Nat, g = n - j ∧ j ≤ n ∧ i = .int .i64 j ∧ wr = w.drewN m)
  case atStart => exact ⟨0, 0, rfl, Nat.zero_le _, rfl, rfl⟩
  case round =>
    obtain ⟨j, m, rfl, hj, rfl, rfl⟩ := hrel
    by_cases hlt : j < n
    · obtain ⟨z, hz⟩ : ∃ z, zs[j]? = some z := ⟨zs[j]'(by have := HH.out.2.2; omega), List.getElem?_eq_getElem _⟩
      obtain ⟨a, rfl, c0⟩ := HH.out.1 j z hz
      obtain ⟨b, rfl, d0⟩ := HH.out.2.1 j z hz
      clear hz
      have q0 : (0 : Int) ≤ (j : Int) := by omega
      have q1 : (j : Int) < (n : Int) := by omega
      go_wp2_with fail
      go_quiet (fail)
      go_wp2
      go_roundg (n - (j + 1))
      case measure => omega
      case rel => exact ⟨j + 1, _, rfl, by omega, by go_num, by first | rfl | exact World.drewN_drewN _ _ _⟩
    · have q1 : ¬ (j : Int) < (n : Int) := by omega
      go_wp2
      go_ret
      exact ⟨rfl, below_drewN (Below.refl _ _) _⟩
end
section
open Go.RowKit Go.Maps
attribute [local go_sem ↓] Go.wp_at_zero Go.wp_at_succ
theorem rows_nil (W : World) (B : Nat) : WIR.RowsRows W B (.slice none 0 0) [] := ⟨[], World.ownsRow_nil _ _ _ _, fun k r h => by simp at h, fun i j u x b h => by simp at h⟩
theorem RowsRows.below {W W' : World} {B : Nat} {v : Value} {D : List (List Int)} (h : WIR.RowsRows W B v D) (hb : Below W.heap.size W W') : WIR.RowsRows W' B v D := by
  obtain ⟨us, h1, h2, h3⟩ := h
  refine ⟨us, trow_at h1 fun b e => hb.block b (h1.lt b e).2, fun k r hk => ?_, h3⟩
  obtain ⟨u, hu, ho⟩ := h2 k r hk
  exact ⟨u, hu, trow_at ho fun b e => hb.block b (ho.lt b e).2⟩
theorem RowsRows.lt {W : World} {B : Nat} {v : Value} {D : List (List Int)} (h : WIR.RowsRows W B v D) : ∀ b, v.ownBlock = some b → B ≤ b ∧ b < W.heap.size := by
  obtain ⟨us, h1, _⟩ := h
  exact h1.lt
def HasRR (w : World) (v : Value) (D : List (List Int)) : Prop :=
  ∃ (ao : Option Addr) (cap : Nat), v = .slice ao D.length cap ∧ ∀ k r, D[k]? = some r → ∃ b u, ao = some ⟨b, 0, none⟩ ∧ w.cell? ⟨b, k, none⟩ = some u ∧ HasI w u r
theorem RowsRows.has {w : World} {B : Nat} {v : Value} {D : List (List Int)} (h : WIR.RowsRows w B v D) : HasRR w v D := by
  obtain ⟨us, h1, h2, _⟩ := h
  rcases h1.2 with ⟨rfl, h0⟩ | ⟨g, cap, cur, rfl, _⟩
  · refine ⟨none, 0, by rw [h0], fun k r hr => ?_⟩
    have := (List.getElem?_eq_some_iff.1 hr).1
    omega
  · refine ⟨some ⟨g, 0, none⟩, cap, rfl, fun k r hr => ?_⟩
    have hk := (List.getElem?_eq_some_iff.1 hr).1
    obtain ⟨u, hu, ho⟩ := h2 k r hr
    exact ⟨g, u, rfl, by rw [h1.cellAt k (by omega)]; exact hu, ho.has⟩
theorem rr_b {w wr : World} {P : Prop} (h : P ∧ Hid (Below w.heap.size w wr)) : Below w.heap.size w wr := h.2.out
theorem bel_up {a b c : World} (h : Below b.heap.size b c) (k : Below a.heap.size a b) : Below a.heap.size a c := k.trans (h.mono k.size)
theorem rr_up {w2 wa wb : World} {a0 a1 : Addr} {x0 x1 : Value} (hb : Below wa.heap.size wa wb) (h : (wa.cell? a0 = some x0 ∧ wa.cell? a1 = some x1) ∧ Hid (Below w2.heap.size w2 wa)) : (wb.cell? a0 = some x0 ∧ wb.cell? a1 = some x1) ∧ Hid (Below w2.heap.size w2 wb) :=
  ⟨⟨(hb.cell (World.block_lt_of_cell? wa _ h.1.1)).trans h.1.1, (hb.cell (World.block_lt_of_cell? wa _ h.1.2)).trans h.1.2⟩, (bel_up hb h.2.out : Below w2.heap.size w2 wb)⟩
end
section
open Go.RowKit Go.Maps
noncomputable def aboveD (m : Nat) (es : List Sy.Ed) : List (List Int) := (List.range m).map fun p => natI (Br.els (simB (EE es) p) m)
theorem aboveD_len (m : Nat) (es : List Sy.Ed) : (aboveD m es).length = m := by simp [aboveD]
theorem aboveD_at {m p : Nat} {es : List Sy.Ed} {r : List Int} (h : (aboveD m es)[p]? = some r) : p < m ∧ r = natI (Br.els (simB (EE es) p) m) := by
  have hk := (List.getElem?_eq_some_iff.1 h).1
  rw [aboveD_len] at hk
  unfold aboveD at h
  rw [List.getElem?_map, List.getElem?_range hk] at h
  exact ⟨hk, (Option.some.inj h).symm⟩
theorem els_same {S T : Nat → Bool} {n : Nat} (h : ∀ q, q < n → S q = T q) : Br.els S n = Br.els T n := by
  unfold Br.els
  exact List.filter_congr fun q hq => h q (List.mem_range.1 hq)
theorem rows_al {w w' : World} {m g : Nat} {es : List Sy.Ed} {f : Nat → Value} (h : AlAt w w' m es g f m) (hm : m ≤ 1000000) : WIR.RowsRows w' w.heap.size (.slice (some ⟨g, 0, none⟩) m m) (aboveD m es) := by
  obtain ⟨cs, hcs, hsz⟩ := h.sz
  have hat : ∀ i, i < m → cs[i]? = some (f i) := fun i hi => by
    obtain ⟨c2, hc2, hx⟩ := h.lst
    rw [hcs] at hc2
    injection hc2 with e
    injection e with e1 _
    rw [e1, hx i hi]
    simp [hi]
  refine ⟨(List.range m).map f, ?_, fun k r hk => ?_, fun i j u x b hi hj hne hu hx => ?_⟩
  · rw [aboveD_len]
    refine ⟨by simp, .inr ⟨g, m, cs, rfl, h.ug, hcs, Nat.le_refl _, by unfold maxLen; omega, by omega, ?_⟩⟩
    refine List.ext_getElem? fun i => ?_
    rw [Nat.mul_one, List.getElem?_map]
    by_cases hi : i < m
    · rw [List.getElem?_take_of_lt hi, List.getElem?_range hi, Array.getElem?_toList, hat i hi]; rfl
    · rw [List.getElem?_eq_none (by rw [List.length_take]; omega), List.getElem?_eq_none (by simp; omega)]; rfl
  · obtain ⟨hkm, rfl⟩ := aboveD_at hk
    obtain ⟨S, h1, h2⟩ := h.own k hkm
    refine ⟨f k, by rw [List.getElem?_map, List.getElem?_range hkm]; rfl, ?_⟩
    rw [els_same (S := simB (EE es) k) (T := S) fun q hq => by rw [Bool.eq_iff_iff, simB_iff]; exact (h2 q hq).symm]
    exact h1
  · have hil : i < m := by have := (List.getElem?_eq_some_iff.1 hi).1; simpa using this
    have hjl : j < m := by have := (List.getElem?_eq_some_iff.1 hj).1; simpa using this
    rw [List.getElem?_map, List.getElem?_range hil] at hi
    rw [List.getElem?_map, List.getElem?_range hjl] at hj
    obtain rfl := Option.some.inj hi
    obtain rfl := Option.some.inj hj
    exact h.ap i j b hil hjl hne hu hx
def AnsA (sv : Value) (D : List (List Int)) (ev : Value) (w : World) : Prop := ∀ W, Below w.heap.size w W → Calls Tryz.prog 9 #[sv] W fun r W' => ∃ u x, r = .returned (.tuple #[u, x]) ∧ WIR.RowsRows W' W.heap.size u D ∧ Below W.heap.size W W' ∧
  ∀ W2, Below W'.heap.size W' W2 → Calls Tryz.prog 11 #[x, ev] W2 fun r W3 => r = .returned (.bool true) ∧ Below W2.heap.size W2 W3
def AnsC (sv : Value) (zs : List Int) (ev : Value) (w : World) : Prop := ∀ W, Below w.heap.size w W → Calls Tryz.prog 10 #[sv] W fun r W' => ∃ u x, r = .returned (.tuple #[u, x]) ∧ OwnI W' W.heap.size u zs ∧ Below W.heap.size W W' ∧
  ∀ W2, Below W'.heap.size W' W2 → Calls Tryz.prog 11 #[x, ev] W2 fun r W3 => r = .returned (.bool true) ∧ Below W2.heap.size W2 W3
theorem told_bad {n k s : Int} {x : Value} {es : List Sy.Ed} {e : Nat → Addr} {W : World} (hE : Er 19 W e) (hq : Sy.right n k s es = false) (hC : Chain W 0 0 (e 14) [smlB, sysB] x) : Calls Tryz.prog 11 #[x, gdV n (Sy.right n k s es)] W fun r W3 => r = .returned (.bool true) ∧ Below W.heap.size W W3 := by
  have hT := told_chain 14 (by decide) (by decide) (by decide) _ _ 0 0 e W hE hC (by decide) (by decide)
  rw [sml_join2] at hT
  rw [hq]
  exact hT
theorem told_long {n k s : Int} {x : Value} {es : List Sy.Ed} {e : Nat → Addr} {W : World} (hE : Er 19 W e) (hq : Sy.right n k s es = true) (hn : 300 < n) (hC : Chain W 0 0 (e 2) [smlB] x) : Calls Tryz.prog 11 #[x, gdV n (Sy.right n k s es)] W fun r W3 => r = .returned (.bool true) ∧ Below W.heap.size W W3 := by
  have hT := told_chain 2 (by decide) (by decide) (by decide) _ _ 0 0 e W hE hC (by decide) (by decide)
  rw [sml_join1] at hT
  rw [hq]
  unfold gdV
  rw [if_neg (by decide), if_pos hn]
  exact hT
theorem told_fine {n k s : Int} {es : List Sy.Ed} {W : World} (hq : Sy.right n k s es = true) (hn : ¬ 300 < n) : Calls Tryz.prog 11 #[.nilIface, gdV n (Sy.right n k s es)] W fun r W3 => r = .returned (.bool true) ∧ Below W.heap.size W W3 := by
  rw [hq]
  unfold gdV
  rw [if_neg (by decide), if_neg hn]
  exact told_none 0 0 _ W
theorem ansA_bad (hS : SortOk 1000000) (n k s : Int) (v : Value) (es : List Sy.Ed) (e : Nat → Addr) (w : World) (hE : Er 19 w e) (hH : BEdges.Has w v es) (hlen : es.length ≤ 11000) (hq : Sy.right n k s es = false) : AnsA (sysV n k s v) [] (gdV n (Sy.right n k s es)) w := fun W hb => by
  refine (mabove_bad n k s v es (e 14) [sysB] W (hH.below hb) (aboveOf_bad hS n k s v es (e 14) W ((hE.below hb).s14 (by decide)) (hH.below hb) (by omega) hq)).mono ?_
  rintro r W' ⟨b, rfl, hC, hb'⟩
  exact ⟨_, _, rfl, rows_nil _ _, hb', fun W2 hb2 => told_bad (((hE.below hb).below hb').below hb2) hq (hC.below hb2)⟩
theorem ansA_long (hS : SortOk 1000000) (m kk : Nat) (s : Int) (v : Value) (es : List Sy.Ed) (e : Nat → Addr) (w : World) (hE : Er 19 w e) (hH : BEdges.Has w v es) (hlen : es.length ≤ 11000) (hq : Sy.right m kk s es = true) (hn : 300 < m) : AnsA (sysV m kk s v) [] (gdV m (Sy.right m kk s es)) w := fun W hb => by
  refine (mabove_bad m kk s v es (e 2) [] W (hH.below hb) (aboveOf_long hS m kk s v es (e 14) (e 2) W ((hE.below hb).s14 (by decide)) ((hE.below hb).s2 (by decide)) (hH.below hb) (by omega) hq hn)).mono ?_
  rintro r W' ⟨b, rfl, hC, hb'⟩
  exact ⟨_, _, rfl, rows_nil _ _, hb', fun W2 hb2 => told_long (((hE.below hb).below hb').below hb2) hq (by omega) (hC.below hb2)⟩
theorem ansA_ok (hS : SortOk 1000000) (m kk : Nat) (s : Int) (v : Value) (es : List Sy.Ed) (e : Nat → Addr) (w : World) (hE : Er 19 w e) (hT : TabW w) (hH : BEdges.Has w v es) (hlen : es.length ≤ 11000) (hq : Sy.right m kk s es = true) (hn : m ≤ 300) : AnsA (sysV m kk s v) (aboveD m es) (gdV m (Sy.right m kk s es)) w := fun W hb => by
  refine (above_ok hS m kk s v es (e 14) W ((hE.below hb).s14 (by decide)) (hT.below hT.lt hb) (hH.below hb) (by omega) hq hn).mono ?_
  rintro r W' ⟨g, f, rfl, hA⟩
  exact ⟨_, _, rfl, rows_al hA (by omega), hA.bl, fun W2 _ => told_fine hq (by omega)⟩
theorem ansC_bad (hS : SortOk 1000000) (n k s : Int) (v : Value) (es : List Sy.Ed) (e : Nat → Addr) (w : World) (hE : Er 19 w e) (hH : BEdges.Has w v es) (hlen : es.length ≤ 11000) (hq : Sy.right n k s es = false) : AnsC (sysV n k s v) [] (gdV n (Sy.right n k s es)) w := fun W hb => by
  refine (mclasses_bad n k s v es (e 14) [sysB] W (hH.below hb) (aboveOf_bad hS n k s v es (e 14) W ((hE.below hb).s14 (by decide)) (hH.below hb) (by omega) hq)).mono ?_
  rintro r W' ⟨b, rfl, hC, hb'⟩
  exact ⟨_, _, rfl, World.ownsRow_nil _ _ _ _, hb', fun W2 hb2 => told_bad (((hE.below hb).below hb').below hb2) hq (hC.below hb2)⟩
theorem ansC_long (hS : SortOk 1000000) (m kk : Nat) (s : Int) (v : Value) (es : List Sy.Ed) (e : Nat → Addr) (w : World) (hE : Er 19 w e) (hH : BEdges.Has w v es) (hlen : es.length ≤ 11000) (hq : Sy.right m kk s es = true) (hn : 300 < m) : AnsC (sysV m kk s v) [] (gdV m (Sy.right m kk s es)) w := fun W hb => by
  refine (mclasses_bad m kk s v es (e 2) [] W (hH.below hb) (aboveOf_long hS m kk s v es (e 14) (e 2) W ((hE.below hb).s14 (by decide)) ((hE.below hb).s2 (by decide)) (hH.below hb) (by omega) hq hn)).mono ?_
  rintro r W' ⟨b, rfl, hC, hb'⟩
  exact ⟨_, _, rfl, World.ownsRow_nil _ _ _ _, hb', fun W2 hb2 => told_long (((hE.below hb).below hb').below hb2) hq (by omega) (hC.below hb2)⟩
theorem leaL_same {A B : Nat → Nat → Bool} {n : Nat} (h : ∀ p q, p < n → q < n → A p q = B p q) : leaL A n = leaL B n := by
  unfold leaL
  refine List.map_congr_left fun p hp => ?_
  have hp := List.mem_range.1 hp
  unfold leaS
  rw [els_same (S := A p) (T := B p) fun q hq => h p q hp hq]
  have e : (Br.els (B p) n).find? (fun q => A q p) = (Br.els (B p) n).find? fun q => B q p := by
    have : ∀ l : List Nat, (∀ q ∈ l, q < n) → l.find? (fun q => A q p) = l.find? fun q => B q p := fun l => by
      induction l with
      | nil => intro _; rfl
      | cons a r ih =>
        intro hl
        rw [List.find?_cons, List.find?_cons, h a p (hl a List.mem_cons_self) hp, ih fun q hq => hl q (List.mem_cons_of_mem _ hq)]
    exact this _ fun q hq => (Br.els_mem.1 hq).1
  rw [e]
theorem ansC_ok (hS : SortOk 1000000) (m kk : Nat) (s : Int) (v : Value) (es : List Sy.Ed) (e : Nat → Addr) (w : World) (hE : Er 19 w e) (hT : TabW w) (hH : BEdges.Has w v es) (hlen : es.length ≤ 11000) (hq : Sy.right m kk s es = true) (hn : m ≤ 300) : AnsC (sysV m kk s v) (natI (Sy.canon (leaL (simB (EE es)) m))) (gdV m (Sy.right m kk s es)) w := fun W hb => by
  refine (mclasses_ok hS m kk s v es (e 14) W ((hE.below hb).s14 (by decide)) (hT.below hT.lt hb) (hH.below hb) (by omega) hq hn).mono ?_
  rintro r W' ⟨u, A, rfl, hO, hA, hb'⟩
  rw [leaL_same (A := A) (B := simB (EE es)) fun p q hp hq => by rw [Bool.eq_iff_iff, simB_iff]; exact hA p q hp hq] at hO
  exact ⟨_, _, rfl, hO, hb', fun W2 _ => told_fine hq (by omega)⟩
end
section
open Go.RowKit Go.Maps
def FrF (w w' : World) : Prop := ∀ (g : Nat) (cs : Array Value), w.heap[g]? = some (.cells cs 86 (0, 0)) → w'.heap[g]? = some (.cells cs 86 (0, 0))
theorem FrF.of_below {w w' : World} (h : Below w.heap.size w w') : FrF w w' := fun g _ hg => (h.block g (t_lt hg)).trans hg
theorem FrF.trans {a b c : World} (h : FrF a b) (k : FrF b c) : FrF a c := fun g cs hg => k g cs (h g cs hg)
theorem FrF.kept {w w' : World} {F : Nat → Prop} (h : Kept F w w') (hF : ∀ (g : Nat) (cs : Array Value), w.heap[g]? = some (.cells cs 86 (0, 0)) → ¬ F g) : FrF w w' := fun g cs hg => (h.block g (t_lt hg) (hF g cs hg)).trans hg
theorem Chain.frf {w w' : World} {l c : Int} {a : Addr} : ∀ {ls : List ByteArray} {v : Value}, Chain w l c a ls v → FrF w w' → Chain w' l c a ls v
  | [], _, h, _ => h
  | s :: r, v, h, hb => by
    obtain ⟨b, u, h1, h2, h3⟩ := h
    exact ⟨b, u, h1, hb b _ h2, Chain.frf h3 hb⟩
end
namespace WIR
open Go.RowKit Go.Maps
attribute [local go_sem ↓] Go.wp_at_zero Go.wp_at_succ
theorem typed_ne {w : World} {eb : Nat} {ce : Array Value} {te t : TypeId} (he : w.heap[eb]? = some (.cells ce te (0, 0))) {g : Nat} {cs : Array Value} (hg : w.heap[g]? = some (.cells cs t (0, 0))) (hne : t ≠ te) : g ≠ eb := fun e => by
  subst e
  rw [he] at hg
  injection hg with e
  injection e with _ e
  exact hne e.symm
theorem E.apartF {wB wr w' : World} {PInts PRows XRows : Nat → Prop} (h : E wB wr PInts PRows XRows) {eb : Nat} {ce : Array Value} (he : wr.heap[eb]? = some (.cells ce 29 (0, 0))) (hk : Kept (fun b => b = eb) wr w') :
    Calls Tryz.prog 20 #[.pointer (some ⟨wB.heap.size, 0, none⟩)] w' fun r w2 => r = .returned (.bool true) ∧ FrF w' w2 ∧ Below wB.heap.size w' w2 := by
  obtain ⟨vInts, uInts, lInts, mInts, zInts, vRows, uRows, lRows, mRows, zRows, h⟩ := h
  obtain ⟨cs, hcs, hsz⟩ := h.bInts.bt
  have hne := typed_ne he hcs (by decide)
  have hbk : w'.heap[wB.heap.size]? = wr.heap[wB.heap.size]? := hk.block _ (t_lt hcs) hne
  have hcell : ∀ o, w'.cell? ⟨wB.heap.size, o, none⟩ = wr.cell? ⟨wB.heap.size, o, none⟩ := fun o => World.cell?_of_block (a := ⟨wB.heap.size, o, none⟩) hbk
  have hbt : ∃ cs, w'.heap[wB.heap.size]? = some (.cells cs 45 (0, 0)) ∧ cs.size = 22 := ⟨cs, hbk.trans hcs, hsz⟩
  have hI : Bs w' wB.heap.size vInts uInts lInts mInts zInts :=
    ⟨⟨(hcell 0).trans h.bInts.p.c0, own_up h.bInts.p.ri hk fun b hb e => by subst e; exact own_bk h.bInts.p.ri he (by decide) hb, fun k l zs h1 h2 => own_up (h.bInts.p.li k l zs h1 h2) hk fun b hb e => by subst e; exact own_bk (h.bInts.p.li k l zs h1 h2) he (by decide) hb, h.bInts.p.ap, h.bInts.p.len, h.bInts.p.sz⟩,
      (hcell 1).trans h.bInts.c1, own_up h.bInts.rw hk fun b hb e => by subst e; exact own_bk h.bInts.rw he (by decide) hb, fun k l zs h1 h2 => own_up (h.bInts.lw k l zs h1 h2) hk fun b hb e => by subst e; exact own_bk (h.bInts.lw k l zs h1 h2) he (by decide) hb, hbt, h.bInts.ne⟩
  have hlR : ∀ l ∈ lRows, ∀ b, l.ownBlock = some b → ¬ b = eb := fun l hl b hb e => by
    obtain ⟨k, hk2, rfl⟩ := List.getElem_of_mem hl
    have hz : zRows[k]? = some (zRows[k]'(by rw [← h.bRows.p.ll]; exact hk2)) := List.getElem?_eq_getElem _
    subst e
    exact own_bk (h.bRows.p.li k _ _ (List.getElem?_eq_getElem hk2) hz) he (by decide) hb
  have hmR : ∀ l ∈ mRows, ∀ b, l.ownBlock = some b → ¬ b = eb := fun l hl b hb e => by
    obtain ⟨k, hk2, rfl⟩ := List.getElem_of_mem hl
    have hwl : mRows.length = zRows.length := by have := h.bRows.rw.1; rw [Nat.mul_one] at this; exact this
    have hz : zRows[k]? = some (zRows[k]'(by rw [← hwl]; exact hk2)) := List.getElem?_eq_getElem _
    subst e
    exact own_bk (h.bRows.lw k _ _ (List.getElem?_eq_getElem hk2) hz) he (by decide) hb
  have hR : BRows.Bs w' wB.heap.size vRows uRows lRows mRows zRows := h.bRows.far hk (hcell _) (hcell _) hbt (fun b hb e => by subst e; exact own_bk h.bRows.p.ri he (by decide) hb) (fun b hb e => by subst e; exact own_bk h.bRows.rw he (by decide) hb) hlR hmR
  refine (ApIR.apart_any wB.heap.size vInts uInts lInts mInts zInts vRows uRows lRows mRows zRows w' hI hR (fun b hb ⟨l, hl, e⟩ => (h.xRows b (h.xlRows l (.inl hl) b e)).2.1 hb) (fun us hu z hz => by
    obtain ⟨zs, h1, h2⟩ := h.roRows us hu z hz
    exact ⟨zs, h1, (show OwnI w' 0 (BRows.sl z) zs from own_up h2 hk fun b hb e => by subst e; exact own_bk h2 he (by decide) hb).has⟩) (h.ot.kept hk hne)).mono ?_
  rintro r w2 ⟨rfl, hk2⟩
  refine ⟨rfl, FrF.kept hk2 fun g cs hg hf => ?_, hk2.below (Nat.le_trans h.bw.size hk.size) fun b hb => hb.elim (fun ⟨l, hl, e⟩ => (h.hInts l hl b e).1) fun ⟨l, hl, e⟩ => (h.hRows l hl b e).1⟩
  rcases hf with ⟨l, hl, e⟩ | ⟨l, hl, e⟩
  · obtain ⟨k, hk3, rfl⟩ := List.getElem_of_mem hl
    have hz : zInts[k]? = some (zInts[k]'(by rw [← h.bInts.p.ll]; exact hk3)) := List.getElem?_eq_getElem _
    exact own_bk (hI.p.li k _ _ (List.getElem?_eq_getElem hk3) hz) hg (by decide) e
  · obtain ⟨k, hk3, rfl⟩ := List.getElem_of_mem hl
    have hz : zRows[k]? = some (zRows[k]'(by rw [← h.bRows.p.ll]; exact hk3)) := List.getElem?_eq_getElem _
    exact own_bk (hR.p.li k _ _ (List.getElem?_eq_getElem hk3) hz) hg (by decide) e
/- Many lists, which were in memory at a world before: behind them all lists of the book lay there then. -/
set_option maxRecDepth 100000 in
set_option maxHeartbeats 4000000 in
theorem E.manyRows2 {wB wo wr : World} {PInts PRows XRows : Nat → Prop} (h : E wB wr PInts PRows XRows) (v : Value) (D : List (List Int)) (B : Nat) (hR : RowsRows wo B v D) (hwo : Below wo.heap.size wo wr) (hBo : B ≤ wo.heap.size) (hB : wB.heap.size ≤ B) (hP : ∀ b, PInts b → b < B) (hQ : ∀ b, PRows b → b < B) (hx : ∀ b, v.ownBlock = some b → XRows b) (hD : D.length ≤ 1000000) (hr : ∀ r ∈ D, r.length ≤ 1000000) :
    Calls Tryz.prog 16 #[.pointer (some ⟨wB.heap.size, 0, none⟩), v] wr fun r w' => r = .returned (.tuple #[]) ∧ (∃ Y : Nat → Prop, E wB w' (fun b => b < wo.heap.size) (fun b => b < w'.heap.size) (fun b => XRows b ∨ Y b)) ∧ Fr XRows wr w' := by
  have hlt9 : ∀ us : List Value, wo.ownsRow B 50 1 v D.length us → (∀ (k : Nat) (r : List Int), D[k]? = some r → ∃ u, us[k]? = some u ∧ OwnI wo B u r) → ∀ (j : Nat) (u : Value) (b : Nat), us[j]? = some u → u.ownBlock = some b → b < wo.heap.size := fun us h1 h2 j u b hj hb => by
    have hl : us.length = D.length := by have := h1.1; rw [Nat.mul_one] at this; exact this
    obtain ⟨y, hy, ho⟩ := h2 j _ (List.getElem?_eq_getElem (by have := (List.getElem?_eq_some_iff.1 hj).1; omega : j < D.length))
    rw [hj] at hy
    cases hy
    exact (ho.lt b hb).2
  obtain ⟨us, hrow0, hrows0, hdis⟩ := hR
  have hlt := hlt9 us hrow0 hrows0
  have hrow := trow_at hrow0 fun b e => hwo.block b (hrow0.lt b e).2
  have hrows : ∀ (k : Nat) (r : List Int), D[k]? = some r → ∃ u, us[k]? = some u ∧ OwnI wr B u r := fun k r hk => by
    obtain ⟨u, hu, ho⟩ := hrows0 k r hk
    exact ⟨u, hu, trow_at ho fun b e => hwo.block b (ho.lt b e).2⟩
  obtain ⟨No, hNo⟩ : ∃ No, No = wo.heap.size := ⟨_, rfl⟩
  rw [← hNo] at hlt hBo ⊢
  clear hlt9 hrow0 hrows0 hwo hNo
  obtain ⟨w0, hw0⟩ : ∃ w0, w0 = wr := ⟨_, rfl⟩
  rw [← hw0] at h hrow hrows ⊢
  clear hw0
  have hul : us.length = D.length := by have := hrow.1; rw [Nat.mul_one] at this; exact this
  obtain ⟨ao, cap, rfl⟩ := row_shape hrow
  obtain ⟨n, hn⟩ : ∃ n, n = D.length := ⟨_, rfl⟩
  have HH : Hid _ := And.intro hrow (And.intro hrows (And.intro hdis (And.intro hul (And.intro hx (And.intro hr hn)))))
  have HP : Hid _ := And.intro hP (And.intro hQ (And.intro hlt hBo))
  have h1 : E wB w0 (fun b => b < B ∨ ∃ j u, j < 0 ∧ us[j]? = some u ∧ u.ownBlock = some b) PRows XRows := h.mono (fun b _ hb => .inl (hP b hb)) (fun b _ hb => hb)
  have H1 : Hid _ := h1
  rw [← hn] at hD ⊢
  clear h hrow hrows hdis hul hx hr hn hP hQ h1 hlt hBo
  go_enter Tryz.func16, Tryz.ntmps16
  go_wp2_with fail
  go_loopg [4] n (fun q iv wr => ∃ k : Nat, q = n - k ∧ k ≤ n ∧ iv = .int .i64 k ∧ E wB wr (fun b => b < B ∨ ∃ j u, j < k ∧ us[j]? = some u ∧ u.ownBlock = some b) PRows XRows ∧ Fr XRows w0 wr)
  case atStart => exact ⟨0, rfl, Nat.zero_le _, rfl, H1.out, Fr.refl _ _⟩
  case round =>
    obtain ⟨k, rfl, hk, rfl, hW, hF⟩ := hrel
    clear H1
    have hrw := hF.own HH.out.1 fun b hb => ⟨by decide, .inr (HH.out.2.2.2.2.1 b hb), by decide⟩
    by_cases hlt : k < n
    · obtain ⟨r, hrk⟩ : ∃ r, D[k]? = some r := ⟨D[k]'(by have := HH.out.2.2.2.2.2.2; omega), List.getElem?_eq_getElem _⟩
      obtain ⟨u, huk, hu0⟩ := HH.out.2.1 k r hrk
      have hu : OwnI wr B u r := hF.ownInts hu0
      obtain ⟨g, c, hf, _, _⟩ := World.ownsRow.form hrw (by have := HH.out.2.2.2.2.2.2; omega)
      injection hf with e1 e2 e3
      subst e1
      have c0 : wr.cell? ⟨g, k, none⟩ = some u := by rw [hrw.cellAt k (by have := HH.out.2.2.2.2.2.2; omega), huk]
      obtain ⟨au, cu, rfl⟩ := row_shape hu
      have q0 : (0 : Int) ≤ (k : Int) := by omega
      have q1 : (k : Int) < (n : Int) := by omega
      have hT := E.addInts hW (.slice au r.length cu) r B hu hB (fun b hb hp => by
        rcases hp with hp | ⟨j, y, hj, hy, hyb⟩
        · have := (hu.lt b hb).1; omega
        · exact HH.out.2.2.1 j k y _ b hy huk (by omega) hyb hb) (HH.out.2.2.2.2.2.1 r (List.mem_of_getElem? hrk))
      have HT : Hid _ := And.intro hT (And.intro hF huk)
      clear hT hF hW hrk huk hu hu0 hrw e2 e3
      go_wp2_with (go_at_call 17; refine Calls.mono HT.out.1 ?_; rintro r2 w2 ⟨rfl, hW2, hF2⟩; have H2 : Hid _ := And.intro hW2 hF2; clear hW2 hF2)
      go_roundg (n - (k + 1))
      case measure => omega
      case rel => exact ⟨k + 1, rfl, by omega, by go_num, H2.out.1.mono (fun b _ hb => by
        rcases hb with (hb | ⟨j, y, hj, hy, hyb⟩) | hb
        · exact .inl hb
        · exact .inr ⟨j, y, by omega, hy, hyb⟩
        · exact .inr ⟨k, _, by omega, HT.out.2.2, hb⟩) (fun b _ hb => hb), HT.out.2.1.trans H2.out.2⟩
    · obtain rfl : k = n := by omega
      have q1 : ¬ (k : Int) < (k : Int) := by omega
      have hsl : ∀ u ∈ us, ∃ a n c, u = .slice a n c := fun u hu => by
        obtain ⟨j, hj, rfl⟩ := List.getElem_of_mem hu
        obtain ⟨y, hy, ho⟩ := HH.out.2.1 j _ (List.getElem?_eq_getElem (by have := HH.out.2.2.2.1; omega : j < D.length))
        rw [List.getElem?_eq_getElem hj] at hy
        cases hy
        obtain ⟨a, c, e⟩ := row_shape ho
        exact ⟨a, _, c, e⟩
      have hOw : BRows.Own wr B (.slice ao k cap) (us.map asRows) := by
        unfold BRows.Own
        rw [List.length_map, asRows_C us hsl, HH.out.2.2.2.1]
        have := hrw
        rw [← HH.out.2.2.2.2.2.2] at this ⊢
        exact this
      have hL := E.addRows hW (.slice ao k cap) (us.map asRows) B hOw hB (fun b hb hq => by rw [HH.out.2.2.2.2.2.2] at hb; have := (hrw.lt b hb).1; have := HP.out.2.1 b hq; omega) (by rw [List.length_map, HH.out.2.2.2.1, ← HH.out.2.2.2.2.2.2]; exact hD) (fun b hb => by rw [HH.out.2.2.2.2.2.2] at hb; exact HH.out.2.2.2.2.1 b hb) (fun z hz => by
        obtain ⟨u, hu, rfl⟩ := List.mem_map.1 hz
        rw [asRows_sl (hsl u hu)]
        obtain ⟨j, hj, rfl⟩ := List.getElem_of_mem hu
        have hjD : j < D.length := by have := HH.out.2.2.2.1; omega
        obtain ⟨y, hy, ho⟩ := HH.out.2.1 j _ (List.getElem?_eq_getElem hjD)
        rw [List.getElem?_eq_getElem hj] at hy
        cases hy
        exact ⟨D[j], HH.out.2.2.2.2.2.1 _ (List.getElem_mem hjD), row_base (hF.ownInts ho) (Nat.zero_le _)⟩)
      have HL : Hid _ := And.intro hL hF
      clear hL hF hW hrw hOw hsl
      go_wp2_with (go_at_call 34; refine Calls.mono HL.out.1 ?_; rintro r2 w2 ⟨rfl, hW2, hF2⟩; have H2 : Hid _ := And.intro hW2 hF2; clear hW2 hF2)
      go_end0
      obtain ⟨⟨Y, hY⟩, hF2⟩ := H2.out
      exact ⟨rfl, ⟨Y, hY.mono (fun b _ hb => by
        rcases hb with hb | ⟨j, y, _, hy, hyb⟩
        · have := HP.out.2.2.2; omega
        · exact HP.out.2.2.1 j y b hy hyb) (fun b hb _ => hb)⟩, HL.out.2.trans hF2⟩
end WIR
section
open Go.RowKit Go.Maps
def AnsB (sv : Value) (p q : Int) (b : Bool) (ev : Value) (w : World) : Prop := ∀ W, Below w.heap.size w W → Calls Tryz.prog 18 #[sv, .int .i64 p, .int .i64 q] W fun r W' => ∃ x, r = .returned (.tuple #[.bool b, x]) ∧ Below W.heap.size W W' ∧
  ∀ W2, Below w.heap.size w W2 → FrF W' W2 → Calls Tryz.prog 11 #[x, ev] W2 fun r W3 => r = .returned (.bool true) ∧ Below W2.heap.size W2 W3
def idxV : Value := .agg #[.int .i64 3, .int .i64 0, .int .i64 0, .string smlB1]
theorem told_idx {x : Value} {e : Nat → Addr} {W : World} (hE : Er 19 W e) (hC : Chain W 0 0 (e 3) [smlB] x) : Calls Tryz.prog 11 #[x, idxV] W fun r W3 => r = .returned (.bool true) ∧ Below W.heap.size W W3 := by
  have hT := told_chain 3 (by decide) (by decide) (by decide) _ _ 0 0 e W hE hC (by decide) (by decide)
  rw [sml_join1] at hT
  exact hT
theorem ansB_bad (hS : SortOk 1000000) (n k s p q : Int) (v : Value) (es : List Sy.Ed) (e : Nat → Addr) (w : World) (hE : Er 19 w e) (hH : BEdges.Has w v es) (hlen : es.length ≤ 11000) (hq : Sy.right n k s es = false) : AnsB (sysV n k s v) p q false (gdV n (Sy.right n k s es)) w := fun W hb => by
  refine (mbelow_bad n k s p q v es (e 14) [sysB] W (hH.below hb) (aboveOf_bad hS n k s v es (e 14) W ((hE.below hb).s14 (by decide)) (hH.below hb) (by omega) hq)).mono ?_
  rintro r W' ⟨b, rfl, hC, hb'⟩
  exact ⟨_, rfl, hb', fun W2 hb2 hf => told_bad (hE.below hb2) hq (hC.frf hf)⟩
theorem ansB_long (hS : SortOk 1000000) (m kk : Nat) (s p q : Int) (v : Value) (es : List Sy.Ed) (e : Nat → Addr) (w : World) (hE : Er 19 w e) (hH : BEdges.Has w v es) (hlen : es.length ≤ 11000) (hq : Sy.right m kk s es = true) (hn : 300 < m) : AnsB (sysV m kk s v) p q false (gdV m (Sy.right m kk s es)) w := fun W hb => by
  refine (mbelow_bad m kk s p q v es (e 2) [] W (hH.below hb) (aboveOf_long hS m kk s v es (e 14) (e 2) W ((hE.below hb).s14 (by decide)) ((hE.below hb).s2 (by decide)) (hH.below hb) (by omega) hq hn)).mono ?_
  rintro r W' ⟨b, rfl, hC, hb'⟩
  exact ⟨_, rfl, hb', fun W2 hb2 hf => told_long (hE.below hb2) hq (by omega) (hC.frf hf)⟩
theorem ansB_idx (hS : SortOk 1000000) (m kk : Nat) (s p q : Int) (v : Value) (es : List Sy.Ed) (e : Nat → Addr) (w : World) (hE : Er 19 w e) (hT : TabW w) (hH : BEdges.Has w v es) (hlen : es.length ≤ 11000) (hq : Sy.right m kk s es = true) (hn : m ≤ 300) (hx : ¬ (0 ≤ p ∧ p < (m : Int) ∧ 0 ≤ q ∧ q < (m : Int))) : AnsB (sysV m kk s v) p q false idxV w := fun W hb => by
  refine (mbelow_idx hS m kk p q s v es (e 14) (e 3) W ((hE.below hb).s14 (by decide)) ((hE.below hb).s3 (by decide)) (hT.below hT.lt hb) (hH.below hb) (by omega) hq hn hx).mono ?_
  rintro r W' ⟨b, rfl, hC, hb'⟩
  exact ⟨_, rfl, hb', fun W2 hb2 hf => told_idx (hE.below hb2) (hC.frf hf)⟩
theorem ansB_ok (hS : SortOk 1000000) (m kk p q : Nat) (s : Int) (v : Value) (es : List Sy.Ed) (e : Nat → Addr) (w : World) (hE : Er 19 w e) (hT : TabW w) (hH : BEdges.Has w v es) (hlen : es.length ≤ 11000) (hq : Sy.right m kk s es = true) (hn : m ≤ 300) (hp : p < m) (hqm : q < m) : AnsB (sysV m kk s v) p q (simB (EE es) p q) (gdV m (Sy.right m kk s es)) w := fun W hb => by
  refine (mbelow_ok hS m kk p q s v es (e 14) W ((hE.below hb).s14 (by decide)) (hT.below hT.lt hb) (hH.below hb) (by omega) hq hn hp hqm).mono ?_
  rintro r W' ⟨b, rfl, hS', hb'⟩
  obtain rfl : simB (EE es) p q = b := by rw [Bool.eq_iff_iff, simB_iff]; exact hS'.symm
  exact ⟨_, rfl, hb', fun W2 _ _ => told_fine hq (by omega)⟩
end
section
open Go.RowKit Go.Maps
attribute [local go_sem ↓] Go.wp_at_zero Go.wp_at_succ
def RowsT (w : World) (g n : Nat) (f : Nat → List BSteps.El) : Prop := ∀ q, q < n → ∃ u, w.cell? ⟨g, q, none⟩ = some u ∧ BSteps.Has w u (f q)
theorem RowsT.below {w w' : World} {g n : Nat} {f : Nat → List BSteps.El} (h : RowsT w g n f) (hb : Below w.heap.size w w') : RowsT w' g n f := fun q hq => by
  obtain ⟨u, h1, h2⟩ := h q hq
  exact ⟨u, cell_up h1 hb, h2.below hb⟩
theorem RowsT.at {w : World} {g n : Nat} {f : Nat → List BSteps.El} (h : RowsT w g n f) {q : Nat} (hq : q < n) : ∃ a c, w.cell? ⟨g, q, none⟩ = some (.slice a (f q).length c) ∧ BSteps.Has w (.slice a (f q).length c) (f q) := by
  obtain ⟨u, h1, h2⟩ := h q hq
  have h3 := h2
  obtain ⟨a, c, rfl, _⟩ := h3
  exact ⟨a, c, h1, h2⟩
def BoolsT (w : World) (g n : Nat) (X : Nat → Nat → Bool) : Prop := ∀ p, p < n → ∃ b, w.cell? ⟨g, p, none⟩ = some (.slice (some ⟨b, 0, none⟩) n n) ∧ ∀ q, q < n → w.cell? ⟨b, q, none⟩ = some (.bool (X p q))
theorem BoolsT.below {w w' : World} {g n : Nat} {X : Nat → Nat → Bool} (h : BoolsT w g n X) (hb : Below w.heap.size w w') : BoolsT w' g n X := fun p hp => by
  obtain ⟨b, h1, h2⟩ := h p hp
  exact ⟨b, cell_up h1 hb, fun q hq => cell_up (h2 q hq) hb⟩
theorem MxAt.bools {w w' : World} {n g : Nat} {b : Nat → Nat} {X : Nat → Nat → Bool} (h : MxAt w w' n g b X n) : BoolsT w' g n X := fun p hp => by
  have h1 := h.lst.cell hp
  rw [if_pos hp] at h1
  exact ⟨b p, h1, fun q hq => (h.row p hp).cell hq⟩
def anyD (X : Nat → Nat → Bool) (z : BSteps.El) (ys : List BSteps.El) : Bool := ys.any fun y => y.1 == z.1 && X z.2.toNat y.2.toNat
def allD (X : Nat → Nat → Bool) (xs ys : List BSteps.El) : Bool := xs.all fun z => anyD X z ys
theorem take_succD {α : Type} {l : List α} {i : Nat} {z : α} (h : l[i]? = some z) : l.take (i + 1) = l.take i ++ [z] := by rw [List.take_add_one, h]; rfl
theorem anyD_next {X : Nat → Nat → Bool} {z y : BSteps.El} {ys : List BSteps.El} {j : Nat} (h : ys[j]? = some y) : anyD X z (ys.take (j + 1)) = (anyD X z (ys.take j) || (y.1 == z.1 && X z.2.toNat y.2.toNat)) := by
  unfold anyD
  rw [take_succD h]
  simp
theorem anyD_take {X : Nat → Nat → Bool} {z : BSteps.El} {ys : List BSteps.El} {j : Nat} (h : anyD X z (ys.take j) = true) : anyD X z ys = true := by
  unfold anyD at h ⊢
  rw [List.any_eq_true] at h ⊢
  obtain ⟨y, hy, h2⟩ := h
  exact ⟨y, List.mem_of_mem_take hy, h2⟩
theorem allD_next {X : Nat → Nat → Bool} {z : BSteps.El} {xs ys : List BSteps.El} {i : Nat} (h : xs[i]? = some z) : allD X (xs.take (i + 1)) ys = (allD X (xs.take i) ys && anyD X z ys) := by
  unfold allD
  rw [take_succD h]
  simp
theorem allD_false {X : Nat → Nat → Bool} {z : BSteps.El} {xs ys : List BSteps.El} {i : Nat} (h : xs[i]? = some z) (h2 : anyD X z ys = false) : allD X xs ys = false := by
  cases h3 : allD X xs ys with
  | false => rfl
  | true =>
    unfold allD at h3
    rw [List.all_eq_true] at h3
    rw [h3 z (List.mem_of_getElem? h)] at h2
    cases h2
set_option linter.unusedSimpArgs false in
set_option maxRecDepth 100000 in
set_option maxHeartbeats 8000000 in
theorem docMeets_any (m p q go gi ci : Nat) (X : Nat → Nat → Bool) (f : Nat → List BSteps.El) (w : World) (hR : RowsT w go m f) (hX : BoolsT w gi m X) (hp : p < m) (hq : q < m) (hf : ∀ i, i < m → ∀ e ∈ f i, 0 ≤ e.2 ∧ e.2 < (m : Int)) (hl : ∀ i, i < m → (f i).length ≤ 100000) :
    Calls Tryz.prog 24 #[.slice (some ⟨go, 0, none⟩) m m, .slice (some ⟨gi, 0, none⟩) m ci, .int .i64 p, .int .i64 q] w fun r w' => r = .returned (.bool (allD X (f p) (f q))) ∧ Below w.heap.size w w' := by
  obtain ⟨N, hN⟩ : ∃ N, N = (f p).length := ⟨_, rfl⟩
  obtain ⟨N2, hN2⟩ : ∃ N2, N2 = (f q).length := ⟨_, rfl⟩
  obtain ⟨r, hr⟩ : ∃ r, r = allD X (f p) (f q) := ⟨_, rfl⟩
  rw [← hr]
  have l1 := hl p hp
  have l2 := hl q hq
  rw [← hN] at l1
  rw [← hN2] at l2
  have H : Hid _ := And.intro hR (And.intro hX (And.intro hf (And.intro hN (And.intro hN2 hr))))
  have q0 : (0 : Int) ≤ (p : Int) := by omega
  have q1 : (p : Int) < (m : Int) := by omega
  have q2 : (0 : Int) ≤ (q : Int) := by omega
  have q3 : (q : Int) < (m : Int) := by omega
  clear hR hX hf hN hN2 hr hl
  go_enter Tryz.func24, Tryz.ntmps24
  go_wp2_with fail
  go_loopg [9] N (fun z iv wr => ∃ i : Nat, z = N - i ∧ i ≤ N ∧ iv = .int .i64 i ∧ allD X ((f p).take i) (f q) = true ∧ Below w.heap.size w wr)
  case atStart => exact ⟨0, rfl, Nat.zero_le _, rfl, rfl, Below.refl _ _⟩
  case round =>
    obtain ⟨i, rfl, hi, rfl, hal, hbI⟩ := hrel
    obtain ⟨wo, rfl⟩ : ∃ wo, wo = wr := ⟨_, rfl⟩
    obtain ⟨ap, cp, x0, hp1⟩ := (H.out.1.below hbI).at hp
    rw [← H.out.2.2.2.1] at x0 hp1
    by_cases hlt : i < N
    · obtain ⟨⟨z1, z2⟩, hz⟩ : ∃ z, (f p)[i]? = some z := ⟨_, List.getElem?_eq_getElem (by have := H.out.2.2.2.1; omega)⟩
      have hz2 := H.out.2.2.1 p hp _ (List.mem_of_getElem? hz)
      simp only at hz2
      obtain ⟨t, rfl⟩ : ∃ t : Nat, z2 = (t : Int) := ⟨z2.toNat, by omega⟩
      have htm : t < m := by omega
      have HI : Hid _ := And.intro hz (And.intro hal hbI)
      have r0 : (0 : Int) ≤ (i : Int) := by omega
      have r1 : (i : Int) < (N : Int) := by omega
      clear hz hz2 hal hbI hp1
      go_wp2_with fail
      go_loopg [10, 11] N2 (fun z mv jv wr => ∃ j : Nat, z = N2 - j ∧ j ≤ N2 ∧ mv = .bool (anyD X (z1, (t : Int)) ((f q).take j)) ∧ jv = .int .i64 j ∧ Below w.heap.size w wr)
      case atStart => exact ⟨0, rfl, Nat.zero_le _, rfl, rfl, HI.out.2.2⟩
      case round =>
        obtain ⟨j, rfl, hj, rfl, rfl, hbJ⟩ := hrel
        obtain ⟨mb, hmb⟩ : ∃ mb, mb = anyD X (z1, (t : Int)) ((f q).take j) := ⟨_, rfl⟩
        rw [← hmb]
        clear x0
        obtain ⟨aq, cq, y0, hq1⟩ := (H.out.1.below hbJ).at hq
        rw [← H.out.2.2.2.2.1] at y0 hq1
        by_cases hlJ : j < N2
        · have s0 : (0 : Int) ≤ (j : Int) := by omega
          have s1 : (j : Int) < (N2 : Int) := by omega
          cases mb
          · obtain ⟨ap, cp, x0, hp1⟩ := (H.out.1.below hbJ).at hp
            rw [← H.out.2.2.2.1] at x0 hp1
            obtain ⟨⟨y1, y2⟩, hy⟩ : ∃ y, (f q)[j]? = some y := ⟨_, List.getElem?_eq_getElem (by have := H.out.2.2.2.2.1; omega)⟩
            have hy2 := H.out.2.2.1 q hq _ (List.mem_of_getElem? hy)
            simp only at hy2
            obtain ⟨u, rfl⟩ : ∃ u : Nat, y2 = (u : Int) := ⟨y2.toNat, by omega⟩
            have hum : u < m := by omega
            obtain ⟨a9, rfl, d0, d1⟩ := step_at hp1 HI.out.1
            obtain ⟨a8, rfl, d2, d3⟩ := step_at hq1 hy
            dsimp only at d0 d1 d2 d3
            obtain ⟨bb, c1, hc2⟩ := (H.out.2.1.below hbJ) t htm
            have c2 := hc2 u hum
            obtain ⟨xb, hxb⟩ : ∃ xb, xb = X t u := ⟨_, rfl⟩
            rw [← hxb] at c2
            have s2 : (0 : Int) ≤ (t : Int) := by omega
            have s3 : (t : Int) < (m : Int) := by omega
            have s4 : (0 : Int) ≤ (u : Int) := by omega
            have s5 : (u : Int) < (m : Int) := by omega
            have hnx := anyD_next (X := X) (z := (z1, (t : Int))) hy
            rw [← hmb, Bool.false_or] at hnx
            simp only [Int.toNat_natCast] at hnx
            rw [← hxb] at hnx
            have HJ : Hid _ := And.intro hnx hbJ
            obtain ⟨eb, heb⟩ : ∃ eb, eb = (y1 == z1) := ⟨_, rfl⟩
            rw [← heb] at HJ
            have hey := heb.symm
            clear hp1 hq1 hy hy2 hc2 hnx hbJ hmb hxb heb
            cases eb
            all_goals
              go_wp2_with fail
              go_quiet (fail)
              go_wp2_with fail
              go_roundg (N2 - (j + 1))
              case measure => omega
              case rel =>
                refine ⟨j + 1, rfl, by omega, ?_, by go_num, below_drewN HJ.out.2 _⟩
                rw [HJ.out.1]
                rfl
          · have HJ : Hid _ := And.intro (anyD_take hmb.symm) hbJ
            clear hmb hbJ hq1
            go_wp2_with fail
            go_roundg (N - (i + 1))
            case measure => omega
            case rel => exact ⟨i + 1, rfl, by omega, by go_num, by rw [allD_next HI.out.1, HI.out.2.1, HJ.out.1]; rfl, HJ.out.2⟩
        · obtain rfl : N2 = j := by omega
          have s1 : ¬ (N2 : Int) < (N2 : Int) := by omega
          rw [List.take_of_length_le (by have := H.out.2.2.2.2.1; omega)] at hmb
          have HJ : Hid _ := And.intro hmb hbJ
          clear hmb hbJ hq1
          cases mb
          · go_wp2_with fail
            go_ret
            exact ⟨by rw [H.out.2.2.2.2.2, allD_false HI.out.1 HJ.out.1.symm]; rfl, HJ.out.2⟩
          · go_wp2_with fail
            go_roundg (N - (i + 1))
            case measure => omega
            case rel => exact ⟨i + 1, rfl, by omega, by go_num, by rw [allD_next HI.out.1, HI.out.2.1, ← HJ.out.1]; rfl, HJ.out.2⟩
    · obtain rfl : N = i := by omega
      have r1 : ¬ (N : Int) < (N : Int) := by omega
      rw [List.take_of_length_le (by have := H.out.2.2.2.1; omega)] at hal
      have HI : Hid _ := And.intro hal hbI
      clear hal hbI hp1
      go_wp2_with fail
      go_ret
      exact ⟨by rw [H.out.2.2.2.2.2, HI.out.1]; rfl, HI.out.2⟩
end
section
open Go.RowKit Go.Maps
attribute [local go_sem ↓] Go.wp_at_zero Go.wp_at_succ
theorem els_step (S : Nat → Bool) (i : Nat) : Br.els S (i + 1) = if S i = true then Br.els S i ++ [i] else Br.els S i := by
  unfold Br.els
  rw [List.range_succ, List.filter_append]
  by_cases h : S i = true <;> simp [h]
theorem els_len (S : Nat → Bool) (i : Nat) : (Br.els S i).length ≤ i := by
  unfold Br.els
  have := List.length_filter_le S (List.range i)
  rw [List.length_range] at this
  exact this
set_option linter.unusedSimpArgs false in
set_option maxRecDepth 100000 in
set_option maxHeartbeats 4000000 in
theorem docRow_any (b m : Nat) (S : Nat → Bool) (w : World) (hL : ∀ q, q < m → w.cell? ⟨b, q, none⟩ = some (.bool (S q))) (hm : m ≤ 100000) :
    Calls Tryz.prog 14 #[.slice (some ⟨b, 0, none⟩) m m] w fun r w' => ∃ u, r = .returned u ∧ OwnI w' w.heap.size u (natI (Br.els S m)) ∧ Below w.heap.size w w' := by
  obtain ⟨i0, hi0, hz0, hz1, hz2⟩ := info_parts Tryz.infoI4
  have H : Hid _ := And.intro hL trivial
  clear hL
  go_enter Tryz.func14, Tryz.ntmps14
  go_wp2_with fail
  go_loopg [3, 4] m (fun z lv iv wr => ∃ i : Nat, z = m - i ∧ i ≤ m ∧ iv = .int .i64 i ∧ OwnI wr w.heap.size lv (natI (Br.els S i)) ∧ Below w.heap.size w wr)
  case atStart => exact ⟨0, rfl, Nat.zero_le _, rfl, World.ownsRow_nil _ _ _ _, Below.refl _ _⟩
  case round =>
    obtain ⟨i, rfl, hi, rfl, hO, hb⟩ := hrel
    obtain ⟨al, cl, rfl⟩ := row_shape hO
    obtain ⟨N, hN⟩ : ∃ N, N = (natI (Br.els S i)).length := ⟨_, rfl⟩
    rw [← hN]
    have hO2 : wr.ownsRow w.heap.size 3 1 (.slice al N cl) N (iC (natI (Br.els S i))) := by
      have h1 := hO
      unfold OwnI at h1
      rw [← hN] at h1
      exact h1
    have hNi : N ≤ i := by
      have := els_len S i
      rw [show (natI (Br.els S i)).length = (Br.els S i).length by simp [natI]] at hN
      omega
    have HO : Hid _ := And.intro hO2 (And.intro hb (And.intro hN hO))
    clear hO hO2 hb hN
    by_cases hlt : i < m
    · have q0 : (0 : Int) ≤ (i : Int) := by omega
      have q1 : (i : Int) < (m : Int) := by omega
      have c0 := cell_up (H.out.1 i hlt) HO.out.2.1
      obtain ⟨sb, hsb⟩ : ∃ sb, sb = S i := ⟨_, rfl⟩
      rw [← hsb] at c0
      have hml : N + 1 ≤ maxLen := by unfold maxLen; omega
      have hby : (N + 1) * 8 ≤ 140737488355328 := by omega
      have hle : w.heap.size ≤ (wr.alloc (.cells #[.int .i64 i] 3)).heap.size := by have := HO.out.2.1.size; rw [World.size_alloc]; omega
      have HS : Hid _ := hsb
      clear hsb
      cases sb
      · go_wp2_with fail
        go_roundg (m - (i + 1))
        case measure => omega
        case rel => exact ⟨i + 1, rfl, by omega, by go_num, by rw [els_step, ← HS.out, if_neg (by simp), HO.out.2.2.1]; exact HO.out.2.2.2, HO.out.2.1⟩
      · go_wp2_with (at_builtin; refine wpList_append_own_at _ rfl _ _ 50 rfl w.heap.size 3 i0 (.int .i64 0) 1 8 Tryz.underlying50 hi0 hz0 hz1 hz2 rfl (by decide) (.slice al N cl) N (iC (natI (Br.els S i))) rfl (HO.out.1.alloc _) ⟨wr.heap.size, 0, none⟩ 1 1 [.int .i64 i] rfl rfl (World.news_of_block (cs := #[.int .i64 i]) (t := 3) (fr := (0, 0)) (heap_alloc_new wr _)) (by simp [Value.oneCell']) hml hby hle ?_; intro v2 w2 hO2 hg2 hnil2 hat2; have hk2 := grown_alloc hg2; have H2 : Hid _ := And.intro hO2 hk2; clear hO2 hg2 hk2 hnil2 hat2)
        go_roundg (m - (i + 1))
        case measure => omega
        case rel =>
          refine ⟨i + 1, rfl, by omega, by go_num, ?_, HO.out.2.1.trans (H2.out.2.below HO.out.2.1.size fun x hx => (HO.out.1.lt x hx).1)⟩
          rw [els_step, ← HS.out, if_pos rfl]
          unfold OwnI
          have e1 : natI (Br.els S i ++ [i]) = natI (Br.els S i) ++ [(i : Int)] := by simp [natI]
          have e2 : iC (natI (Br.els S i) ++ [(i : Int)]) = iC (natI (Br.els S i)) ++ [.int .i64 i] := by simp [iC]
          rw [e1, List.length_append, List.length_singleton, ← HO.out.2.2.1, e2]
          exact H2.out.1
    · obtain rfl : m = i := by omega
      have q1 : ¬ (m : Int) < (m : Int) := by omega
      go_wp2_with fail
      go_ret
      exact ⟨_, rfl, by rw [HO.out.2.2.1]; exact HO.out.2.2.2, HO.out.2.1⟩
end
section
open Go.RowKit Go.Maps
attribute [local go_sem ↓] Go.wp_at_zero Go.wp_at_succ
def lightM (n : Int) (m : Nat) (ok : Bool) : Bool := decide (n ≤ 30) && decide (m ≤ 200) || (!ok || decide (300 < n)) && decide (m ≤ 11000)
set_option linter.unusedSimpArgs false in
set_option maxRecDepth 100000 in
set_option maxHeartbeats 8000000 in
theorem lightM_any (n k s : Int) (v : Value) (es : List Sy.Ed) (w : World) (hv : BEdges.Has w v es) :
    Calls Tryz.prog 4 #[sysV n k s v] w fun e w' => e = .returned (.bool (lightM n es.length (Sy.right n k s es))) ∧ Below w.heap.size w w' := by
  obtain ⟨w1, hw1⟩ : ∃ w1, w1 = w.alloc (.cells #[.int .i64 n, .int .i64 k, .int .i64 s, v] 24) := ⟨_, rfl⟩
  have hb1 : Below w.heap.size w w1 := by rw [hw1]; exact (Below.refl _ _).alloc (Nat.le_refl _) _
  have hg1 : w1.heap[w.heap.size]? = some (.cells #[.int .i64 n, .int .i64 k, .int .i64 s, v] 24 (0, 0)) := by rw [hw1]; exact heap_alloc_new w _
  have hR := right_any n k s v es w1 (hv.below hb1)
  obtain ⟨ok, hok⟩ : ∃ ok, ok = Sy.right n k s es := ⟨_, rfl⟩
  obtain ⟨m, hm⟩ : ∃ m, m = es.length := ⟨_, rfl⟩
  obtain ⟨ao, cap, rfl, _⟩ := hv
  rw [← hok] at hR ⊢
  rw [← hm] at hR hw1 hg1 ⊢
  have H1 : Hid _ := And.intro hR (And.intro hb1 (And.intro hw1 hg1))
  obtain ⟨x0, x1, x2, x3⟩ := four_cells9 hg1
  clear hR hb1 hw1 hok hm hg1
  unfold sysV at H1 ⊢
  by_cases h1 : n ≤ 30
  · by_cases h2 : m ≤ 200
    · have e1 : decide (n ≤ 30) = true := decide_eq_true h1
      have e3 : decide ((m : Int) ≤ 200) = true := by simp; omega
      have e4 : lightM n m ok = true := by unfold lightM; simp; omega
      rw [e4]
      clear e4
      go_enter Tryz.func4, Tryz.ntmps4
      go_upto_region 1 with fail
      rw [← H1.out.2.2.1]
      go_wp2_with fail
      go_ret
      exact ⟨rfl, H1.out.2.1⟩
    · skip
      cases ok
      · by_cases h4 : m ≤ 11000
        · have e1 : decide (n ≤ 30) = true := decide_eq_true h1
          have e3 : decide ((m : Int) ≤ 200) = false := by simp; omega
          have e6 : decide ((m : Int) ≤ 11000) = true := by simp; omega
          have e4 : lightM n m false = true := by unfold lightM; simp; omega
          rw [e4]
          clear e4
          go_enter Tryz.func4, Tryz.ntmps4
          go_upto_region 1 with fail
          rw [← H1.out.2.2.1]
          go_wp2_with (go_at_call 21; refine Calls.mono H1.out.1 ?_; rintro r w2 ⟨rfl, hb2⟩; have y0 := cell_up x0 hb2; have y3 := cell_up x3 hb2; have HB : Hid (Below w1.heap.size w1 w2) := hb2; clear hb2)
          go_ret
          exact ⟨rfl, H1.out.2.1.trans (HB.out.mono H1.out.2.1.size)⟩
        · have e1 : decide (n ≤ 30) = true := decide_eq_true h1
          have e3 : decide ((m : Int) ≤ 200) = false := by simp; omega
          have e6 : decide ((m : Int) ≤ 11000) = false := by simp; omega
          have e4 : lightM n m false = false := by unfold lightM; simp; omega
          rw [e4]
          clear e4
          go_enter Tryz.func4, Tryz.ntmps4
          go_upto_region 1 with fail
          rw [← H1.out.2.2.1]
          go_wp2_with (go_at_call 21; refine Calls.mono H1.out.1 ?_; rintro r w2 ⟨rfl, hb2⟩; have y0 := cell_up x0 hb2; have y3 := cell_up x3 hb2; have HB : Hid (Below w1.heap.size w1 w2) := hb2; clear hb2)
          go_ret
          exact ⟨rfl, H1.out.2.1.trans (HB.out.mono H1.out.2.1.size)⟩
      · by_cases h3 : 300 < n
        · omega
        · have e1 : decide (n ≤ 30) = true := decide_eq_true h1
          have e3 : decide ((m : Int) ≤ 200) = false := by simp; omega
          have e5 : decide (300 < n) = false := decide_eq_false h3
          have e4 : lightM n m true = false := by unfold lightM; simp; omega
          rw [e4]
          clear e4
          go_enter Tryz.func4, Tryz.ntmps4
          go_upto_region 1 with fail
          rw [← H1.out.2.2.1]
          go_wp2_with (go_at_call 21; refine Calls.mono H1.out.1 ?_; rintro r w2 ⟨rfl, hb2⟩; have y0 := cell_up x0 hb2; have y3 := cell_up x3 hb2; have HB : Hid (Below w1.heap.size w1 w2) := hb2; clear hb2)
          go_ret
          exact ⟨rfl, H1.out.2.1.trans (HB.out.mono H1.out.2.1.size)⟩
  · skip
    cases ok
    · by_cases h4 : m ≤ 11000
      · have e1 : decide (n ≤ 30) = false := decide_eq_false h1
        have e6 : decide ((m : Int) ≤ 11000) = true := by simp; omega
        have e4 : lightM n m false = true := by unfold lightM; simp; omega
        rw [e4]
        clear e4
        go_enter Tryz.func4, Tryz.ntmps4
        go_upto_region 1 with fail
        rw [← H1.out.2.2.1]
        go_wp2_with (go_at_call 21; refine Calls.mono H1.out.1 ?_; rintro r w2 ⟨rfl, hb2⟩; have y0 := cell_up x0 hb2; have y3 := cell_up x3 hb2; have HB : Hid (Below w1.heap.size w1 w2) := hb2; clear hb2)
        go_ret
        exact ⟨rfl, H1.out.2.1.trans (HB.out.mono H1.out.2.1.size)⟩
      · have e1 : decide (n ≤ 30) = false := decide_eq_false h1
        have e6 : decide ((m : Int) ≤ 11000) = false := by simp; omega
        have e4 : lightM n m false = false := by unfold lightM; simp; omega
        rw [e4]
        clear e4
        go_enter Tryz.func4, Tryz.ntmps4
        go_upto_region 1 with fail
        rw [← H1.out.2.2.1]
        go_wp2_with (go_at_call 21; refine Calls.mono H1.out.1 ?_; rintro r w2 ⟨rfl, hb2⟩; have y0 := cell_up x0 hb2; have y3 := cell_up x3 hb2; have HB : Hid (Below w1.heap.size w1 w2) := hb2; clear hb2)
        go_ret
        exact ⟨rfl, H1.out.2.1.trans (HB.out.mono H1.out.2.1.size)⟩
    · by_cases h3 : 300 < n
      · by_cases h4 : m ≤ 11000
        · have e1 : decide (n ≤ 30) = false := decide_eq_false h1
          have e5 : decide (300 < n) = true := decide_eq_true h3
          have e6 : decide ((m : Int) ≤ 11000) = true := by simp; omega
          have e4 : lightM n m true = true := by unfold lightM; simp; omega
          rw [e4]
          clear e4
          go_enter Tryz.func4, Tryz.ntmps4
          go_upto_region 1 with fail
          rw [← H1.out.2.2.1]
          go_wp2_with (go_at_call 21; refine Calls.mono H1.out.1 ?_; rintro r w2 ⟨rfl, hb2⟩; have y0 := cell_up x0 hb2; have y3 := cell_up x3 hb2; have HB : Hid (Below w1.heap.size w1 w2) := hb2; clear hb2)
          go_ret
          exact ⟨rfl, H1.out.2.1.trans (HB.out.mono H1.out.2.1.size)⟩
        · have e1 : decide (n ≤ 30) = false := decide_eq_false h1
          have e5 : decide (300 < n) = true := decide_eq_true h3
          have e6 : decide ((m : Int) ≤ 11000) = false := by simp; omega
          have e4 : lightM n m true = false := by unfold lightM; simp; omega
          rw [e4]
          clear e4
          go_enter Tryz.func4, Tryz.ntmps4
          go_upto_region 1 with fail
          rw [← H1.out.2.2.1]
          go_wp2_with (go_at_call 21; refine Calls.mono H1.out.1 ?_; rintro r w2 ⟨rfl, hb2⟩; have y0 := cell_up x0 hb2; have y3 := cell_up x3 hb2; have HB : Hid (Below w1.heap.size w1 w2) := hb2; clear hb2)
          go_ret
          exact ⟨rfl, H1.out.2.1.trans (HB.out.mono H1.out.2.1.size)⟩
      · have e1 : decide (n ≤ 30) = false := decide_eq_false h1
        have e5 : decide (300 < n) = false := decide_eq_false h3
        have e4 : lightM n m true = false := by unfold lightM; simp; omega
        rw [e4]
        clear e4
        go_enter Tryz.func4, Tryz.ntmps4
        go_upto_region 1 with fail
        rw [← H1.out.2.2.1]
        go_wp2_with (go_at_call 21; refine Calls.mono H1.out.1 ?_; rintro r w2 ⟨rfl, hb2⟩; have y0 := cell_up x0 hb2; have y3 := cell_up x3 hb2; have HB : Hid (Below w1.heap.size w1 w2) := hb2; clear hb2)
        go_ret
        exact ⟨rfl, H1.out.2.1.trans (HB.out.mono H1.out.2.1.size)⟩
end
section
open Go.RowKit Go.Maps
def stT (es : List Sy.Ed) (i : Nat) : List BSteps.El := Sy.steps (Sy.nf es) (i : Int)
theorem stT_mem {es : List Sy.Ed} {i : Nat} {a t : Int} : (a, t) ∈ stT es i ↔ ((i : Int), a, t) ∈ es := by
  unfold stT
  rw [Sy.steps_mem, Sy.nf_mem]
theorem allD_iff {n k s : Int} {es : List Sy.Ed} (hq : Sy.right n k s es = true) (X : Nat → Nat → Bool) (p q : Nat) : allD X (stT es p) (stT es q) = true ↔ ∀ a t : Nat, EE es p a t → ∃ u, EE es q a u ∧ X t u = true := by
  have hr := (right_parts hq).2.2.2.2.2
  unfold allD anyD
  rw [List.all_eq_true]
  constructor
  · intro h a t ht
    have h1 := h ((a : Int), (t : Int)) (stT_mem.2 ht)
    rw [List.any_eq_true] at h1
    obtain ⟨⟨y1, y2⟩, hy, h2⟩ := h1
    simp only [Bool.and_eq_true, beq_iff_eq, Int.toNat_natCast] at h2
    obtain ⟨rfl, h3⟩ := h2
    have h4 := stT_mem.1 hy
    have h5 := hr _ h4
    simp only at h5
    refine ⟨y2.toNat, ?_, h3⟩
    unfold EE
    rw [show ((y2.toNat : Nat) : Int) = y2 by omega]
    exact h4
  · rintro h ⟨z1, z2⟩ hz
    have h4 := stT_mem.1 hz
    have h5 := hr _ h4
    simp only at h5
    obtain ⟨u, hu, hx⟩ := h z1.toNat z2.toNat (by unfold EE; rw [show ((z1.toNat : Nat) : Int) = z1 by omega, show ((z2.toNat : Nat) : Int) = z2 by omega]; exact h4)
    rw [List.any_eq_true]
    unfold EE at hu
    rw [show ((z1.toNat : Nat) : Int) = z1 by omega] at hu
    exact ⟨(z1, (u : Int)), stT_mem.2 hu, by simpa using hx⟩
def muD (n : Nat) (X : Nat → Nat → Bool) : Nat := Sm.mu n X fun _ _ => false
def dropD (X : Nat → Nat → Bool) (p q : Nat) : Nat → Nat → Bool := upm X p fun z => X p z && !decide (z = q)
theorem dropD_at (X : Nat → Nat → Bool) (p q a b : Nat) : dropD X p q a b = (X a b && !(decide (a = p) && decide (b = q))) := by
  unfold dropD
  by_cases e : a = p
  · subst e; rw [upm_same]; simp
  · rw [upm_ne _ _ e]; simp [e]
theorem muD_drop {n p q : Nat} {X : Nat → Nat → Bool} (hp : p < n) (hq : q < n) (h : X p q = true) : muD n (dropD X p q) < muD n X := by
  have e1 : (p * n + q) / n = p := by rw [Nat.mul_comm, Nat.mul_add_div (by omega), Nat.div_eq_of_lt hq]; rfl
  have e2 : (p * n + q) % n = q := by rw [Nat.mul_comm, Nat.mul_add_mod]; exact Nat.mod_eq_of_lt hq
  unfold muD Sm.mu
  refine Sm.countP_lt _ _ _ (fun x _ h1 => ?_) (p * n + q) (List.mem_range.2 ?_) ?_ ?_
  · rw [dropD_at, Bool.or_false, Bool.and_eq_true] at h1
    rw [h1.1]; rfl
  · have : (p + 1) * n ≤ n * n := Nat.mul_le_mul_right _ hp
    rw [Nat.add_mul] at this; omega
  · simp only [e1, e2]; rw [dropD_at]; simp
  · simp only [e1, e2]; rw [h]; rfl
structure DAt (n : Nat) (es : List Sy.Ed) (X0 X : Nat → Nat → Bool) (G : Bool) (p q : Nat) : Prop where
  sims : ∀ a b, a < n → b < n → Sm.Sims (EE es) a b → X a b = true
  yes : G = true → muD n X < muD n X0
  no : G = false → X = X0 ∧ ∀ a b, a < n → b < n → (a < p ∨ a = p ∧ b < q) → X a b = true → allD X (stT es a) (stT es b) = true
theorem DAt.start {n : Nat} {es : List Sy.Ed} {X : Nat → Nat → Bool} (h : ∀ a b, a < n → b < n → Sm.Sims (EE es) a b → X a b = true) : DAt n es X X false 0 0 := ⟨h, (fun e => by cases e), fun _ => ⟨rfl, fun a b _ _ h => by omega⟩⟩
theorem DAt.skip {n p q : Nat} {es : List Sy.Ed} {X0 X : Nat → Nat → Bool} {G : Bool} (h : DAt n es X0 X G p q) (hX : X p q = false) : DAt n es X0 X G p (q + 1) := ⟨h.sims, h.yes, fun e => ⟨(h.no e).1, fun a b ha hb hd hx => by
  rcases hd with hd | ⟨rfl, hd⟩
  · exact (h.no e).2 a b ha hb (.inl hd) hx
  · by_cases e2 : b = q
    · subst e2; rw [hX] at hx; cases hx
    · exact (h.no e).2 a b ha hb (.inr ⟨rfl, by omega⟩) hx⟩⟩
theorem DAt.met {n p q : Nat} {es : List Sy.Ed} {X0 X : Nat → Nat → Bool} {G : Bool} (h : DAt n es X0 X G p q) (hm : allD X (stT es p) (stT es q) = true) : DAt n es X0 X G p (q + 1) := ⟨h.sims, h.yes, fun e => ⟨(h.no e).1, fun a b ha hb hd hx => by
  rcases hd with hd | ⟨rfl, hd⟩
  · exact (h.no e).2 a b ha hb (.inl hd) hx
  · by_cases e2 : b = q
    · subst e2; exact hm
    · exact (h.no e).2 a b ha hb (.inr ⟨rfl, by omega⟩) hx⟩⟩
theorem DAt.gone {n p q : Nat} {k s : Int} {es : List Sy.Ed} {X0 X : Nat → Nat → Bool} {G : Bool} (hr : Sy.right n k s es = true) (h : DAt n es X0 X G p q) (hp : p < n) (hq : q < n) (hX : X p q = true) (hm : allD X (stT es p) (stT es q) = false) : DAt n es X0 (dropD X p q) true p (q + 1) := by
  have h1 := muD_drop hp hq hX
  refine ⟨fun a b ha hb hs => ?_, fun _ => ?_, fun e => by cases e⟩
  · rw [dropD_at, h.sims a b ha hb hs, Bool.true_and]
    by_cases e : a = p ∧ b = q
    · obtain ⟨rfl, rfl⟩ := e
      have h2 := (allD_iff hr X a b).2 fun l t ht => by
        obtain ⟨u, hu, h3⟩ := (Sm.sims_iff _ a b).1 hs l t ht
        have h4 := (right_parts hr).2.2.2.2.2 _ ht
        have h5 := (right_parts hr).2.2.2.2.2 _ hu
        simp only at h4 h5
        exact ⟨u, hu, h.sims t u (by omega) (by omega) h3⟩
      rw [h2] at hm; cases hm
    · by_cases e1 : a = p <;> by_cases e2 : b = q <;> simp [e1, e2] <;> exact e ⟨e1, e2⟩
  · cases hG : G with
    | true => have := h.yes hG; omega
    | false => rw [← (h.no hG).1]; exact h1
theorem DAt.next {n p : Nat} {es : List Sy.Ed} {X0 X : Nat → Nat → Bool} {G : Bool} (h : DAt n es X0 X G p n) : DAt n es X0 X G (p + 1) 0 := ⟨h.sims, h.yes, fun e => ⟨(h.no e).1, fun a b ha hb hd hx => (h.no e).2 a b ha hb (by omega) hx⟩⟩
def ClosedD (n : Nat) (es : List Sy.Ed) (X : Nat → Nat → Bool) : Prop := ∀ a b, a < n → b < n → X a b = true → allD X (stT es a) (stT es b) = true
theorem closed_sims {n : Nat} {k s : Int} {es : List Sy.Ed} {X : Nat → Nat → Bool} (hr : Sy.right n k s es = true) (h : ∀ a b, a < n → b < n → Sm.Sims (EE es) a b → X a b = true) (hc : ClosedD n es X) {p q : Nat} (hp : p < n) (hq : q < n) : X p q = simB (EE es) p q := by
  rw [Bool.eq_iff_iff, simB_iff]
  refine ⟨fun hx => ⟨fun a b => a < n ∧ b < n ∧ X a b = true, ?_, hp, hq, hx⟩, h p q hp hq⟩
  rintro a b ⟨ha, hb, hx⟩ l t ht
  obtain ⟨u, hu, h3⟩ := (allD_iff hr X a b).1 (hc a b ha hb hx) l t ht
  have h4 := (right_parts hr).2.2.2.2.2 _ ht
  have h5 := (right_parts hr).2.2.2.2.2 _ hu
  simp only at h4 h5
  exact ⟨u, hu, by omega, by omega, h3⟩
theorem MxAt.drop {w wr : World} {n g p q i : Nat} {b : Nat → Nat} {X : Nat → Nat → Bool} (h : MxAt w wr n g b X i) (hp : p < i) : MxAt w (wr.setCell ⟨b p, q, none⟩ (.bool false)) n g b (dropD X p q) i := by
  have hr := h.row p hp
  refine ⟨h.lst.other (fun e => list_list_ne hr h.lst (by decide) e.symm), fun x hx => ?_, h.ug, h.ur, h.inj, h.bl.trans ((Kept.setCell wr (b p) q _).below h.bl.size fun i hi => by have := h.ur p hp; omega)⟩
  unfold dropD
  by_cases e : x = p
  · subst e
    rw [upm_same]
    refine (hr.put _).congr fun z _ => ?_
    show (if z = q then _ else _) = _
    by_cases e2 : z = q <;> simp [e2]
  · rw [upm_ne _ _ e]
    exact (h.row x hx).other (h.inj x p hx hp e)
structure InT (w wr : World) (m i : Nat) (v : Value) (b : Nat → Nat) : Prop where
  own : wr.ownsRow w.heap.size 57 1 v i ((List.range i).map fun p => Value.slice (some ⟨b p, 0, none⟩) m m)
  row : ∀ p, p < i → ListAt 4 wr (b p) m fun _ => .bool true
  ur : ∀ p, p < i → w.heap.size ≤ b p
  inj : ∀ p q, p < i → q < i → p ≠ q → b p ≠ b q
  bl : Below w.heap.size w wr
theorem InT.below {w wr w' : World} {m i : Nat} {v : Value} {b : Nat → Nat} (h : InT w wr m i v b) (hb : Below wr.heap.size wr w') : InT w w' m i v b :=
  ⟨trow_at h.own fun x hx => hb.block x (h.own.lt x hx).2, fun p hp => (h.row p hp).below hb, h.ur, h.inj, h.bl.trans (hb.mono h.bl.size)⟩
theorem InT.next {w wr wq w8 : World} {m i : Nat} {v v' : Value} {b : Nat → Nat} (h : InT w wr m i v b) (hb : Below wr.heap.size wr wq) (hL : ListAt 4 wq wr.heap.size m fun _ => .bool true) (hO : w8.ownsRow w.heap.size 57 1 v' (i + 1) (((List.range i).map fun p => Value.slice (some ⟨b p, 0, none⟩) m m) ++ [.slice (some ⟨wr.heap.size, 0, none⟩) m m])) (hk : Kept (fun x => v.ownBlock = some x) wq w8) : InT w w8 m (i + 1) v' (upm b i wr.heap.size) := by
  have hq := h.below hb
  have hne : ∀ {x : Nat} {f : Nat → Value}, ListAt 4 wq x m f → ¬ v.ownBlock = some x := fun hx => by
    obtain ⟨cs, hc, _⟩ := hx
    exact own_bk hq.own hc (by decide)
  have hlt : ∀ p, p < i → b p < wr.heap.size := fun p hp => (h.row p hp).lt
  refine ⟨?_, fun p hp => ?_, fun p hp => ?_, fun p q hp hq2 hpq => ?_, hq.bl.trans (hk.below hq.bl.size fun x hx => (hq.own.lt x hx).1)⟩
  · have e : ((List.range (i + 1)).map fun p => Value.slice (some ⟨upm b i wr.heap.size p, 0, none⟩) m m) = ((List.range i).map fun p => Value.slice (some ⟨b p, 0, none⟩) m m) ++ [.slice (some ⟨wr.heap.size, 0, none⟩) m m] := by
      rw [List.range_succ, List.map_append, List.map_singleton, upm_same]
      congr 1
      exact List.map_congr_left fun p hp => by rw [upm_ne _ _ (by have := List.mem_range.1 hp; omega)]
    rw [e]
    exact hO
  · by_cases e : p = i
    · subst e; rw [upm_same]; exact hL.kept hk (hne hL)
    · rw [upm_ne _ _ e]; exact (hq.row p (by omega)).kept hk (hne (hq.row p (by omega)))
  · by_cases e : p = i
    · subst e; rw [upm_same]; exact h.bl.size
    · rw [upm_ne _ _ e]; exact h.ur p (by omega)
  · by_cases e : p = i
    · subst e; rw [upm_same, upm_ne _ _ fun e => hpq e.symm]; have := hlt q (by omega); omega
    · rw [upm_ne _ _ e]
      by_cases e2 : q = i
      · subst e2; rw [upm_same]; have := hlt p (by omega); omega
      · rw [upm_ne _ _ e2]; exact h.inj p q (by omega) (by omega) hpq
theorem InT.mx {w wr : World} {m : Nat} {v : Value} {b : Nat → Nat} (h : InT w wr m m v b) (hm : 0 < m) : ∃ g c, v = .slice (some ⟨g, 0, none⟩) m c ∧ MxAt w wr m g b (fun _ _ => true) m := by
  rcases h.own.2 with ⟨_, h0⟩ | ⟨g, c, cur, rfl, hg, hcur, _, _, _, ht⟩
  · omega
  refine ⟨g, c, rfl, ⟨cur, hcur, fun p hp => ?_⟩, h.row, hg, h.ur, h.inj, h.bl⟩
  have h1 := congrArg (fun l : List Value => l[p]?) ht
  simp only [Nat.mul_one] at h1
  rw [List.getElem?_take_of_lt hp, List.getElem?_map, List.getElem?_range hp, Array.getElem?_toList] at h1
  rw [h1]
  simp [hp]
end
end Go.Proofs.YtibdgefjpcebkaaGreatDoor
