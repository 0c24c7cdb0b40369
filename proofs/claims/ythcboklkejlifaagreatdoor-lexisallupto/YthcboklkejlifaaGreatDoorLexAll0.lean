/- A book with lists of words and of lines, made since a world: what stands while it takes lists; the book's Line. -/
import Derived.Test.YthcboklkejlifaaGreatDoorBookApTL
import Derived.Test.YthcboklkejlifaaGreatDoorScans0
import Derived.Test.YthcboklkejlifaaGreatDoorLines
import Derived.Deep.DeepCutAuto
namespace Go.Proofs.YthcboklkejlifaaGreatDoor
open Go.RowKit Go.Maps
attribute [local go_sem ↓] Go.wp_at_zero Go.wp_at_succ
def bookZ : Array Value := Array.replicate 22 (.slice none 0 0)
def zE (z : ZTok) : BTokens.El := (z.kind, z.text, z.line, z.col)
theorem zs_C (zs : List ZTok) : zsCells zs = BTokens.C (zs.map zE) := by
  unfold zsCells BTokens.C
  induction zs with
  | nil => rfl
  | cons z r ih => rw [List.map_cons, List.flatten_cons, ih, List.map_cons, List.flatMap_cons]; rfl
theorem toks_C (ts : List Tok) : toksCells ts = zsCells (ts.map toZ) := by
  unfold toksCells zsCells
  rw [List.map_map]
  rfl
theorem own_zs {w : World} {B : Nat} {v : Value} {zs : List ZTok} (h : w.ownsRow B 57 4 v zs.length (zsCells zs)) : BTokens.Own w B v (zs.map zE) := by
  unfold BTokens.Own
  rw [List.length_map, ← zs_C]
  exact h
theorem zs_own {w : World} {B : Nat} {v : Value} {zs : List ZTok} (h : BTokens.Own w B v (zs.map zE)) : w.ownsRow B 57 4 v zs.length (zsCells zs) := by
  unfold BTokens.Own at h
  rw [List.length_map, ← zs_C] at h
  exact h
/-- The book. P, Q: where its lists of words, of lines lie; X: blocks that no row of its lists of words uses. -/
structure WT (wB wr : World) (P Q X : Nat → Prop) (vt vu : Value) (lt wt : List Value) (tss : List (List BTokens.El)) (vl vm : Value) (ll wl : List Value) (lss : List (List BLines.El)) : Prop where
  bt : BTokens.Bs wr wB.heap.size vt vu lt wt tss
  bl : BLines.Bs wr wB.heap.size vl vm ll wl lss
  ro : ∀ us ∈ lss, ∀ z ∈ us, ∃ zs, zs.length ≤ 1000000 ∧ BTokens.Own wr 0 (BLines.sl z) zs
  ot : ApTL.Oth wr wB.heap.size
  bw : Below wB.heap.size wB wr
  rt : ∀ b, (vt.ownBlock = some b ∨ vu.ownBlock = some b) → wB.heap.size ≤ b
  rl : ∀ b, (vl.ownBlock = some b ∨ vm.ownBlock = some b) → wB.heap.size ≤ b
  ht : ∀ l ∈ lt, ∀ b, l.ownBlock = some b → wB.heap.size ≤ b ∧ P b
  hl : ∀ l ∈ ll, ∀ b, l.ownBlock = some b → wB.heap.size ≤ b ∧ Q b
  x : ∀ b, X b → b < wr.heap.size ∧ vt.ownBlock ≠ some b ∧ vu.ownBlock ≠ some b
  xl : ∀ l, (l ∈ ll ∨ l ∈ wl) → ∀ b, l.ownBlock = some b → X b
def WTE (wB wr : World) (P Q X : Nat → Prop) : Prop := ∃ vt vu lt wt tss vl vm ll wl lss, WT wB wr P Q X vt vu lt wt tss vl vm ll wl lss
theorem WTE.mono {wB wr : World} {P Q X P' Q' : Nat → Prop} (h : WTE wB wr P Q X) (h1 : ∀ b, b < wr.heap.size → P b → P' b) (h2 : ∀ b, b < wr.heap.size → Q b → Q' b) : WTE wB wr P' Q' X := by
  obtain ⟨vt, vu, lt, wt, tss, vl, vm, ll, wl, lss, h⟩ := h
  refine ⟨vt, vu, lt, wt, tss, vl, vm, ll, wl, lss, h.bt, h.bl, h.ro, h.ot, h.bw, h.rt, h.rl, fun l hl b hb => ⟨(h.ht l hl b hb).1, h1 b (BTokens.Bp.lsf_lt h.bt.p ⟨l, hl, hb⟩) (h.ht l hl b hb).2⟩, fun l hl b hb => ⟨(h.hl l hl b hb).1, h2 b (BLines.Bp.lsf_lt h.bl.p ⟨l, hl, hb⟩) (h.hl l hl b hb).2⟩, h.x, h.xl⟩
theorem WTE.below {wB wr w' : World} {P Q X : Nat → Prop} (h : WTE wB wr P Q X) (hb : Below wr.heap.size wr w') : WTE wB w' P Q X := by
  obtain ⟨vt, vu, lt, wt, tss, vl, vm, ll, wl, lss, h⟩ := h
  refine ⟨vt, vu, lt, wt, tss, vl, vm, ll, wl, lss, h.bt.below hb, h.bl.below hb, fun us hu z hz => ?_, h.ot.below hb, h.bw.trans (hb.mono h.bw.size), h.rt, h.rl, h.ht, h.hl, fun b hx => ⟨by have := (h.x b hx).1; have := hb.size; omega, (h.x b hx).2⟩, h.xl⟩
  obtain ⟨zs, h1, h2⟩ := h.ro us hu z hz
  exact ⟨zs, h1, trow_at h2 fun i hi => hb.block i (h2.lt i hi).2⟩
theorem WTE.bw {wB wr : World} {P Q X : Nat → Prop} (h : WTE wB wr P Q X) : Below wB.heap.size wB wr := by
  obtain ⟨vt, vu, lt, wt, tss, vl, vm, ll, wl, lss, h⟩ := h
  exact h.bw
/-- Blocks that came since are none that the book's rows use. -/
theorem WTE.more {wB wr w' : World} {P Q X : Nat → Prop} (h : WTE wB wr P Q X) (hb : Below wr.heap.size wr w') {Y : Nat → Prop} (hY : ∀ b, Y b → wr.heap.size ≤ b ∧ b < w'.heap.size) : WTE wB w' P Q (fun b => X b ∨ Y b) := by
  obtain ⟨vt, vu, lt, wt, tss, vl, vm, ll, wl, lss, h⟩ := h
  refine ⟨vt, vu, lt, wt, tss, vl, vm, ll, wl, lss, h.bt.below hb, h.bl.below hb, fun us hu z hz => ?_, h.ot.below hb, h.bw.trans (hb.mono h.bw.size), h.rt, h.rl, h.ht, h.hl, fun b hx => ?_, fun l hl b hb => .inl (h.xl l hl b hb)⟩
  · obtain ⟨zs, h1, h2⟩ := h.ro us hu z hz
    exact ⟨zs, h1, trow_at h2 fun i hi => hb.block i (h2.lt i hi).2⟩
  · rcases hx with hx | hx
    · exact ⟨by have := (h.x b hx).1; have := hb.size; omega, (h.x b hx).2⟩
    · refine ⟨(hY b hx).2, fun e => ?_, fun e => ?_⟩
      · have := (h.bt.p.ri.lt b e).2; have := (hY b hx).1; omega
      · have := (h.bt.rw.lt b e).2; have := (hY b hx).1; omega
theorem wt_new (wB : World) : WTE wB (wB.alloc (.cells bookZ 37)) (fun _ => False) (fun _ => False) (fun _ => False) := by
  have h := (MapKept.heap_alloc wB (.cells bookZ 37)).1
  have hc : ∀ k, k < 22 → (wB.alloc (.cells bookZ 37)).cell? ⟨wB.heap.size, k, none⟩ = some (.slice none 0 0) := fun k hk => by
    have h2 : bookZ[k]? = some (.slice none 0 0) := by unfold bookZ; rw [Array.getElem?_replicate, if_pos hk]
    exact cell0_of h h2
  refine ⟨.slice none 0 0, .slice none 0 0, [], [], [], .slice none 0 0, .slice none 0 0, [], [], [], ?_, ?_, fun us hu => by simp at hu, ?_, (Below.refl _ _).alloc (Nat.le_refl _) _, fun b hb => by simp [Value.ownBlock] at hb, fun b hb => by simp [Value.ownBlock] at hb, fun l hl => by simp at hl, fun l hl => by simp at hl, fun b hb => hb.elim, fun l hl => by simp at hl⟩
  · exact ⟨⟨hc _ (by omega), World.ownsRow_nil _ _ _ _, fun k l zs h1 => by simp at h1, ⟨fun l hl => by simp at hl, fun l hl => by simp at hl, by simp [Value.ownBlock], fun i j l m hl => by simp at hl⟩, by simp, fun zs h => by simp at h⟩, hc _ (by omega), World.ownsRow_nil _ _ _ _, fun k l zs h1 => by simp at h1, ⟨_, h, by unfold bookZ; simp⟩, fun k hk => by simp [Value.ownBlock] at hk⟩
  · exact ⟨⟨hc _ (by omega), World.ownsRow_nil _ _ _ _, fun k l zs h1 => by simp at h1, ⟨fun l hl => by simp at hl, fun l hl => by simp at hl, by simp [Value.ownBlock], fun i j l m hl => by simp at hl⟩, by simp, fun zs h => by simp at h⟩, hc _ (by omega), World.ownsRow_nil _ _ _ _, fun k l zs h1 => by simp at h1, ⟨_, h, by unfold bookZ; simp⟩, fun k hk => by simp [Value.ownBlock] at hk⟩
  · exact ⟨hc _ (by omega), hc _ (by omega), hc _ (by omega), hc _ (by omega), hc _ (by omega), hc _ (by omega), hc _ (by omega), hc _ (by omega), hc _ (by omega)⟩
/-- Blocks of other types stand, and those of X. -/
def Fr (X : Nat → Prop) (w w' : World) : Prop := w.heap.size ≤ w'.heap.size ∧ ∀ (g : Nat) (cs : Array Value) (t : TypeId), w.heap[g]? = some (.cells cs t (0, 0)) → 37 ≠ t → 26 ≠ t → (38 ≠ t ∨ X g) → w'.heap[g]? = some (.cells cs t (0, 0))
theorem Fr.refl (X : Nat → Prop) (w : World) : Fr X w w := ⟨Nat.le_refl _, fun _ _ _ h _ _ _ => h⟩
theorem Fr.trans {X : Nat → Prop} {a b c : World} (h : Fr X a b) (k : Fr X b c) : Fr X a c := ⟨Nat.le_trans h.1 k.1, fun g cs t hg h1 h2 h3 => k.2 g cs t (h.2 g cs t hg h1 h2 h3) h1 h2 h3⟩
theorem Fr.of_below {X : Nat → Prop} {a b : World} (h : Below a.heap.size a b) : Fr X a b := ⟨h.size, fun g _ _ hg _ _ _ => (h.block g (t_lt hg)).trans hg⟩
theorem Fr.mono {X Y : Nat → Prop} {a b : World} (h : Fr X a b) (hx : ∀ g, Y g → X g) : Fr Y a b := ⟨h.1, fun g cs t hg h1 h2 h3 => h.2 g cs t hg h1 h2 (h3.imp_right (hx g))⟩
theorem Fr.toks {X : Nat → Prop} {w w' : World} (h : Fr X w w') {B : Nat} {v : Value} {n : Nat} {xs : List Value} (ho : w.ownsRow B 57 4 v n xs) : w'.ownsRow B 57 4 v n xs := trow_at ho fun i hi => by
  obtain ⟨c, hc⟩ := row_cells ho hi
  rw [hc]; exact h.2 i c _ hc (by decide) (by decide) (.inl (by decide))
theorem Fr.row {X : Nat → Prop} {w w' : World} (h : Fr X w w') {B : Nat} {v : Value} {n : Nat} {xs : List Value} (ho : w.ownsRow B 38 1 v n xs) (hx : ∀ b, v.ownBlock = some b → X b) : w'.ownsRow B 38 1 v n xs := trow_at ho fun i hi => by
  obtain ⟨c, hc⟩ := row_cells ho hi
  rw [hc]; exact h.2 i c _ hc (by decide) (by decide) (.inr (hx i hi))
theorem typed_bk {w : World} {bk g : Nat} {cs cs' : Array Value} {t u : TypeId} (h : w.heap[bk]? = some (.cells cs u (0, 0))) (hg : w.heap[g]? = some (.cells cs' t (0, 0))) (hne : u ≠ t) : g ≠ bk := fun e => by
  subst e
  rw [h] at hg
  injection hg with e
  injection e with _ e
  exact hne e
/-- One more list of words. -/
theorem WTE.tokens {wB wr : World} {P Q X : Nat → Prop} (h : WTE wB wr P Q X) (v : Value) (zs : List BTokens.El) (B : Nat) (hO : BTokens.Own wr B v zs) (hB : wB.heap.size ≤ B) (hv : ∀ b, v.ownBlock = some b → ¬ P b) (hsz : zs.length ≤ 1000000) :
    Calls Tryz.prog 11 #[.pointer (some ⟨wB.heap.size, 0, none⟩), v] wr fun r w' => r = .returned (.tuple #[]) ∧ WTE wB w' (fun b => P b ∨ v.ownBlock = some b) Q X ∧ Fr X wr w' := by
  obtain ⟨vt, vu, lt, wt, tss, vl, vm, ll, wl, lss, h⟩ := h
  have hO0 : BTokens.Own wr 0 v zs := row_base hO (Nat.zero_le _)
  by_cases hlen : tss.length < 400
  · refine (BTokens.ints_any wB.heap.size vt vu v lt wt tss zs wr h.bt hO0 (fun l hl q hq e => hv q e (h.ht l hl q hq).2) hlen hsz).mono ?_
    rintro r w' ⟨rfl, vi', vw', v1, hN⟩
    have hup : ∀ b, (b = wB.heap.size ∨ vt.ownBlock = some b ∨ vu.ownBlock = some b) → wB.heap.size ≤ b := fun b hb => by
      rcases hb with rfl | hb
      · exact Nat.le_refl _
      · exact h.rt b hb
    obtain ⟨cs0, hc0, _⟩ := h.bt.bt
    have hFr : Fr X wr w' := ⟨hN.k.size, fun g cs t hg h1 h2 h3 => by
      refine (hN.k.block g (t_lt hg) fun hf => ?_).trans hg
      rcases hf with hf | hf | hf
      · exact typed_bk hc0 hg h1 hf
      · rcases h3 with h3 | h3
        · exact own_bk h.bt.p.ri hg h3 hf
        · exact (h.x g h3).2.1 hf
      · rcases h3 with h3 | h3
        · exact own_bk h.bt.rw hg h3 hf
        · exact (h.x g h3).2.2 hf⟩
    have hxF : ∀ l, (l ∈ ll ∨ l ∈ wl) → ∀ b, l.ownBlock = some b → ¬ (b = wB.heap.size ∨ vt.ownBlock = some b ∨ vu.ownBlock = some b) := fun l hl b hb hf => by
      have hx := h.x b (h.xl l hl b hb)
      rcases hf with rfl | hf | hf
      · rcases hl with hl | hl
        · obtain ⟨k, hk, rfl⟩ := List.getElem_of_mem hl
          have hz : lss[k]? = some (lss[k]'(by rw [← h.bl.p.ll]; exact hk)) := List.getElem?_eq_getElem _
          exact own_bk (h.bl.p.li k _ _ (List.getElem?_eq_getElem hk) hz) hc0 (by decide) hb
        · obtain ⟨k, hk, rfl⟩ := List.getElem_of_mem hl
          have hwl : wl.length = lss.length := by have := h.bl.rw.1; rw [Nat.mul_one] at this; exact this
          have hz : lss[k]? = some (lss[k]'(by rw [← hwl]; exact hk)) := List.getElem?_eq_getElem _
          exact own_bk (h.bl.lw k _ _ (List.getElem?_eq_getElem hk) hz) hc0 (by decide) hb
      · exact hx.2.1 hf
      · exact hx.2.2 hf
    refine ⟨rfl, ⟨vi', vw', _, _, _, vl, vm, ll, wl, lss, hN.b, ?_, fun us hu z hz => ?_, ?_, h.bw.trans (hN.k.below h.bw.size hup), fun b hb => ?_, h.rl, fun l hl b hb => ?_, h.hl, fun b hx => ⟨by have := (h.x b hx).1; have := hN.k.size; omega, fun e => ?_, fun e => ?_⟩, h.xl⟩, hFr⟩
    · refine h.bl.far hN.k (hN.o _ (by omega) (by omega)) (hN.o _ (by omega) (by omega)) hN.b.bt (fun b hb hf => ?_) (fun b hb hf => ?_) (fun l hl b hb => hxF l (.inl hl) b hb) (fun l hl b hb => hxF l (.inr hl) b hb)
      · rcases hf with rfl | hf | hf
        · exact own_bk h.bl.p.ri hc0 (by decide) hb
        · exact own_ne h.bl.p.ri h.bt.p.ri (by decide) b hb hf
        · exact own_ne h.bl.p.ri h.bt.rw (by decide) b hb hf
      · rcases hf with rfl | hf | hf
        · exact own_bk h.bl.rw hc0 (by decide) hb
        · exact own_ne h.bl.rw h.bt.p.ri (by decide) b hb hf
        · exact own_ne h.bl.rw h.bt.rw (by decide) b hb hf
    · obtain ⟨ys, h1, h2⟩ := h.ro us hu z hz
      exact ⟨ys, h1, hFr.toks h2⟩
    · exact ⟨(hN.o _ (by omega) (by omega)).trans h.ot.dInts, (hN.o _ (by omega) (by omega)).trans h.ot.dTexts, (hN.o _ (by omega) (by omega)).trans h.ot.dBools, (hN.o _ (by omega) (by omega)).trans h.ot.dSteps, (hN.o _ (by omega) (by omega)).trans h.ot.dEdges, (hN.o _ (by omega) (by omega)).trans h.ot.dNodes, (hN.o _ (by omega) (by omega)).trans h.ot.dPairs, (hN.o _ (by omega) (by omega)).trans h.ot.dRows, (hN.o _ (by omega) (by omega)).trans h.ot.dWalks⟩
    · rcases hN.f b hb with e | e
      · exact h.rt b e
      · have := h.bw.size; omega
    · rcases List.mem_append.1 hl with hl | hl
      · exact ⟨(h.ht l hl b hb).1, .inl (h.ht l hl b hb).2⟩
      · rw [List.mem_singleton.1 hl] at hb
        have := hO.lt b hb
        exact ⟨by omega, .inr hb⟩
    · rcases hN.f b (.inl e) with f | f
      · exact f.elim (h.x b hx).2.1 (h.x b hx).2.2
      · have := (h.x b hx).1; omega
    · rcases hN.f b (.inr e) with f | f
      · exact f.elim (h.x b hx).2.1 (h.x b hx).2.2
      · have := (h.x b hx).1; omega
  · refine (BTokens.ints_full wB.heap.size vt vu v lt wt tss wr h.bt hlen).mono ?_
    rintro r w' ⟨rfl, rfl⟩
    exact ⟨rfl, ⟨vt, vu, lt, wt, tss, vl, vm, ll, wl, lss, h.bt, h.bl, h.ro, h.ot, h.bw, h.rt, h.rl, fun l hl b hb => ⟨(h.ht l hl b hb).1, .inl (h.ht l hl b hb).2⟩, h.hl, h.x, h.xl⟩, Fr.refl _ _⟩
/-- One more list of lines. -/
theorem WTE.lines {wB wr : World} {P Q X : Nat → Prop} (h : WTE wB wr P Q X) (v : Value) (us : List BLines.El) (B : Nat) (hO : BLines.Own wr B v us) (hB : wB.heap.size ≤ B) (hv : ∀ b, v.ownBlock = some b → ¬ Q b) (hx : ∀ b, v.ownBlock = some b → X b) (hsz : us.length ≤ 1000000) (hr : ∀ z ∈ us, ∃ zs, zs.length ≤ 1000000 ∧ BTokens.Own wr 0 (BLines.sl z) zs) :
    Calls Tryz.prog 30 #[.pointer (some ⟨wB.heap.size, 0, none⟩), v] wr fun r w' => r = .returned (.tuple #[]) ∧ (∃ Y : Nat → Prop, WTE wB w' P (fun b => Q b ∨ v.ownBlock = some b) (fun b => X b ∨ Y b)) ∧ Fr X wr w' := by
  obtain ⟨vt, vu, lt, wt, tss, vl, vm, ll, wl, lss, h⟩ := h
  have hO0 : BLines.Own wr 0 v us := row_base hO (Nat.zero_le _)
  by_cases hlen : lss.length < 400
  · refine (BLines.ints_any wB.heap.size vl vm v ll wl lss us wr h.bl hO0 (fun l hl q hq e => hv q e (h.hl l hl q hq).2) hlen hsz).mono ?_
    rintro r w' ⟨rfl, vi', vw', v1, hN⟩
    have hup : ∀ b, (b = wB.heap.size ∨ vl.ownBlock = some b ∨ vm.ownBlock = some b) → wB.heap.size ≤ b := fun b hb => by
      rcases hb with rfl | hb
      · exact Nat.le_refl _
      · exact h.rl b hb
    obtain ⟨cs0, hc0, _⟩ := h.bl.bt
    have hFr : Fr X wr w' := ⟨hN.k.size, fun g cs t hg h1 h2 h3 => by
      refine (hN.k.block g (t_lt hg) fun hf => ?_).trans hg
      rcases hf with hf | hf | hf
      · exact typed_bk hc0 hg h1 hf
      · exact own_bk h.bl.p.ri hg h2 hf
      · exact own_bk h.bl.rw hg h2 hf⟩
    have hv1 : ∀ b, v1.ownBlock = some b → wr.heap.size ≤ b := hN.n
    have hv1' : ∀ b, v1.ownBlock = some b → b < w'.heap.size := fun b hb => by
      have hlw : wl.length = lss.length := by have := h.bl.rw.1; rw [Nat.mul_one] at this; exact this
      exact ((hN.b.lw lss.length v1 us (by rw [List.getElem?_append_right (by omega), hlw, Nat.sub_self]; rfl) (by rw [List.getElem?_append_right (Nat.le_refl _), Nat.sub_self]; rfl)).lt b hb).2
    refine ⟨rfl, ⟨fun b => v1.ownBlock = some b, vt, vu, lt, wt, tss, vi', vw', _, _, _, ?_, hN.b, fun xs hu z hz => ?_, ?_, h.bw.trans (hN.k.below h.bw.size hup), h.rt, fun b hb => ?_, h.ht, fun l hl b hb => ?_, fun b hx => ?_, fun l hl b hb => ?_⟩, hFr⟩
    · refine h.bt.other hN.k (hN.o _ (by omega) (by omega)) (hN.o _ (by omega) (by omega)) hN.b.bt fun b hb => ?_
      rcases hb with hb | hb | hb
      · exact .inl hb
      · exact .inr ⟨_, _, _, _, _, _, h.bl.p.ri, hb, by decide, by decide⟩
      · exact .inr ⟨_, _, _, _, _, _, h.bl.rw, hb, by decide, by decide⟩
    · rcases List.mem_append.1 hu with hu | hu
      · obtain ⟨ys, h1, h2⟩ := h.ro xs hu z hz
        exact ⟨ys, h1, hFr.toks h2⟩
      · rw [List.mem_singleton.1 hu] at hz
        obtain ⟨ys, h1, h2⟩ := hr z hz
        exact ⟨ys, h1, hFr.toks h2⟩
    · exact ⟨(hN.o _ (by omega) (by omega)).trans h.ot.dInts, (hN.o _ (by omega) (by omega)).trans h.ot.dTexts, (hN.o _ (by omega) (by omega)).trans h.ot.dBools, (hN.o _ (by omega) (by omega)).trans h.ot.dSteps, (hN.o _ (by omega) (by omega)).trans h.ot.dEdges, (hN.o _ (by omega) (by omega)).trans h.ot.dNodes, (hN.o _ (by omega) (by omega)).trans h.ot.dPairs, (hN.o _ (by omega) (by omega)).trans h.ot.dRows, (hN.o _ (by omega) (by omega)).trans h.ot.dWalks⟩
    · rcases hN.f b hb with e | e
      · exact h.rl b e
      · have := h.bw.size; omega
    · rcases List.mem_append.1 hl with hl | hl
      · exact ⟨(h.hl l hl b hb).1, .inl (h.hl l hl b hb).2⟩
      · rw [List.mem_singleton.1 hl] at hb
        have := hO.lt b hb
        exact ⟨by omega, .inr hb⟩
    · rcases hx with hx | hx
      · exact ⟨by have := (h.x b hx).1; have := hN.k.size; omega, (h.x b hx).2⟩
      · refine ⟨hv1' b hx, fun e => ?_, fun e => ?_⟩
        · have := (h.bt.p.ri.lt b e).2; have := hv1 b hx; omega
        · have := (h.bt.rw.lt b e).2; have := hv1 b hx; omega
    · rcases hl with hl | hl
      · rcases List.mem_append.1 hl with hl | hl
        · exact .inl (h.xl l (.inl hl) b hb)
        · rw [List.mem_singleton.1 hl] at hb; exact .inl (hx b hb)
      · rcases List.mem_append.1 hl with hl | hl
        · exact .inl (h.xl l (.inr hl) b hb)
        · rw [List.mem_singleton.1 hl] at hb; exact .inr hb
  · refine (BLines.ints_full wB.heap.size vl vm v ll wl lss wr h.bl hlen).mono ?_
    rintro r w' ⟨rfl, rfl⟩
    exact ⟨rfl, ⟨fun _ => False, vt, vu, lt, wt, tss, vl, vm, ll, wl, lss, h.bt, h.bl, h.ro, h.ot, h.bw, h.rt, h.rl, h.ht, fun l hl b hb => ⟨(h.hl l hl b hb).1, .inl (h.hl l hl b hb).2⟩, fun b hb => hb.elim (h.x b) (fun hf => hf.elim), fun l hl b hb => .inl (h.xl l hl b hb)⟩, Fr.refl _ _⟩
/-- The book's Apart. -/
theorem WTE.apart {wB wr : World} {P Q X : Nat → Prop} (h : WTE wB wr P Q X) :
    Calls Tryz.prog 14 #[.pointer (some ⟨wB.heap.size, 0, none⟩)] wr fun r w' => r = .returned (.bool true) ∧ Below wB.heap.size wB w' := by
  obtain ⟨vt, vu, lt, wt, tss, vl, vm, ll, wl, lss, h⟩ := h
  refine (ApTL.apart_any wB.heap.size vt vu lt wt tss vl vm ll wl lss wr h.bt h.bl (fun b hb ⟨l, hl, e⟩ => (h.x b (h.xl l (.inl hl) b e)).2.1 hb) (fun us hu z hz => ?_) h.ot).mono ?_
  · obtain ⟨zs, h1, h2⟩ := h.ro us hu z hz
    exact ⟨zs, h1, h2.has⟩
  rintro r w' ⟨rfl, hk⟩
  exact ⟨rfl, h.bw.trans (hk.below h.bw.size fun b hb => hb.elim (fun ⟨l, hl, e⟩ => (h.ht l hl b e).1) (fun ⟨l, hl, e⟩ => (h.hl l hl b e).1))⟩
end Go.Proofs.YthcboklkejlifaaGreatDoor
