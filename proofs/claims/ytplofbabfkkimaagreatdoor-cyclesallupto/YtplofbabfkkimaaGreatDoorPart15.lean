/- Texts of this claim, joined: BookWIE, SySmI, SyLent, TsLawC, SoPiv. -/
import Derived.Test.YtplofbabfkkimaaGreatDoorPart14
import Derived.Deep.DeepCutAuto
import Derived.Test.YtplofbabfkkimaaGreatDoorPart0
import Derived.Deep.QuietTactic
import Derived.BigQuiet
import Derived.Test.YtplofbabfkkimaaGreatDoorPart5
import Derived.Test.YtplofbabfkkimaaGreatDoorPart12
import Derived.Test.YtplofbabfkkimaaGreatDoorPart6
/- A book with lists of these kinds, made since a world: what stands while it takes lists: Ints, Edges. (Written by mkwb.py.) -/
namespace Go.Proofs.YtplofbabfkkimaaGreatDoor.WIE
open Go.RowKit Go.Maps
attribute [local go_sem ↓] Go.wp_at_zero Go.wp_at_succ
def bookZ : Array Value := Array.replicate 22 (.slice none 0 0)
structure St (wB wr : World) (PInts PEdges : Nat → Prop) (vInts uInts : Value) (lInts mInts : List Value) (zInts : List (List Int)) (vEdges uEdges : Value) (lEdges mEdges : List Value) (zEdges : List (List BEdges.El)) : Prop where
 bInts : Bs wr wB.heap.size vInts uInts lInts mInts zInts
 bEdges : BEdges.Bs wr wB.heap.size vEdges uEdges lEdges mEdges zEdges
 ot : ApIE.Oth wr wB.heap.size
 bw : Below wB.heap.size wB wr
 rInts : ∀ b, (vInts.ownBlock = some b ∨ uInts.ownBlock = some b) → wB.heap.size ≤ b
 hInts : ∀ l ∈ lInts, ∀ b, l.ownBlock = some b → wB.heap.size ≤ b ∧ PInts b
 rEdges : ∀ b, (vEdges.ownBlock = some b ∨ uEdges.ownBlock = some b) → wB.heap.size ≤ b
 hEdges : ∀ l ∈ lEdges, ∀ b, l.ownBlock = some b → wB.heap.size ≤ b ∧ PEdges b
def E (wB wr : World) (PInts PEdges : Nat → Prop) : Prop := ∃ vInts uInts lInts mInts zInts vEdges uEdges lEdges mEdges zEdges, St wB wr PInts PEdges vInts uInts lInts mInts zInts vEdges uEdges lEdges mEdges zEdges
theorem E.mono {wB wr : World} {PInts PEdges : Nat → Prop} {PInts' PEdges' : Nat → Prop} (h : E wB wr PInts PEdges) (qInts : ∀ b, b < wr.heap.size → PInts b → PInts' b) (qEdges : ∀ b, b < wr.heap.size → PEdges b → PEdges' b) : E wB wr PInts' PEdges' := by
 obtain ⟨vInts, uInts, lInts, mInts, zInts, vEdges, uEdges, lEdges, mEdges, zEdges, h⟩ := h
 exact ⟨vInts, uInts, lInts, mInts, zInts, vEdges, uEdges, lEdges, mEdges, zEdges, h.bInts, h.bEdges, h.ot, h.bw, h.rInts, fun l hl b hb => ⟨(h.hInts l hl b hb).1, qInts b (BInts.Bp.lsf_lt h.bInts.p ⟨l, hl, hb⟩) (h.hInts l hl b hb).2⟩, h.rEdges, fun l hl b hb => ⟨(h.hEdges l hl b hb).1, qEdges b (BEdges.Bp.lsf_lt h.bEdges.p ⟨l, hl, hb⟩) (h.hEdges l hl b hb).2⟩⟩
theorem E.below {wB wr w' : World} {PInts PEdges : Nat → Prop} (h : E wB wr PInts PEdges) (hb : Below wr.heap.size wr w') : E wB w' PInts PEdges := by
 obtain ⟨vInts, uInts, lInts, mInts, zInts, vEdges, uEdges, lEdges, mEdges, zEdges, h⟩ := h
 exact ⟨vInts, uInts, lInts, mInts, zInts, vEdges, uEdges, lEdges, mEdges, zEdges, h.bInts.below hb, h.bEdges.below hb, h.ot.below hb, h.bw.trans (hb.mono h.bw.size), h.rInts, h.hInts, h.rEdges, h.hEdges⟩
theorem E.bw {wB wr : World} {PInts PEdges : Nat → Prop} (h : E wB wr PInts PEdges) : Below wB.heap.size wB wr := by
 obtain ⟨vInts, uInts, lInts, mInts, zInts, vEdges, uEdges, lEdges, mEdges, zEdges, h⟩ := h
 exact h.bw
theorem new (wB : World) : E wB (wB.alloc (.cells bookZ 44)) (fun _ => False) (fun _ => False) := by
 have h := (MapKept.heap_alloc wB (.cells bookZ 44)).1
 have hc : ∀ k, k < 22 → (wB.alloc (.cells bookZ 44)).cell? ⟨wB.heap.size, k, none⟩ = some (.slice none 0 0) := fun k hk => by
  have h2 : bookZ[k]? = some (.slice none 0 0) := by unfold bookZ; rw [Array.getElem?_replicate, if_pos hk]
  exact cell0_of h h2
 exact ⟨.slice none 0 0, .slice none 0 0, [], [], [], .slice none 0 0, .slice none 0 0, [], [], [], ⟨⟨hc _ (by omega), World.ownsRow_nil _ _ _ _, fun k l zs h1 => by simp at h1, ⟨fun l hl => by simp at hl, fun l hl => by simp at hl, by simp [Value.ownBlock], fun i j l m hl => by simp at hl⟩, by simp, fun zs h => by simp at h⟩, hc _ (by omega), World.ownsRow_nil _ _ _ _, fun k l zs h1 => by simp at h1, ⟨_, h, by unfold bookZ; simp⟩, fun k hk => by simp [Value.ownBlock] at hk⟩, ⟨⟨hc _ (by omega), World.ownsRow_nil _ _ _ _, fun k l zs h1 => by simp at h1, ⟨fun l hl => by simp at hl, fun l hl => by simp at hl, by simp [Value.ownBlock], fun i j l m hl => by simp at hl⟩, by simp, fun zs h => by simp at h⟩, hc _ (by omega), World.ownsRow_nil _ _ _ _, fun k l zs h1 => by simp at h1, ⟨_, h, by unfold bookZ; simp⟩, fun k hk => by simp [Value.ownBlock] at hk⟩, ⟨hc _ (by omega), hc _ (by omega), hc _ (by omega), hc _ (by omega), hc _ (by omega), hc _ (by omega), hc _ (by omega), hc _ (by omega), hc _ (by omega)⟩, (Below.refl _ _).alloc (Nat.le_refl _) _, fun b hb => by simp [Value.ownBlock] at hb, fun l hl => by simp at hl, fun b hb => by simp [Value.ownBlock] at hb, fun l hl => by simp at hl⟩
def Fr (w w' : World) : Prop := w.heap.size ≤ w'.heap.size ∧ ∀ (g : Nat) (cs : Array Value) (t : TypeId), w.heap[g]? = some (.cells cs t (0, 0)) → 44 ≠ t → 45 ≠ t → 22 ≠ t → w'.heap[g]? = some (.cells cs t (0, 0))
theorem Fr.refl (w : World) : Fr w w := ⟨Nat.le_refl _, fun _ _ _ h _ _ _ => h⟩
theorem Fr.own {w w' : World} (h : Fr w w') {B : Nat} {e : TypeId} {sz : Nat} {v : Value} {n : Nat} {xs : List Value} (ho : w.ownsRow B e sz v n xs) (hc : ∀ b, v.ownBlock = some b → 44 ≠ e ∧ 45 ≠ e ∧ 22 ≠ e) : w'.ownsRow B e sz v n xs := trow_at ho fun i hi => by
 obtain ⟨c, hr⟩ := row_cells ho hi
 obtain ⟨c0, c1, c2⟩ := hc i hi
 rw [hr]; exact h.2 i c _ hr c0 c1 c2
theorem Fr.ownInts {w w' : World} (h : Fr w w') {B : Nat} {v : Value} {n : Nat} {xs : List Value} (ho : w.ownsRow B 3 1 v n xs) : w'.ownsRow B 3 1 v n xs := h.own ho fun _ _ => ⟨by decide, by decide, by decide⟩
theorem Fr.ownEdges {w w' : World} (h : Fr w w') {B : Nat} {v : Value} {n : Nat} {xs : List Value} (ho : w.ownsRow B 61 3 v n xs) : w'.ownsRow B 61 3 v n xs := h.own ho fun _ _ => ⟨by decide, by decide, by decide⟩
theorem typed_bk {w : World} {bk g : Nat} {cs cs' : Array Value} {t u : TypeId} (h : w.heap[bk]? = some (.cells cs u (0, 0))) (hg : w.heap[g]? = some (.cells cs' t (0, 0))) (hne : u ≠ t) : g ≠ bk := fun e => by
 subst e
 rw [h] at hg
 injection hg with e
 injection e with _ e
 exact hne e
theorem E.addInts {wB wr : World} {PInts PEdges : Nat → Prop} (h : E wB wr PInts PEdges) (v : Value) (zs : List Int) (B : Nat) (hO : OwnI wr B v zs) (hB : wB.heap.size ≤ B) (hv : ∀ b, v.ownBlock = some b → ¬ PInts b) (hsz : zs.length ≤ 1000000) :
 Calls Tryz.prog 17 #[.pointer (some ⟨wB.heap.size, 0, none⟩), v] wr fun r w' => r = .returned (.tuple #[]) ∧ (E wB w' (fun b => PInts b ∨ v.ownBlock = some b) PEdges) ∧ Fr wr w' := by
 obtain ⟨vInts, uInts, lInts, mInts, zInts, vEdges, uEdges, lEdges, mEdges, zEdges, h⟩ := h
 have hO0 : OwnI wr 0 v zs := row_base hO (Nat.zero_le _)
 by_cases hlen : zInts.length < 400
 ·refine (ints_any wB.heap.size vInts uInts v lInts mInts zInts zs wr h.bInts hO0 (fun l hl q hq e => hv q e (h.hInts l hl q hq).2) hlen hsz).mono ?_
  rintro r w' ⟨rfl, vi', vw', v1, hN⟩
  have hup : ∀ b, (b = wB.heap.size ∨ vInts.ownBlock = some b ∨ uInts.ownBlock = some b) → wB.heap.size ≤ b := fun b hb => by
   rcases hb with rfl | hb
   ·exact Nat.le_refl _
   ·exact h.rInts b hb
  obtain ⟨cs0, hc0, _⟩ := h.bInts.bt
  have hFr : Fr wr w' := ⟨hN.k.size, fun g cs t hg c0 c1 _ => by
   refine (hN.k.block g (t_lt hg) fun hf => ?_).trans hg
   rcases hf with hf | hf | hf
   ·exact typed_bk hc0 hg c0 hf
   ·exact own_bk h.bInts.p.ri hg c1 hf
   ·exact own_bk h.bInts.rw hg c1 hf⟩
  exact ⟨rfl, ⟨vi', vw', _, _, _, vEdges, uEdges, lEdges, mEdges, zEdges, hN.b, h.bEdges.other hN.k (hN.o _ (by omega)) (hN.o _ (by omega)) hN.b.bt (fun b hb => by
   rcases hb with hb | hb | hb
   ·exact .inl hb
   ·exact .inr ⟨_, _, _, _, _, _, h.bInts.p.ri, hb, by decide, by decide⟩
   ·exact .inr ⟨_, _, _, _, _, _, h.bInts.rw, hb, by decide, by decide⟩), ⟨(hN.o _ (by omega)).trans h.ot.dTokens, (hN.o _ (by omega)).trans h.ot.dTexts, (hN.o _ (by omega)).trans h.ot.dBools, (hN.o _ (by omega)).trans h.ot.dSteps, (hN.o _ (by omega)).trans h.ot.dNodes, (hN.o _ (by omega)).trans h.ot.dPairs, (hN.o _ (by omega)).trans h.ot.dRows, (hN.o _ (by omega)).trans h.ot.dLines, (hN.o _ (by omega)).trans h.ot.dWalks⟩, h.bw.trans (hN.k.below h.bw.size hup), fun b hb => by
   rcases hN.f b hb with e | e
   ·exact h.rInts b e
   ·have := h.bw.size; omega, fun l hl b hb => by
   rcases List.mem_append.1 hl with hl | hl
   ·exact ⟨(h.hInts l hl b hb).1, .inl (h.hInts l hl b hb).2⟩
   ·rw [List.mem_singleton.1 hl] at hb
    have := hO.lt b hb
    exact ⟨by omega, .inr hb⟩, h.rEdges, h.hEdges⟩, hFr⟩
 ·refine (ints_full wB.heap.size vInts uInts v lInts mInts zInts wr h.bInts hlen).mono ?_
  rintro r w' ⟨rfl, rfl⟩
  exact ⟨rfl, ⟨vInts, uInts, lInts, mInts, zInts, vEdges, uEdges, lEdges, mEdges, zEdges, h.bInts, h.bEdges, h.ot, h.bw, h.rInts, fun l hl b hb => ⟨(h.hInts l hl b hb).1, .inl (h.hInts l hl b hb).2⟩, h.rEdges, h.hEdges⟩, Fr.refl _⟩
theorem E.addEdges {wB wr : World} {PInts PEdges : Nat → Prop} (h : E wB wr PInts PEdges) (v : Value) (zs : List BEdges.El) (B : Nat) (hO : BEdges.Own wr B v zs) (hB : wB.heap.size ≤ B) (hv : ∀ b, v.ownBlock = some b → ¬ PEdges b) (hsz : zs.length ≤ 1000000) :
 Calls Tryz.prog 18 #[.pointer (some ⟨wB.heap.size, 0, none⟩), v] wr fun r w' => r = .returned (.tuple #[]) ∧ (E wB w' PInts (fun b => PEdges b ∨ v.ownBlock = some b)) ∧ Fr wr w' := by
 obtain ⟨vInts, uInts, lInts, mInts, zInts, vEdges, uEdges, lEdges, mEdges, zEdges, h⟩ := h
 have hO0 : BEdges.Own wr 0 v zs := row_base hO (Nat.zero_le _)
 by_cases hlen : zEdges.length < 400
 ·refine (BEdges.ints_any wB.heap.size vEdges uEdges v lEdges mEdges zEdges zs wr h.bEdges hO0 (fun l hl q hq e => hv q e (h.hEdges l hl q hq).2) hlen hsz).mono ?_
  rintro r w' ⟨rfl, vi', vw', v1, hN⟩
  have hup : ∀ b, (b = wB.heap.size ∨ vEdges.ownBlock = some b ∨ uEdges.ownBlock = some b) → wB.heap.size ≤ b := fun b hb => by
   rcases hb with rfl | hb
   ·exact Nat.le_refl _
   ·exact h.rEdges b hb
  obtain ⟨cs0, hc0, _⟩ := h.bEdges.bt
  have hFr : Fr wr w' := ⟨hN.k.size, fun g cs t hg c0 _ c2 => by
   refine (hN.k.block g (t_lt hg) fun hf => ?_).trans hg
   rcases hf with hf | hf | hf
   ·exact typed_bk hc0 hg c0 hf
   ·exact own_bk h.bEdges.p.ri hg c2 hf
   ·exact own_bk h.bEdges.rw hg c2 hf⟩
  exact ⟨rfl, ⟨vInts, uInts, lInts, mInts, zInts, vi', vw', _, _, _, h.bInts.other hN.k (hN.o _ (by omega) (by omega)) (hN.o _ (by omega) (by omega)) hN.b.bt (fun b hb => by
   rcases hb with hb | hb | hb
   ·exact .inl hb
   ·exact .inr ⟨_, _, _, _, _, _, h.bEdges.p.ri, hb, by decide, by decide⟩
   ·exact .inr ⟨_, _, _, _, _, _, h.bEdges.rw, hb, by decide, by decide⟩), hN.b, ⟨(hN.o _ (by omega) (by omega)).trans h.ot.dTokens, (hN.o _ (by omega) (by omega)).trans h.ot.dTexts, (hN.o _ (by omega) (by omega)).trans h.ot.dBools, (hN.o _ (by omega) (by omega)).trans h.ot.dSteps, (hN.o _ (by omega) (by omega)).trans h.ot.dNodes, (hN.o _ (by omega) (by omega)).trans h.ot.dPairs, (hN.o _ (by omega) (by omega)).trans h.ot.dRows, (hN.o _ (by omega) (by omega)).trans h.ot.dLines, (hN.o _ (by omega) (by omega)).trans h.ot.dWalks⟩, h.bw.trans (hN.k.below h.bw.size hup), h.rInts, h.hInts, fun b hb => by
   rcases hN.f b hb with e | e
   ·exact h.rEdges b e
   ·have := h.bw.size; omega, fun l hl b hb => by
   rcases List.mem_append.1 hl with hl | hl
   ·exact ⟨(h.hEdges l hl b hb).1, .inl (h.hEdges l hl b hb).2⟩
   ·rw [List.mem_singleton.1 hl] at hb
    have := hO.lt b hb
    exact ⟨by omega, .inr hb⟩⟩, hFr⟩
 ·refine (BEdges.ints_full wB.heap.size vEdges uEdges v lEdges mEdges zEdges wr h.bEdges hlen).mono ?_
  rintro r w' ⟨rfl, rfl⟩
  exact ⟨rfl, ⟨vInts, uInts, lInts, mInts, zInts, vEdges, uEdges, lEdges, mEdges, zEdges, h.bInts, h.bEdges, h.ot, h.bw, h.rInts, h.hInts, h.rEdges, fun l hl b hb => ⟨(h.hEdges l hl b hb).1, .inl (h.hEdges l hl b hb).2⟩⟩, Fr.refl _⟩
theorem E.apart {wB wr : World} {PInts PEdges : Nat → Prop} (h : E wB wr PInts PEdges) :
 Calls Tryz.prog 19 #[.pointer (some ⟨wB.heap.size, 0, none⟩)] wr fun r w' => r = .returned (.bool true) ∧ Below wB.heap.size wB w' := by
 obtain ⟨vInts, uInts, lInts, mInts, zInts, vEdges, uEdges, lEdges, mEdges, zEdges, h⟩ := h
 refine (ApIE.apart_any wB.heap.size vInts uInts lInts mInts zInts vEdges uEdges lEdges mEdges zEdges wr h.bInts h.bEdges h.ot).mono ?_
 rintro r w' ⟨rfl, hk⟩
 exact ⟨rfl, h.bw.trans (hk.below h.bw.size fun b hb => hb.elim (fun ⟨l, hl, e⟩ => (h.hInts l hl b e).1) (fun hb => (fun ⟨l, hl, e⟩ => (h.hEdges l hl b e).1) hb))⟩
end Go.Proofs.YtplofbabfkkimaaGreatDoor.WIE
/- The book's SameInts on equal lists. -/
namespace Go.Proofs.YtplofbabfkkimaaGreatDoor
open Go.RowKit
set_option maxRecDepth 100000 in
set_option maxHeartbeats 1000000 in
theorem sameInts_any (va vb : Value) (zs : List Int) (w : World) (hn : zs.length ≤ 1000000) (hA : HasI w va zs) (hB : HasI w vb zs) :
 Calls Tryz.prog 15 #[va, vb] w fun e w' => e = .returned (.bool true) ∧ Below w.heap.size w w' := by
 obtain ⟨ao, cap, rfl, hcA⟩ := hA
 obtain ⟨ao', cap', rfl, hcB⟩ := hB
 obtain ⟨n, hN⟩ : ∃ n, n = zs.length := ⟨_, rfl⟩
 have HH : Hid ((∀ (i : Nat) (z : Int), zs[i]? = some z → ∃ a, ao = some a ∧ w.cell? (a.add i) = some (.int .i64 z)) ∧ (∀ (i : Nat) (z : Int), zs[i]? = some z → ∃ a, ao' = some a ∧ w.cell? (a.add i) = some (.int .i64 z)) ∧ n = zs.length) := ⟨hcA, hcB, hN⟩
 rw [← hN] at hn ⊢
 clear hcA hcB hN
 have q : ((n : Int) != (n : Int)) = false := by simp
 go_enter Tryz.func15, Tryz.ntmps15
 go_wp2
 go_loopg [5] n (fun g i wr => ∃ j m : Nat, g = n - j ∧ j ≤ n ∧ i = .int .i64 j ∧ wr = w.drewN m)
 case atStart => exact ⟨0, 0, rfl, Nat.zero_le _, rfl, rfl⟩
 case round =>
  obtain ⟨j, m, rfl, hj, rfl, rfl⟩ := hrel
  by_cases hlt : j < n
  ·obtain ⟨z, hz⟩ : ∃ z, zs[j]? = some z := ⟨zs[j]'(by have := HH.out.2.2; omega), List.getElem?_eq_getElem _⟩
   obtain ⟨a, rfl, c0⟩ := HH.out.1 j z hz
   obtain ⟨b, rfl, d0⟩ := HH.out.2.1 j z hz
   clear hz
   have q0 : (0 : Int) ≤ (j : Int) := by omega
   have q1 : (j : Int) < (n : Int) := by omega
   go_wp2_with fail
   go_quiet (fail)
   go_wp2
   go_roundg (n - (j + 1))
   case measure => omega
   case rel => exact ⟨j + 1, _, rfl, by omega, by go_num, by first | rfl | exact World.drewN_drewN _ _ _⟩
  ·have q1 : ¬ (j : Int) < (n : Int) := by omega
   go_wp2
   go_ret
   exact ⟨rfl, below_drewN (Below.refl _ _) _⟩
end Go.Proofs.YtplofbabfkkimaaGreatDoor
/- Contracts of the book's SameSystem, Lent and Stays. -/
namespace Go.Proofs.YtplofbabfkkimaaGreatDoor
open Go.RowKit Go.Maps
attribute [local go_sem ↓] Go.wp_at_zero Go.wp_at_succ
set_option maxRecDepth 100000 in
set_option maxHeartbeats 2000000 in
theorem sameSystem_b (n k s : Int) (va vb : Value) (es : List Sy.Ed) (w : World) (hn : es.length ≤ 1000000) (hA : BEdges.Has w va es) (hB : BEdges.Has w vb es) :
 Calls Tryz.prog 13 #[sysV n k s va, sysV n k s vb] w fun e w' => e = .returned (.bool true) ∧ Below w.heap.size w w' := by
 obtain ⟨w1, hw1⟩ : ∃ w1, w1 = (w.alloc (.cells #[.int .i64 n, .int .i64 k, .int .i64 s, va] 24)).alloc (.cells #[.int .i64 n, .int .i64 k, .int .i64 s, vb] 24) := ⟨_, rfl⟩
 have hb1 : Below w.heap.size w w1 := by rw [hw1]; exact ((Below.refl _ _).alloc (Nat.le_refl _) _).alloc (by simp) _
 have H1 : Hid _ := And.intro (BEdges.same_b va vb es w1 (by omega) (hA.below hb1) (hB.below hb1)) (And.intro hb1 hw1)
 obtain ⟨ao, cap, rfl, _⟩ := hA
 obtain ⟨bo, cbp, rfl, _⟩ := hB
 unfold sysV
 have nn : ¬ w.heap.size + 1 = w.heap.size := by omega
 clear hb1 hw1
 go_enter Tryz.func13, Tryz.ntmps13
 go_wp2_with fail
 rw [← H1.out.2.2]
 refine Calls.mono H1.out.1 ?_
 rintro e w2 ⟨rfl, hb2⟩
 have H2 : Hid _ := H1.out.2.1.trans (hb2.mono H1.out.2.1.size)
 clear hb2
 go_wp2_with fail
 go_ret
 exact ⟨rfl, H2.out⟩
def mk3 : List Sy.Ed := [(-7, 0, 0), (-7, 1, 0), (-7, 2, 0)]
def LentE (w : World) (B : Nat) (u : Value) (es : List Sy.Ed) : Prop := ∃ g cap, u = .slice (some ⟨g, 0, none⟩) es.length cap ∧ es.length + 3 ≤ cap ∧ BEdges.Own w B (.slice (some ⟨g, 0, none⟩) (es.length + 3) cap) (es ++ mk3)
theorem LentE.below {w w' : World} {B : Nat} {u : Value} {es : List Sy.Ed} (h : LentE w B u es) (hb : Below w.heap.size w w') : LentE w' B u es := by
 obtain ⟨g, cap, h1, h2, h3⟩ := h
 exact ⟨g, cap, h1, h2, trow_at h3 fun b hb' => hb.block b (h3.lt b hb').2⟩
theorem LentE.hasE {w : World} {B : Nat} {u : Value} {es : List Sy.Ed} (h : LentE w B u es) : HasE w u es := by
 obtain ⟨g, cap, rfl, h2, h3⟩ := h
 have h4 := HasE.of_own h3
 have h5 := hasE_take h4 es.length (by rw [List.length_append]; omega)
 rw [List.take_left' rfl] at h5
 exact h5
set_option maxRecDepth 100000 in
set_option maxHeartbeats 4000000 in
theorem lentS_any (n k s : Int) (v : Value) (es : List Sy.Ed) (w : World) (hn : es.length ≤ 1000000) (hv : BEdges.Has w v es) :
 Calls Tryz.prog 6 #[sysV n k s v] w fun e w' => ∃ u, e = .returned (sysV n k s u) ∧ LentE w' w.heap.size u es ∧ Below w.heap.size w w' := by
 obtain ⟨i0, hi0, hz0, hz1, hz2⟩ := info_parts BEdges.Tryz.infoE
 obtain ⟨w1, hw1⟩ : ∃ w1, w1 = (w.alloc (.cells #[.int .i64 n, .int .i64 k, .int .i64 s, v] 24)).alloc (.cells #[.int .i64 0, .int .i64 0, .int .i64 0, .slice none 0 0] 24) := ⟨_, rfl⟩
 have hb1 : Below w.heap.size w w1 := by rw [hw1]; exact ((Below.refl _ _).alloc (Nat.le_refl _) _).alloc (by simp) _
 have hg : w1.heap[w.heap.size + 1]? = some (.cells #[.int .i64 0, .int .i64 0, .int .i64 0, .slice none 0 0] 24 (0, 0)) := by rw [hw1]; exact two_alloc w _ _
 have hg0 : w1.heap[w.heap.size]? = some (.cells #[.int .i64 n, .int .i64 k, .int .i64 s, v] 24 (0, 0)) := by rw [hw1, Below.heap_alloc _ _ _ (by simp)]; exact heap_alloc_new w _
 obtain ⟨ao, cap, rfl, _⟩ := _root_.id hv
 have hC := BEdges.copy_of (hv.below hb1)
 obtain ⟨m, hm⟩ : ∃ m, m = es.length := ⟨_, rfl⟩
 rw [← hm] at hC hn hg0 hw1 ⊢
 have hcl : (BEdges.C es).length = m * 3 := by rw [BEdges.C_len, hm]
 have HC : Hid _ := And.intro hC (And.intro hb1 (And.intro hg (And.intro hg0 (And.intro hw1 hm))))
 have hL1 : m ≤ maxLen := by unfold maxLen; omega
 have hL8 : m * 24 ≤ 140737488355328 := by omega
 have hle1 : w.heap.size ≤ w1.heap.size := hb1.size
 unfold sysV
 clear hv hC hb1 hg hg0 hw1 hm
 go_enter Tryz.func6, Tryz.ntmps6
 go_upto_region 1 with fail
 rw [← HC.out.2.2.2.2.1]
 obtain ⟨x0, x1, x2, x3⟩ := four_cells HC.out.2.2.2.1
 go_wp2_with (at_builtin; refine wpList_copy_at _ rfl _ _ 22 rfl w.heap.size 61 i0 (.agg #[.int .i64 0, .int .i64 0, .int .i64 0]) 3 24 Tryz.underlying22 hi0 hz0 hz1 hz2 rfl (by decide) rfl ao m cap (BEdges.C es) rfl HC.out.1.1 hcl HC.out.1.2 (BEdges.C_one _) hL1 hL8 hle1 ?_; intro v2 w2 hown2 hgrow2 hat2; have H2 : Hid _ := And.intro hown2 (tgrown0 hgrow2); clear hown2 hgrow2 hat2)
 clear x0 x1 x2 x3
 go_loopg [3, 4] 3 (fun q lv iv wr => ∃ (i : Nat), q = 3 - i ∧ i ≤ 3 ∧ iv = .int .i64 i ∧ BEdges.Own wr w.heap.size lv (es ++ mk3.take i) ∧ Below w.heap.size w wr ∧ wr.heap[w.heap.size + 1]? = some (.cells #[.int .i64 0, .int .i64 0, .int .i64 0, .slice none 0 0] 24 (0, 0)) ∧ wr.heap[w.heap.size]? = some (.cells #[.int .i64 n, .int .i64 k, .int .i64 s, .slice ao m cap] 24 (0, 0)))
 case atStart => exact ⟨0, rfl, by omega, rfl, by rw [List.take_zero, List.append_nil]; unfold BEdges.Own; rw [← HC.out.2.2.2.2.2]; exact H2.out.1, HC.out.2.1.trans (H2.out.2.mono hle1), (H2.out.2.block _ (t_lt HC.out.2.2.1)).trans HC.out.2.2.1, (H2.out.2.block _ (t_lt HC.out.2.2.2.1)).trans HC.out.2.2.2.1⟩
 case round =>
  obtain ⟨i, rfl, hi, rfl, hO, hb, hg, hg0⟩ := hrel
  clear H2
  have hlen : (es ++ mk3.take i).length = m + i := by rw [List.length_append, List.length_take, ← HC.out.2.2.2.2.2]; show m + min i 3 = _; omega
  obtain ⟨al, cl, rfl⟩ := row_shape hO
  rw [hlen]
  obtain ⟨N, hN⟩ : ∃ N, N = m + i := ⟨_, rfl⟩
  have hO' : wr.ownsRow w.heap.size 61 3 (.slice al N cl) N (BEdges.C (es ++ mk3.take i)) := by have h1 := hO; unfold BEdges.Own at h1; rw [hlen, ← hN] at h1; exact h1
  rw [← hN]
  have HR : Hid _ := And.intro hO' (And.intro hb (And.intro hg (And.intro hg0 hN)))
  have hNl : N ≤ 1000003 := by omega
  clear hO hO' hb hg hg0 hlen hN
  by_cases hlt : i < 3
  ·have q1 : (i : Int) < 3 := by omega
   have hml : N + 1 ≤ maxLen := by unfold maxLen; omega
   have hby : (N + 1) * 24 ≤ 140737488355328 := by omega
   have hle : w.heap.size ≤ (wr.alloc (.cells #[.int .i64 (-7), .int .i64 i, .int .i64 0] 61)).heap.size := by have := HR.out.2.1.size; simp; omega
   go_wp2_with (at_builtin; refine wpList_append_own_at _ rfl _ _ 22 rfl w.heap.size 61 i0 (.agg #[.int .i64 0, .int .i64 0, .int .i64 0]) 3 24 Tryz.underlying22 hi0 hz0 hz1 hz2 rfl (by decide) (.slice al N cl) N (BEdges.C (es ++ mk3.take i)) rfl (HR.out.1.alloc _) ⟨wr.heap.size, 0, none⟩ 1 1 [.int .i64 (-7), .int .i64 i, .int .i64 0] rfl rfl (World.news_of_block (cs := #[.int .i64 (-7), .int .i64 i, .int .i64 0]) (t := 61) (fr := (0, 0)) (heap_alloc_new wr _)) (by simp [Value.oneCell']) hml hby hle ?_; intro v3 w3 hown3 hgrow3 hnil3 hat3; have H3 : Hid _ := And.intro hown3 hgrow3; clear hown3 hgrow3 hnil3 hat3)
   have hk3 := grown_alloc H3.out.2
   have hn1 := own_bk HR.out.1 HR.out.2.2.1 (by decide)
   have hn2 := own_bk HR.out.1 HR.out.2.2.2.1 (by decide)
   have HK : Hid _ := And.intro hk3 (And.intro hn1 hn2)
   clear hk3 hn1 hn2
   go_roundg (3 - (i + 1))
   case measure => omega
   case rel =>
    have hz : mk3[i]? = some (-7, (i : Int), 0) := by
     have h9 : i = 0 ∨ i = 1 ∨ i = 2 := by omega
     rcases h9 with rfl | rfl | rfl <;> rfl
    exact ⟨i + 1, rfl, by omega, by go_num, by
     rw [take_succ_of hz, ← List.append_assoc]
     unfold BEdges.Own
     rw [BEdges.C_snoc, List.length_append]
     have h1 : (es ++ mk3.take i).length = N := by rw [List.length_append, List.length_take, ← HC.out.2.2.2.2.2, HR.out.2.2.2.2]; show m + min i 3 = _; omega
     rw [h1]
     exact H3.out.1, HR.out.2.1.trans (HK.out.1.below HR.out.2.1.size fun b hb => (HR.out.1.lt b hb).1), (HK.out.1.block _ (t_lt HR.out.2.2.1) fun e => HK.out.2.1 e).trans HR.out.2.2.1, (HK.out.1.block _ (t_lt HR.out.2.2.2.1) fun e => HK.out.2.2 e).trans HR.out.2.2.2.1⟩
  ·obtain rfl : i = 3 := by omega
   have q1 : ¬ ((3 : Nat) : Int) < 3 := by omega
   obtain ⟨g, c, hf, hgl, _⟩ := World.ownsRow.form HR.out.1 (by have := HR.out.2.2.2.2; omega)
   injection hf with e1 e2 e3
   subst e1; subst e3
   obtain ⟨_, _, hcap⟩ : N ≤ cl ∧ True ∧ N ≤ cl := by
    rcases HR.out.1.2 with ⟨h9, _⟩ | ⟨g2, c2, cur, h9, _, _, hc2, _⟩
    ·cases h9
    ·injection h9 with f1 f2 f3; subst f3; exact ⟨hc2, trivial, hc2⟩
   have p0 : (0 : Int) ≤ (m : Int) := by omega
   have p1 : (m : Int) ≤ (cl : Int) := by have := HR.out.2.2.2.2; omega
   obtain ⟨y0, y1, y2, y3⟩ := four_cells HR.out.2.2.1
   obtain ⟨x0, x1, x2, x3⟩ := four_cells HR.out.2.2.2.1
   have z0 := blk_free HR.out.2.2.1 0
   have z1 := blk_free HR.out.2.2.1 1
   have z2 := blk_free HR.out.2.2.1 2
   have z3 := blk_free HR.out.2.2.1 3
   have z4 := blk_free HR.out.2.2.2.1 3
   have nn : ¬ w.heap.size + 1 = w.heap.size := by omega
   have nn2 : ¬ w.heap.size = w.heap.size + 1 := by omega
   have HE : Hid _ := hcap
   clear e2 hcap
   go_wp2_with fail
   have hgm : (wr.setCell ⟨w.heap.size, 3, none⟩ (.slice (some ⟨g, 0, none⟩) m cl)).heap[w.heap.size + 1]? = some (.cells #[.int .i64 0, .int .i64 0, .int .i64 0, .slice none 0 0] 24 (0, 0)) := (set_other _ _ _ _ _ nn).trans HR.out.2.2.1
   have hbm : Below w.heap.size w (wr.setCell ⟨w.heap.size, 3, none⟩ (.slice (some ⟨g, 0, none⟩) m cl)) := HR.out.2.1.setCell (Nat.le_refl _) _
   have hgf := four_set (a0 := .int .i64 n) (a1 := .int .i64 k) (a2 := .int .i64 s) (a3 := .slice (some ⟨g, 0, none⟩) m cl) hgm
   have hbf := four_below hbm (b := w.heap.size + 1) (by omega) (.int .i64 n) (.int .i64 k) (.int .i64 s) (.slice (some ⟨g, 0, none⟩) m cl)
   have hOf : (((((wr.setCell ⟨w.heap.size, 3, none⟩ (.slice (some ⟨g, 0, none⟩) m cl)).setCell ⟨w.heap.size + 1, 0, none⟩ (.int .i64 n)).setCell ⟨w.heap.size + 1, 1, none⟩ (.int .i64 k)).setCell ⟨w.heap.size + 1, 2, none⟩ (.int .i64 s)).setCell ⟨w.heap.size + 1, 3, none⟩ (.slice (some ⟨g, 0, none⟩) m cl)).ownsRow w.heap.size 61 3 (.slice (some ⟨g, 0, none⟩) N cl) N (BEdges.C (es ++ mk3.take 3)) := trow_at HR.out.1 fun b hb => by
    have h1 := own_bk HR.out.1 HR.out.2.2.1 (by decide)
    have h2 := own_bk HR.out.1 HR.out.2.2.2.1 (by decide)
    have e1 : b ≠ w.heap.size + 1 := fun e => h1 (by rw [← e]; exact hb)
    have e2 : b ≠ w.heap.size := fun e => h2 (by rw [← e]; exact hb)
    rw [set_other _ _ _ _ _ e1, set_other _ _ _ _ _ e1, set_other _ _ _ _ _ e1, set_other _ _ _ _ _ e1, set_other _ _ _ _ _ e2]
   generalize (((((wr.setCell ⟨w.heap.size, 3, none⟩ (.slice (some ⟨g, 0, none⟩) m cl)).setCell ⟨w.heap.size + 1, 0, none⟩ (.int .i64 n)).setCell ⟨w.heap.size + 1, 1, none⟩ (.int .i64 k)).setCell ⟨w.heap.size + 1, 2, none⟩ (.int .i64 s)).setCell ⟨w.heap.size + 1, 3, none⟩ (.slice (some ⟨g, 0, none⟩) m cl)) = wf at hgf hbf hOf ⊢
   clear y0 y1 y2 y3 z0 z1 z2 z3 z4 x0 x1 x2 x3
   obtain ⟨c0, c1, c2, c3⟩ := four_cells hgf
   refine bodyPost_ret (v := .agg #[.int .i64 n, .int .i64 k, .int .i64 s, .slice (some ⟨g, 0, none⟩) m cl]) (by simp [results, Tryz.results6, go_sem, c0, c1, c2, c3]) rfl ⟨_, rfl, ⟨g, cl, by rw [HC.out.2.2.2.2.2], by have := HE.out; have := HR.out.2.2.2.2; have := HC.out.2.2.2.2.2; omega, ?_⟩, hbf⟩
   have h1 : N = es.length + 3 := by rw [HR.out.2.2.2.2, HC.out.2.2.2.2.2]
   unfold BEdges.Own
   rw [List.length_append]
   show wf.ownsRow w.heap.size 61 3 (.slice (some ⟨g, 0, none⟩) (es.length + 3) cl) (es.length + 3) (BEdges.C (es ++ mk3))
   rw [← h1]
   exact hOf
set_option maxRecDepth 100000 in
set_option maxHeartbeats 4000000 in
theorem staysS_any (n k s n' k' s' : Int) (B : Nat) (va vb : Value) (es : List Sy.Ed) (w : World) (hn : es.length ≤ 1000000) (hA : LentE w B va es) (hB : BEdges.Has w vb es) :
 Calls Tryz.prog 12 #[sysV n k s va, sysV n' k' s' vb] w fun e w' => e = .returned (.bool true) ∧ Below w.heap.size w w' := by
 obtain ⟨w1, hw1⟩ : ∃ w1, w1 = (w.alloc (.cells #[.int .i64 n, .int .i64 k, .int .i64 s, va] 24)).alloc (.cells #[.int .i64 n', .int .i64 k', .int .i64 s', vb] 24) := ⟨_, rfl⟩
 have hb1 : Below w.heap.size w w1 := by rw [hw1]; exact ((Below.refl _ _).alloc (Nat.le_refl _) _).alloc (by simp) _
 have hg0 : w1.heap[w.heap.size]? = some (.cells #[.int .i64 n, .int .i64 k, .int .i64 s, va] 24 (0, 0)) := by rw [hw1, Below.heap_alloc _ _ _ (by simp)]; exact heap_alloc_new w _
 have hS := BEdges.same_b va vb es w1 (by omega) (hA.hasE.below hb1 |> fun ⟨_, _, _, _, h⟩ => h) (hB.below hb1)
 obtain ⟨bo, cbp, rfl, _⟩ := hB
 have hA1 := hA.below hb1
 obtain ⟨g, cap, rfl, hcap, _⟩ := hA
 obtain ⟨m, hm⟩ : ∃ m, m = es.length := ⟨_, rfl⟩
 rw [← hm] at hS hcap hg0 hw1 hn ⊢
 have H1 : Hid _ := And.intro hS (And.intro hb1 (And.intro hg0 (And.intro hw1 (And.intro hm hA1))))
 unfold sysV
 have nn : ¬ w.heap.size + 1 = w.heap.size := by omega
 have e3 : IntKind.i64.wrap ((m : Int) + 3) = (m : Int) + 3 := by rw [IntKind.wrap_i64]; omega
 have p0 : (0 : Int) ≤ (m : Int) + 3 := by omega
 have p1 : (m : Int) + 3 ≤ (cap : Int) := by omega
 clear hS hb1 hg0 hw1 hm hA1
 go_enter Tryz.func12, Tryz.ntmps12
 go_wp2_with fail
 rw [← H1.out.2.2.2.1]
 refine Calls.mono H1.out.1 ?_
 rintro e w2 ⟨rfl, hb2⟩
 have hg2 := (hb2.block _ (t_lt H1.out.2.2.1)).trans H1.out.2.2.1
 obtain ⟨x0, x1, x2, x3⟩ := four_cells hg2
 have hA2 := H1.out.2.2.2.2.2.below hb2
 obtain ⟨g', cap', hu, _, hO⟩ := hA2
 injection hu with f1 f2 f3
 injection f1 with f1
 injection f1 with f1
 subst f1; subst f3
 have H2 : Hid _ := And.intro (H1.out.2.1.trans (hb2.mono H1.out.2.1.size)) (And.intro hO hg2)
 clear hb2 hg2 hO f2
 go_wp2_with fail
 go_loopg [6] 3 (fun q iv wr => ∃ i : Nat, q = 3 - i ∧ i ≤ 3 ∧ iv = .int .i64 i ∧ Below w2.heap.size w2 wr)
 case atStart => exact ⟨0, rfl, by omega, rfl, Below.refl _ _⟩
 case round =>
  obtain ⟨i, rfl, hi, rfl, hb⟩ := hrel
  by_cases hlt : i < 3
  ·have q1 : (i : Int) < 3 := by omega
   have hz : (es ++ mk3)[m + i]? = some (-7, (i : Int), 0) := by
    rw [H1.out.2.2.2.2.1, List.getElem?_append_right (by omega), Nat.add_sub_cancel_left]
    have h9 : i = 0 ∨ i = 1 ∨ i = 2 := by omega
    rcases h9 with rfl | rfl | rfl <;> rfl
   obtain ⟨g2, hg3, c0, c1, c2⟩ := own_edge (trow_at (w' := wr) H2.out.2.1 fun b hb' => hb.block b (H2.out.2.1.lt b hb').2) hz
   cases hg3
   have y3 := cell_up x3 hb
   obtain ⟨M, hM⟩ : ∃ M, M = m + i := ⟨_, rfl⟩
   have e4 : IntKind.i64.wrap ((m : Int) + (i : Int)) = (M : Int) := by rw [IntKind.wrap_i64]; omega
   have r0 : (0 : Int) ≤ (M : Int) := by omega
   have r1 : (M : Int) < (m : Int) + 3 := by omega
   rw [← hM] at c0 c1 c2
   have HB : Hid _ := hb
   clear hb hz hM
   go_wp2_with fail
   go_roundg (3 - (i + 1))
   case measure => omega
   case rel => exact ⟨i + 1, rfl, by omega, by go_num, by first | exact HB.out | exact HB.out.alloc HB.out.size _⟩
  ·obtain rfl : i = 3 := by omega
   have q1 : ¬ ((3 : Nat) : Int) < 3 := by omega
   have HB : Hid _ := hb
   clear hb
   go_wp2_with fail
   go_ret
   exact ⟨rfl, H2.out.1.trans (HB.out.mono H2.out.1.size)⟩
end Go.Proofs.YtplofbabfkkimaaGreatDoor
/- CyclesAll as a call. -/
namespace Go.Proofs.YtplofbabfkkimaaGreatDoor.Ts
open Go.RowKit Go.Maps
attribute [local go_sem ↓] Go.wp_at_zero Go.wp_at_succ
theorem up14 {W w8 : World} {b : Nat} {o : Obj} (hb : Below W.heap.size W w8) (h : W.heap[b]? = some o) : w8.heap[b]? = some o := (hb.block b (t_lt h)).trans h
theorem hasE_has2 {w : World} {v : Value} {es : List Sy.Ed} (h : HasE w v es) : BEdges.Has w v es := by obtain ⟨_, _, _, _, h⟩ := h; exact h
theorem lentE_has {w : World} {B : Nat} {u : Value} {es : List Sy.Ed} (h : LentE w B u es) : BEdges.Has w u es := hasE_has2 h.hasE
theorem fr_sys {w w' : World} (h : WIE.Fr w w') {g : Nat} {cs : Array Value} (hg : w.heap[g]? = some (.cells cs 24 (0, 0))) : w'.heap[g]? = some (.cells cs 24 (0, 0)) := h.2 g cs _ hg (by decide) (by decide) (by decide)
theorem nil_has (w : World) : BEdges.Has w (.slice none 0 0) [] := ⟨none, 0, rfl, fun j u h => by simp [BEdges.C] at h⟩
structure LcM (wB : World) (gS gL gE : Nat) (n k s : Int) (v vl : Value) (es : List Sy.Ed) (B : Nat) (ok : Bool) : Prop where
 fs : wB.heap[gS]? = some (.cells #[.int .i64 n, .int .i64 k, .int .i64 s, v] 24 (0, 0))
 fl : wB.heap[gL]? = some (.cells #[.int .i64 n, .int .i64 k, .int .i64 s, vl] 24 (0, 0))
 fe : wB.heap[gE]? = some (.cells #[.int .i64 (if ok then 0 else 14), .int .i64 0, .int .i64 0, .string (if ok then ⟨#[]⟩ else tauB2)] 29 (0, 0))
 hs : HasE wB v es
 hl : LentE wB B vl es
theorem LcM.below {wB w' : World} {gS gL gE : Nat} {n k s : Int} {v vl : Value} {es : List Sy.Ed} {B : Nat} {ok : Bool} (h : LcM wB gS gL gE n k s v vl es B ok) (hb : Below wB.heap.size wB w') : LcM w' gS gL gE n k s v vl es B ok :=
 ⟨up14 hb h.fs, up14 hb h.fl, up14 hb h.fe, h.hs.below hb, h.hl.below hb⟩
set_option linter.unusedSimpArgs false in
set_option maxRecDepth 100000 in
set_option maxHeartbeats 16000000 in
theorem lawC_out (n k s : Int) (v : Value) (es : List Sy.Ed) (w : World) (hA : PAl w) (hv : HasE w v es) (hli : lightB n es.length (Sy.right n k s es) = false) :
 Calls Tryz.prog 3 #[sysV n k s v] w fun r w' => r = .returned (.bool true) ∧ Below w.heap.size w w' := by
 have hvs := hv
 obtain ⟨ao, cap, rfl, hcap, hH⟩ := hvs
 obtain ⟨L, hL⟩ : ∃ L, L = es.length := ⟨_, rfl⟩
 obtain ⟨w1, hw1⟩ : ∃ w1, w1 = w.alloc (.cells #[.int .i64 n, .int .i64 k, .int .i64 s, .slice ao L cap] 24) := ⟨_, rfl⟩
 have hb1 : Below w.heap.size w w1 := by rw [hw1]; exact (Below.refl _ _).alloc (Nat.le_refl _) _
 have hg1 : w1.heap[w.heap.size]? = some (.cells #[.int .i64 n, .int .i64 k, .int .i64 s, .slice ao L cap] 24 (0, 0)) := by rw [hw1]; exact heap_alloc_new w _
 have hLt := light_any n k s _ es w1 (hH.below hb1)
 rw [hli] at hLt
 rw [← hL] at hLt ⊢
 unfold sysV at hLt ⊢
 have H1 : Hid _ := And.intro hw1 (And.intro hb1 (And.intro hLt hA))
 obtain ⟨x0, x1, x2, x3⟩ := four_cells hg1
 clear hA hv hH hcap hL hw1 hb1 hg1 hLt hli
 go_enter Tryz.func3, Tryz.ntmps3
 go_upto_region 1 with fail
 rw [← H1.out.1]
 go_wp2_with fail
 refine Calls.mono H1.out.2.2.1 ?_
 rintro r w2 ⟨rfl, hb2⟩
 have H2 : Hid (Below w.heap.size w w2) := bel13 hb2 H1.out.2.1
 clear hb2
 go_wp2_with fail
 refine Calls.mono (H1.out.2.2.2 _ H2.out) ?_
 rintro r w3 ⟨rfl, hb3⟩
 have H3 : Hid (Below w.heap.size w w3) := bel13 hb3 H2.out
 clear hb3
 go_wp2_with fail
 go_ret
 exact ⟨rfl, H3.out⟩
set_option linter.unusedSimpArgs false in
set_option maxRecDepth 100000 in
set_option maxHeartbeats 16000000 in
theorem lawC_ok (hS : SortOk 1000000) (n : Nat) (k s : Int) (v : Value) (es : List Sy.Ed) (e : Nat → Addr) (w : World) (hA : PAl w) (hE : Er 19 w e) (hv : HasE w v es) (hlen : es.length ≤ 11000) (hli : lightB n es.length (Sy.right n k s es) = true) (hq : Sy.right n k s es = true) :
 Calls Tryz.prog 3 #[sysV n k s v] w fun r w' => r = .returned (.bool true) ∧ Below w.heap.size w w' := by
 have hvs := hv
 obtain ⟨ao, cap, rfl, hcap, hH⟩ := hvs
 obtain ⟨L, hL⟩ : ∃ L, L = es.length := ⟨_, rfl⟩
 obtain ⟨w1, hw1⟩ : ∃ w1, w1 = w.alloc (.cells #[.int .i64 n, .int .i64 k, .int .i64 s, .slice ao L cap] 24) := ⟨_, rfl⟩
 have hb1 : Below w.heap.size w w1 := by rw [hw1]; exact (Below.refl _ _).alloc (Nat.le_refl _) _
 have hg1 : w1.heap[w.heap.size]? = some (.cells #[.int .i64 n, .int .i64 k, .int .i64 s, .slice ao L cap] 24 (0, 0)) := by rw [hw1]; exact heap_alloc_new w _
 have hLt := light_any n k s _ es w1 (hH.below hb1)
 rw [hli] at hLt
 have hLn := fun W (hb : Below w1.heap.size w1 W) => lentS_any n k s _ es W (by omega) ((hH.below hb1).below hb)
 have hHd := fun W (hb : Below w1.heap.size w1 W) => handed_tau n k s _ es W ((hH.below hb1).below hb)
 rw [hq] at hHd
 rw [← hL] at hLt hHd hLn hv ⊢
 unfold sysV at hLt hHd hLn ⊢
 have H1 : Hid _ := And.intro hw1 (And.intro hb1 (And.intro hLt (And.intro hA (And.intro hLn (And.intro hHd (And.intro hg1 (And.intro hv (And.intro hE (And.intro hq hL)))))))))
 obtain ⟨x0, x1, x2, x3⟩ := four_cells hg1
 clear hA hv hH hcap hw1 hb1 hg1 hLt hHd hLn hli hq hE hL
 go_enter Tryz.func3, Tryz.ntmps3
 go_upto_region 1 with fail
 rw [← H1.out.1]
 go_wp2_with fail
 refine Calls.mono H1.out.2.2.1 ?_
 rintro r w2 ⟨rfl, hb2⟩
 have hg2 := up14 hb2 H1.out.2.2.2.2.2.2.1
 have H2 : Hid _ := And.intro hb2 hg2
 clear hb2 x0 x1 x2 x3
 obtain ⟨x0, x1, x2, x3⟩ := four_cells hg2
 clear hg2
 go_wp2_with fail
 refine Calls.mono (H1.out.2.2.2.2.1 w2 H2.out.1) ?_
 rintro r w3 ⟨ul, rfl, hl3, hb3⟩
 obtain ⟨gl, cl3, hul, -, -⟩ := id hl3
 rw [← H1.out.2.2.2.2.2.2.2.2.2.2] at hul
 subst hul
 obtain ⟨w4, hw4⟩ : ∃ w4, w4 = w3.alloc (.cells #[.int .i64 n, .int .i64 k, .int .i64 s, .slice (some ⟨gl, 0, none⟩) L cl3] 24) := ⟨_, rfl⟩
 have hb4 : Below w3.heap.size w3 w4 := by rw [hw4]; exact (Below.refl _ _).alloc (Nat.le_refl _) _
 have hg4 : w4.heap[w3.heap.size]? = some (.cells #[.int .i64 n, .int .i64 k, .int .i64 s, .slice (some ⟨gl, 0, none⟩) L cl3] 24 (0, 0)) := by rw [hw4]; exact heap_alloc_new w3 _
 have b24 := bel13 hb4 hb3
 have hgs4 := up14 b24 H2.out.2
 have b14 := bel13 b24 H2.out.1
 have H4 : Hid _ := And.intro hw4 (And.intro hg4 (And.intro (hl3.below hb4) (And.intro hgs4 b14)))
 clear hl3 hb3 hw4 hb4 b24 b14 x0 x1 x2 x3
 obtain ⟨x0, x1, x2, x3⟩ := four_cells hgs4
 clear hgs4 hg4
 go_upto_region 4 with fail
 rw [← H4.out.1]
 go_wp2_with fail
 refine Calls.mono (H1.out.2.2.2.2.2.1 w4 H4.out.2.2.2.2) ?_
 rintro r w5 ⟨rfl, hb5⟩
 have hhd : hndTau true = .agg #[.int .i64 0, .int .i64 0, .int .i64 0, .string ⟨#[]⟩] := rfl
 rw [hhd]
 clear hhd
 obtain ⟨wB, hwB⟩ : ∃ wB, wB = w5.alloc (.cells #[.int .i64 0, .int .i64 0, .int .i64 0, .string ⟨#[]⟩] 29) := ⟨_, rfl⟩
 have hbB : Below w5.heap.size w5 wB := by rw [hwB]; exact (Below.refl _ _).alloc (Nat.le_refl _) _
 have hgB : wB.heap[w5.heap.size]? = some (.cells #[.int .i64 0, .int .i64 0, .int .i64 0, .string ⟨#[]⟩] 29 (0, 0)) := by rw [hwB]; exact heap_alloc_new w5 _
 have b4B := bel13 hbB hb5
 have b1B := bel13 b4B H4.out.2.2.2.2
 have hM : LcM wB w.heap.size w3.heap.size w5.heap.size n k s (.slice ao L cap) (.slice (some ⟨gl, 0, none⟩) L cl3) es w2.heap.size true := ⟨up14 b4B H4.out.2.2.2.1, up14 b4B H4.out.2.1, hgB, (H1.out.2.2.2.2.2.2.2.1.below H1.out.2.1).below b1B, H4.out.2.2.1.below b4B⟩
 obtain ⟨w6, hw6⟩ : ∃ w6, w6 = wB.alloc (.cells WIE.bookZ 44) := ⟨_, rfl⟩
 have hE6 := WIE.new wB
 rw [← hw6] at hE6
 have hw6' : wB.alloc (.cells #[.slice none 0 0, .slice none 0 0, .slice none 0 0, .slice none 0 0, .slice none 0 0, .slice none 0 0, .slice none 0 0, .slice none 0 0, .slice none 0 0, .slice none 0 0, .slice none 0 0, .slice none 0 0, .slice none 0 0, .slice none 0 0, .slice none 0 0, .slice none 0 0, .slice none 0 0, .slice none 0 0, .slice none 0 0, .slice none 0 0, .slice none 0 0, .slice none 0 0] 44) = w6 := by rw [hw6]; rfl
 have HB : Hid _ := And.intro hM (And.intro (bel13 b1B H1.out.2.1) (And.intro hwB (And.intro hw6' hE6)))
 clear hb5 hbB hgB b4B b1B hM hwB hw6 hw6' hE6 x0 x1 x2 x3
 go_upto_region 5 with fail
 rw [← HB.out.2.2.1]
 go_upto_region 6 with fail
 rw [HB.out.2.2.2.1]
 go_wp2_with fail
 go_loopg [6] 2 (fun q s6 wx => ∃ j : Nat, q = 2 - j ∧ j ≤ 2 ∧ s6 = .int .i64 j ∧ WIE.E wB wx (fun b => b < wx.heap.size) (fun b => b < wx.heap.size))
 case atStart => exact ⟨0, rfl, by omega, rfl, HB.out.2.2.2.2.mono (fun _ h _ => h) (fun _ h _ => h)⟩
 case round =>
  obtain ⟨j, rfl, hj, rfl, hE⟩ := hrel
  have bw := WIE.E.bw hE
  have hM := HB.out.1.below bw
  have b0 := bel13 bw HB.out.2.1
  by_cases hlt : j < 2
  ·have q1 : (j : Int) < 2 := by omega
   have HR : Hid _ := And.intro hE (And.intro bw (And.intro hM b0))
   have p6 : IntKind.i64.wrap ((j : Int) + 1) = (j : Int) + 1 := by rw [IntKind.wrap_i64]; omega
   obtain ⟨s0, s1, s2, s3⟩ := four_cells hM.fs
   obtain ⟨l0, l1, l2, l3⟩ := four_cells hM.fl
   obtain ⟨y0, y1, y2, y3⟩ := four_cells hM.fe
   have hl11 : es.length ≤ 11000 := hlen
   have hn1 : n ≤ 1000 := by have := (right_parts H1.out.2.2.2.2.2.2.2.2.2.1).1.2; omega
   have h1 := cycles_ok hS n k s (.slice (some ⟨gl, 0, none⟩) L cl3) es (e 14) wr ((H1.out.2.2.2.2.2.2.2.2.1.below b0).s14 (by decide)) (lentE_has hM.hl) (by omega) (by omega) H1.out.2.2.2.2.2.2.2.2.2.1
   unfold sysV at h1
   have HC1 : Hid _ := h1
   clear h1 hE bw hM b0
   go_wp2_with fail
   refine Calls.mono (HC1.out) ?_
   rintro r w7 ⟨u7, cl, rfl, hC7, hO7, hb7⟩
   obtain ⟨a7, c7, hu⟩ := row_shape hO7
   have hcn : (natI cl).length = n := by simp [natI, hC7.len]
   rw [hcn] at hu
   subst hu
   have hM := HR.out.2.2.1.below hb7
   have b0 := bel13 hb7 HR.out.2.2.2
   have h1 := collapse_ok hS n k s (.slice (some ⟨gl, 0, none⟩) L cl3) es (e 14) w7 ((H1.out.2.2.2.2.2.2.2.2.1.below b0).s14 (by decide)) (lentE_has hM.hl) (by omega) (by omega) H1.out.2.2.2.2.2.2.2.2.2.1
   unfold sysV at h1
   have H7 : Hid _ := And.intro hC7 (And.intro hO7 (And.intro hb7 (And.intro hcn h1)))
   clear hC7 hO7 hb7 hcn h1 b0
   clear s0 s1 s2 s3 l0 l1 l2 l3 y0 y1 y2 y3
   obtain ⟨s0, s1, s2, s3⟩ := four_cells hM.fs
   obtain ⟨l0, l1, l2, l3⟩ := four_cells hM.fl
   obtain ⟨y0, y1, y2, y3⟩ := four_cells hM.fe
   clear hM
   go_wp2_with fail
   refine Calls.mono (H7.out.2.2.2.2) ?_
   rintro r w8 ⟨ue8, u8, cl8, rfl, hC8, hOe8, hO8, hb8⟩
   obtain rfl : cl8 = cl := hC8.same H7.out.1
   obtain ⟨a8, c8, hu⟩ := row_shape hO8
   rw [H7.out.2.2.2.1] at hu
   subst hu
   obtain ⟨ae8, ce8, hu⟩ := row_shape hOe8
   obtain ⟨E, hEE⟩ : ∃ E, E = Sy.nf (btw cl8 es) := ⟨_, rfl⟩
   rw [← hEE] at hu hOe8
   obtain ⟨M, hMl⟩ : ∃ M, M = E.length := ⟨_, rfl⟩
   rw [← hMl] at hu
   subst hu
   obtain ⟨tg, htg⟩ : ∃ t : Nat, t = tog cl8 := ⟨_, rfl⟩
   obtain ⟨st, hst⟩ : ∃ z, z = sta n cl8 s := ⟨_, rfl⟩
   rw [← htg, ← hst]
   have hM4 : M ≤ 100000 := by have h1 := Sy.nf_len (btw cl8 es); have h2 := btw_len cl8 es; rw [← hEE] at h1; omega
   obtain ⟨w9, hw9⟩ : ∃ w9, w9 = w8.alloc (.cells #[.int .i64 (tg : Int), .int .i64 k, .int .i64 st, .slice ae8 M ce8] 24) := ⟨_, rfl⟩
   have hb89 : Below w8.heap.size w8 w9 := by rw [hw9]; exact (Below.refl _ _).alloc (Nat.le_refl _) _
   have hg9 : w9.heap[w8.heap.size]? = some (.cells #[.int .i64 (tg : Int), .int .i64 k, .int .i64 st, .slice ae8 M ce8] 24 (0, 0)) := by rw [hw9]; exact heap_alloc_new w8 _
   have br9 := bel13 hb89 (bel13 hb8 H7.out.2.2.1)
   have hM := HR.out.2.2.1.below br9
   have b0 := bel13 br9 HR.out.2.2.2
   have h1 := order_ok hS n k s (.slice (some ⟨gl, 0, none⟩) L cl3) es (e 14) w9 ((H1.out.2.2.2.2.2.2.2.2.1.below b0).s14 (by decide)) (lentE_has hM.hl) (by omega) (by omega) H1.out.2.2.2.2.2.2.2.2.2.1
   unfold sysV at h1
   have H9 : Hid _ := And.intro hw9 (And.intro hg9 (And.intro (edge_up4 hOe8 hb89) (And.intro (own_up4 hO8 hb89) (And.intro (own_up4 H7.out.2.1 (hb8.trans (hb89.mono hb8.size))) (And.intro br9 (And.intro hEE (And.intro hMl (And.intro htg (And.intro hst h1)))))))))
   clear hC8 hOe8 hO8 hb8 hEE hMl htg hst hw9 hb89 hg9 br9 b0 h1
   clear s0 s1 s2 s3 l0 l1 l2 l3 y0 y1 y2 y3
   obtain ⟨s0, s1, s2, s3⟩ := four_cells hM.fs
   obtain ⟨l0, l1, l2, l3⟩ := four_cells hM.fl
   obtain ⟨y0, y1, y2, y3⟩ := four_cells hM.fe
   clear hM
   go_upto_region 11 with fail
   rw [← H9.out.1]
   go_wp2_with fail
   refine Calls.mono (H9.out.2.2.2.2.2.2.2.2.2.2) ?_
   rintro r w10 ⟨u10, cl9, od, rfl, hC9, hG9, hN9, hO9, hb10⟩
   obtain rfl : cl9 = cl8 := hC9.same H7.out.1
   obtain ⟨a10, c10, hu⟩ := row_shape hO9
   obtain ⟨N, hN⟩ : ∃ N, N = (od.flatMap (memI cl9)).length := ⟨_, rfl⟩
   rw [← hN] at hu
   subst hu
   have hNl : N ≤ 1000000 := by
    have h1 := flat_len (fun x => memI_len cl9 x) od
    have h2 : od.length * cl9.length ≤ 1000 * 1000 := Nat.mul_le_mul (by have := hG9.le; have := tog_le cl9; have := hC9.len; omega) (by have := hC9.len; omega)
    omega
   have br10 := bel13 hb10 H9.out.2.2.2.2.2.1
   have hM := HR.out.2.2.1.below br10
   have H10 : Hid _ := And.intro hG9 (And.intro hN9 (And.intro hO9 (And.intro hN (And.intro hb10 br10))))
   clear hC9 hG9 hN9 hO9 hN hb10 br10
   clear s0 s1 s2 s3 l0 l1 l2 l3 y0 y1 y2 y3
   obtain ⟨s0, s1, s2, s3⟩ := four_cells hM.fs
   obtain ⟨l0, l1, l2, l3⟩ := four_cells hM.fl
   obtain ⟨y0, y1, y2, y3⟩ := four_cells hM.fe
   clear hM
   have H10r : Hid (Below w10.heap.size w10 w10) := Below.refl _ _
   go_wp2_with fail
   refine Calls.mono (told_none 0 0 ⟨#[]⟩ w10) ?_
   rintro r w11 ⟨rfl, hb⟩
   have b10 := bel13 hb (H10r.out)
   have hM := HR.out.2.2.1.below (bel13 (bel13 b10 H10.out.2.2.2.2.1) H9.out.2.2.2.2.2.1)
   have H11 : Hid _ := b10
   clear hb b10
   clear s0 s1 s2 s3 l0 l1 l2 l3 y0 y1 y2 y3
   obtain ⟨s0, s1, s2, s3⟩ := four_cells hM.fs
   obtain ⟨l0, l1, l2, l3⟩ := four_cells hM.fl
   obtain ⟨y0, y1, y2, y3⟩ := four_cells hM.fe
   clear hM
   obtain ⟨m0, m1, m2, m3⟩ := four_cells (up14 (bel13 H11.out H10.out.2.2.2.2.1) H9.out.2.1)
   go_wp2_with fail
   refine Calls.mono (told_none 0 0 ⟨#[]⟩ w11) ?_
   rintro r w12 ⟨rfl, hb⟩
   have b10 := bel13 hb (H11.out)
   have hM := HR.out.2.2.1.below (bel13 (bel13 b10 H10.out.2.2.2.2.1) H9.out.2.2.2.2.2.1)
   have H12 : Hid _ := b10
   clear hb b10
   clear m0 m1 m2 m3
   clear s0 s1 s2 s3 l0 l1 l2 l3 y0 y1 y2 y3
   obtain ⟨s0, s1, s2, s3⟩ := four_cells hM.fs
   obtain ⟨l0, l1, l2, l3⟩ := four_cells hM.fl
   obtain ⟨y0, y1, y2, y3⟩ := four_cells hM.fe
   clear hM
   obtain ⟨m0, m1, m2, m3⟩ := four_cells (up14 (bel13 H12.out H10.out.2.2.2.2.1) H9.out.2.1)
   go_wp2_with fail
   refine Calls.mono (told_none 0 0 ⟨#[]⟩ w12) ?_
   rintro r w13 ⟨rfl, hb⟩
   have b10 := bel13 hb (H12.out)
   have hM := HR.out.2.2.1.below (bel13 (bel13 b10 H10.out.2.2.2.2.1) H9.out.2.2.2.2.2.1)
   have H13 : Hid _ := b10
   clear hb b10
   clear m0 m1 m2 m3
   clear s0 s1 s2 s3 l0 l1 l2 l3 y0 y1 y2 y3
   obtain ⟨s0, s1, s2, s3⟩ := four_cells hM.fs
   obtain ⟨l0, l1, l2, l3⟩ := four_cells hM.fl
   obtain ⟨y0, y1, y2, y3⟩ := four_cells hM.fe
   clear hM
   obtain ⟨m0, m1, m2, m3⟩ := four_cells (up14 (bel13 H13.out H10.out.2.2.2.2.1) H9.out.2.1)
   have br13 := bel13 (bel13 H13.out H10.out.2.2.2.2.1) H9.out.2.2.2.2.2.1
   have h1 := staysS_any n k s n k s w2.heap.size (.slice (some ⟨gl, 0, none⟩) L cl3) (.slice ao L cap) es w13 (by omega) (HR.out.2.2.1.below br13).hl (hasE_has2 (HR.out.2.2.1.below br13).hs)
   unfold sysV at h1
   have HS : Hid _ := h1
   clear h1 br13
   go_wp2_with fail
   refine Calls.mono (HS.out) ?_
   rintro r w14 ⟨rfl, hb⟩
   have b10 := bel13 hb H13.out
   have hM := HR.out.2.2.1.below (bel13 (bel13 b10 H10.out.2.2.2.2.1) H9.out.2.2.2.2.2.1)
   have h1 := docCollapse_any n k s (.slice ao L cap) es w14 hM.hs H1.out.2.2.2.2.2.2.2.2.2.1
   unfold sysV at h1
   have H14 : Hid _ := And.intro b10 h1
   clear hb b10 h1 m0 m1 m2 m3
   clear s0 s1 s2 s3 l0 l1 l2 l3 y0 y1 y2 y3
   obtain ⟨s0, s1, s2, s3⟩ := four_cells hM.fs
   obtain ⟨l0, l1, l2, l3⟩ := four_cells hM.fl
   obtain ⟨y0, y1, y2, y3⟩ := four_cells hM.fe
   clear hM
   go_wp2_with fail
   refine Calls.mono (H14.out.2) ?_
   rintro r w15 ⟨ue15, u15, cl15, rfl, hC15, hOe15, hO15, hb15⟩
   obtain rfl : cl15 = cl9 := hC15.same H7.out.1
   obtain ⟨a15, c15, hu⟩ := row_shape hO15
   rw [H7.out.2.2.2.1] at hu
   subst hu
   obtain ⟨ae15, ce15, hu⟩ := row_shape hOe15
   rw [← H9.out.2.2.2.2.2.2.1] at hu hOe15
   rw [← H9.out.2.2.2.2.2.2.2.1] at hu
   subst hu
   rw [← H9.out.2.2.2.2.2.2.2.2.1, ← H9.out.2.2.2.2.2.2.2.2.2.1]
   obtain ⟨w16, hw16⟩ : ∃ w16, w16 = w15.alloc (.cells #[.int .i64 (tg : Int), .int .i64 k, .int .i64 st, .slice ae15 M ce15] 24) := ⟨_, rfl⟩
   have hb16 : Below w15.heap.size w15 w16 := by rw [hw16]; exact (Below.refl _ _).alloc (Nat.le_refl _) _
   have hg16 : w16.heap[w15.heap.size]? = some (.cells #[.int .i64 (tg : Int), .int .i64 k, .int .i64 st, .slice ae15 M ce15] 24 (0, 0)) := by rw [hw16]; exact heap_alloc_new w15 _
   have b10 := bel13 hb16 (bel13 hb15 H14.out.1)
   have hM := HR.out.2.2.1.below (bel13 (bel13 b10 H10.out.2.2.2.2.1) H9.out.2.2.2.2.2.1)
   have H16 : Hid _ := And.intro hw16 (And.intro hg16 (And.intro (edge_up4 hOe15 hb16) (And.intro (own_up4 hO15 hb16) b10)))
   clear hC15 hOe15 hO15 hb15 hw16 hb16 hg16 b10
   clear s0 s1 s2 s3 l0 l1 l2 l3 y0 y1 y2 y3
   obtain ⟨s0, s1, s2, s3⟩ := four_cells hM.fs
   obtain ⟨l0, l1, l2, l3⟩ := four_cells hM.fl
   obtain ⟨y0, y1, y2, y3⟩ := four_cells hM.fe
   clear hM
   obtain ⟨m0, m1, m2, m3⟩ := four_cells (up14 (bel13 H16.out.2.2.2.2 H10.out.2.2.2.2.1) H9.out.2.1)
   obtain ⟨n0, n1, n2, n3⟩ := four_cells H16.out.2.1
   go_upto_region 18 with fail
   rw [← H16.out.1]
   go_wp2_with fail
   refine Calls.mono (sameInts_any _ _ (natI cl15) w16 (by have h9 : (natI cl15).length = n := H7.out.2.2.2.1; omega) (OwnI.has (own_up4 H9.out.2.2.2.2.1 (bel13 H16.out.2.2.2.2 H10.out.2.2.2.2.1))) (OwnI.has H16.out.2.2.2.1)) ?_
   rintro r w17 ⟨rfl, hb⟩
   have H17 : Hid _ := hb
   clear hb
   have b9 := bel13 (H17.out) (bel13 H16.out.2.2.2.2 H10.out.2.2.2.2.1)
   have hM := HR.out.2.2.1.below (bel13 b9 H9.out.2.2.2.2.2.1)
   clear m0 m1 m2 m3 n0 n1 n2 n3
   clear s0 s1 s2 s3 l0 l1 l2 l3 y0 y1 y2 y3
   obtain ⟨s0, s1, s2, s3⟩ := four_cells hM.fs
   obtain ⟨l0, l1, l2, l3⟩ := four_cells hM.fl
   obtain ⟨y0, y1, y2, y3⟩ := four_cells hM.fe
   obtain ⟨m0, m1, m2, m3⟩ := four_cells (up14 b9 H9.out.2.1)
   obtain ⟨n0, n1, n2, n3⟩ := four_cells (up14 (H17.out) H16.out.2.1)
   clear hM b9
   go_wp2_with fail
   refine Calls.mono (sameInts_any _ _ (natI cl15) w17 (by have h9 : (natI cl15).length = n := H7.out.2.2.2.1; omega) (OwnI.has (own_up4 H9.out.2.2.2.1 (bel13 H17.out (bel13 H16.out.2.2.2.2 H10.out.2.2.2.2.1)))) (OwnI.has (own_up4 H16.out.2.2.2.1 H17.out))) ?_
   rintro r w18 ⟨rfl, hb⟩
   have H18 : Hid _ := bel13 hb H17.out
   clear hb
   have b9 := bel13 (H18.out) (bel13 H16.out.2.2.2.2 H10.out.2.2.2.2.1)
   have hM := HR.out.2.2.1.below (bel13 b9 H9.out.2.2.2.2.2.1)
   clear m0 m1 m2 m3 n0 n1 n2 n3
   clear s0 s1 s2 s3 l0 l1 l2 l3 y0 y1 y2 y3
   obtain ⟨s0, s1, s2, s3⟩ := four_cells hM.fs
   obtain ⟨l0, l1, l2, l3⟩ := four_cells hM.fl
   obtain ⟨y0, y1, y2, y3⟩ := four_cells hM.fe
   obtain ⟨m0, m1, m2, m3⟩ := four_cells (up14 b9 H9.out.2.1)
   obtain ⟨n0, n1, n2, n3⟩ := four_cells (up14 (H18.out) H16.out.2.1)
   clear hM b9
   have h1 := sameSystem_b (tg : Int) k st (.slice ae8 M ce8) (.slice ae15 M ce15) E w18 (by have := H9.out.2.2.2.2.2.2.2.1; omega) (edge_up4 H9.out.2.2.1 (bel13 H18.out (bel13 H16.out.2.2.2.2 H10.out.2.2.2.2.1))).has (edge_up4 H16.out.2.2.1 H18.out).has
   unfold sysV at h1
   have HQ : Hid _ := h1
   clear h1
   go_wp2_with fail
   refine Calls.mono (HQ.out) ?_
   rintro r w19 ⟨rfl, hb⟩
   have H19 : Hid _ := bel13 hb H18.out
   clear hb
   have b9 := bel13 (H19.out) (bel13 H16.out.2.2.2.2 H10.out.2.2.2.2.1)
   have hM := HR.out.2.2.1.below (bel13 b9 H9.out.2.2.2.2.2.1)
   clear m0 m1 m2 m3 n0 n1 n2 n3
   clear s0 s1 s2 s3 l0 l1 l2 l3 y0 y1 y2 y3
   obtain ⟨s0, s1, s2, s3⟩ := four_cells hM.fs
   obtain ⟨l0, l1, l2, l3⟩ := four_cells hM.fl
   obtain ⟨y0, y1, y2, y3⟩ := four_cells hM.fe
   obtain ⟨m0, m1, m2, m3⟩ := four_cells (up14 b9 H9.out.2.1)
   obtain ⟨n0, n1, n2, n3⟩ := four_cells (up14 (H19.out) H16.out.2.1)
   clear hM b9
   have h1 := docOrder_any n k s (.slice ao L cap) es w19 (HR.out.2.2.1.below (bel13 (bel13 H19.out (bel13 H16.out.2.2.2.2 H10.out.2.2.2.2.1)) H9.out.2.2.2.2.2.1)).hs H1.out.2.2.2.2.2.2.2.2.2.1
   unfold sysV at h1
   have HD : Hid _ := h1
   clear h1
   go_wp2_with fail
   refine Calls.mono (HD.out) ?_
   rintro r w20 ⟨u20, cl20, od20, rfl, hC20, hG20, hN20, hO20, hb⟩
   obtain rfl : cl20 = cl15 := hC20.same H7.out.1
   obtain rfl : od20 = od := hG20.same hN20 H10.out.1 H10.out.2.1
   obtain ⟨a20, c20, hu⟩ := row_shape hO20
   rw [← H10.out.2.2.2.1] at hu
   subst hu
   have H20 : Hid _ := And.intro (bel13 hb H19.out) hO20
   clear hb hC20 hG20 hN20 hO20
   have b9 := bel13 (H20.out.1) (bel13 H16.out.2.2.2.2 H10.out.2.2.2.2.1)
   have hM := HR.out.2.2.1.below (bel13 b9 H9.out.2.2.2.2.2.1)
   clear m0 m1 m2 m3 n0 n1 n2 n3
   clear s0 s1 s2 s3 l0 l1 l2 l3 y0 y1 y2 y3
   obtain ⟨s0, s1, s2, s3⟩ := four_cells hM.fs
   obtain ⟨l0, l1, l2, l3⟩ := four_cells hM.fl
   obtain ⟨y0, y1, y2, y3⟩ := four_cells hM.fe
   obtain ⟨m0, m1, m2, m3⟩ := four_cells (up14 b9 H9.out.2.1)
   obtain ⟨n0, n1, n2, n3⟩ := four_cells (up14 (H20.out.1) H16.out.2.1)
   clear hM b9
   go_wp2_with fail
   refine Calls.mono (sameInts_any _ _ (od20.flatMap (memI cl20)) w20 (by have := H10.out.2.2.2.1; omega) (OwnI.has (own_up4 H10.out.2.2.1 (bel13 H20.out.1 H16.out.2.2.2.2))) (OwnI.has H20.out.2)) ?_
   rintro r w21 ⟨rfl, hb⟩
   have H21 : Hid _ := bel13 hb H20.out.1
   clear hb
   have b9 := bel13 (H21.out) (bel13 H16.out.2.2.2.2 H10.out.2.2.2.2.1)
   have hM := HR.out.2.2.1.below (bel13 b9 H9.out.2.2.2.2.2.1)
   clear m0 m1 m2 m3 n0 n1 n2 n3
   clear s0 s1 s2 s3 l0 l1 l2 l3 y0 y1 y2 y3
   obtain ⟨s0, s1, s2, s3⟩ := four_cells hM.fs
   obtain ⟨l0, l1, l2, l3⟩ := four_cells hM.fl
   obtain ⟨y0, y1, y2, y3⟩ := four_cells hM.fe
   obtain ⟨m0, m1, m2, m3⟩ := four_cells (up14 b9 H9.out.2.1)
   obtain ⟨n0, n1, n2, n3⟩ := four_cells (up14 (H21.out) H16.out.2.1)
   clear hM b9
   have b921 := bel13 H21.out (bel13 H16.out.2.2.2.2 H10.out.2.2.2.2.1)
   have br21 := bel13 b921 H9.out.2.2.2.2.2.1
   have b1021 := bel13 H21.out H16.out.2.2.2.2
   have q7 : ∀ b, (Value.slice a7 n c7).ownBlock = some b → wr.heap.size ≤ b ∧ b < w7.heap.size := fun b hb => H7.out.2.1.lt b hb
   have hE := (WIE.E.below HR.out.1 br21).addInts (.slice a7 n c7) (natI cl20) wr.heap.size (own_up4 H9.out.2.2.2.2.1 b921) HR.out.2.1.size (fun b hb h => by have := (q7 b hb).1; omega) (by have h9 : (natI cl20).length = n := H7.out.2.2.2.1; omega)
   have HK : Hid _ := And.intro hE (And.intro b921 (And.intro br21 (And.intro b1021 q7)))
   clear hE b921 br21 b1021 q7
   go_wp2_with fail
   refine Calls.mono (HK.out.1) ?_
   rintro r w22 ⟨rfl, hE22, hF22⟩
   have o8 := hF22.ownInts (own_up4 H9.out.2.2.2.1 HK.out.2.1)
   have o10 := hF22.ownInts (own_up4 H10.out.2.2.1 HK.out.2.2.2.1)
   have oe := hF22.ownEdges (edge_up4 H9.out.2.2.1 HK.out.2.1)
   have g9 := fr_sys hF22 (up14 HK.out.2.1 H9.out.2.1)
   have hE := hE22.addInts (.slice a8 n c8) (natI cl20) w7.heap.size o8 (Nat.le_trans HR.out.2.1.size H7.out.2.2.1.size) (fun b hb h => by
    have h8 := (World.ownsRow.lt o8 b hb).1
    rcases h with h | h
    ·have := H7.out.2.2.1.size; omega
    ·have := (HK.out.2.2.2.2 b h).2; omega) (by have h9 : (natI cl20).length = n := H7.out.2.2.2.1; omega)
   have H22 : Hid _ := And.intro hE (And.intro o8 (And.intro o10 (And.intro oe g9)))
   clear hE22 hF22 hE o8 o10 oe g9 m0 m1 m2 m3 n0 n1 n2 n3 s0 s1 s2 s3 l0 l1 l2 l3 y0 y1 y2 y3
   go_wp2_with fail
   refine Calls.mono (H22.out.1) ?_
   rintro r w23 ⟨rfl, hE23, hF23⟩
   have o10 := hF23.ownInts H22.out.2.2.1
   have oe := hF23.ownEdges H22.out.2.2.2.1
   have g9 := fr_sys hF23 H22.out.2.2.2.2
   have hE := hE23.addInts (.slice a10 N c10) (od20.flatMap (memI cl20)) w9.heap.size o10 (by have := H9.out.2.2.2.2.2.1.size; have := HR.out.2.1.size; omega) (fun b hb h => by
    have h8 := (World.ownsRow.lt o10 b hb).1
    have h9 := H9.out.2.2.2.2.2.1.size
    rcases h with (h | h) | h
    ·omega
    ·have h7 := (World.ownsRow.lt H9.out.2.2.2.2.1 b h).2; omega
    ·have h7 := (World.ownsRow.lt H9.out.2.2.2.1 b h).2; omega) (by have := H10.out.2.2.2.1; omega)
   have H23 : Hid _ := And.intro hE (And.intro oe g9)
   clear hE23 hF23 hE o10 oe g9
   go_wp2_with fail
   refine Calls.mono (H23.out.1) ?_
   rintro r w24 ⟨rfl, hE24, hF24⟩
   have oe := hF24.ownEdges H23.out.2.1
   have g9 := fr_sys hF24 H23.out.2.2
   obtain ⟨m0, m1, m2, m3⟩ := four_cells g9
   have hE := hE24.addEdges (.slice ae8 M ce8) E w7.heap.size oe (Nat.le_trans HR.out.2.1.size H7.out.2.2.1.size) (fun b hb h => by have h8 := (World.ownsRow.lt oe b hb).1; have := H7.out.2.2.1.size; omega) (by have := H9.out.2.2.2.2.2.2.2.1; omega)
   have H24 : Hid _ := And.intro hE trivial
   clear hE24 hF24 oe g9 hE
   go_wp2_with fail
   refine Calls.mono (H24.out.1) ?_
   rintro r w25 ⟨rfl, hE25, hF25⟩
   have H25 : Hid _ := And.intro hE25 trivial
   clear hE25 hF25 m0 m1 m2 m3
   go_wp2_with fail
   go_roundg (2 - (j + 1))
   case measure => omega
   case rel => exact ⟨j + 1, rfl, by omega, by go_num, WIE.E.mono H25.out.1 (fun _ h _ => h) (fun _ h _ => h)⟩
  ·have q1 : ¬ (j : Int) < 2 := by omega
   have HT : Hid _ := And.intro hE (And.intro b0 bw)
   clear hE hM bw b0
   go_wp2_with fail
   refine Calls.mono (H1.out.2.2.2.1 _ HT.out.2.1) ?_
   rintro r w7 ⟨rfl, hb7⟩
   have H7 : Hid (WIE.E wB w7 (fun b => b < wr.heap.size) (fun b => b < wr.heap.size)) := WIE.E.below HT.out.1 hb7
   clear hb7
   go_wp2_with fail
   refine Calls.mono (WIE.E.apart H7.out) ?_
   rintro r w8 ⟨rfl, hb8⟩
   have H8 : Hid _ := bel13 hb8 HB.out.2.1
   clear hb8
   go_wp2_with fail
   go_ret
   exact ⟨rfl, H8.out⟩
set_option linter.unusedSimpArgs false in
set_option maxRecDepth 100000 in
set_option maxHeartbeats 16000000 in
theorem lawC_bad (hS : SortOk 1000000) (n : Int) (k s : Int) (v : Value) (es : List Sy.Ed) (e : Nat → Addr) (w : World) (hA : PAl w) (hE : Er 19 w e) (hv : HasE w v es) (hlen : es.length ≤ 11000) (hli : lightB n es.length (Sy.right n k s es) = true) (hq : Sy.right n k s es = false) :
 Calls Tryz.prog 3 #[sysV n k s v] w fun r w' => r = .returned (.bool true) ∧ Below w.heap.size w w' := by
 have hvs := hv
 obtain ⟨ao, cap, rfl, hcap, hH⟩ := hvs
 obtain ⟨L, hL⟩ : ∃ L, L = es.length := ⟨_, rfl⟩
 obtain ⟨w1, hw1⟩ : ∃ w1, w1 = w.alloc (.cells #[.int .i64 n, .int .i64 k, .int .i64 s, .slice ao L cap] 24) := ⟨_, rfl⟩
 have hb1 : Below w.heap.size w w1 := by rw [hw1]; exact (Below.refl _ _).alloc (Nat.le_refl _) _
 have hg1 : w1.heap[w.heap.size]? = some (.cells #[.int .i64 n, .int .i64 k, .int .i64 s, .slice ao L cap] 24 (0, 0)) := by rw [hw1]; exact heap_alloc_new w _
 have hLt := light_any n k s _ es w1 (hH.below hb1)
 rw [hli] at hLt
 have hLn := fun W (hb : Below w1.heap.size w1 W) => lentS_any n k s _ es W (by omega) ((hH.below hb1).below hb)
 have hHd := fun W (hb : Below w1.heap.size w1 W) => handed_tau n k s _ es W ((hH.below hb1).below hb)
 rw [hq] at hHd
 rw [← hL] at hLt hHd hLn hv ⊢
 unfold sysV at hLt hHd hLn ⊢
 have H1 : Hid _ := And.intro hw1 (And.intro hb1 (And.intro hLt (And.intro hA (And.intro hLn (And.intro hHd (And.intro hg1 (And.intro hv (And.intro hE (And.intro hq hL)))))))))
 obtain ⟨x0, x1, x2, x3⟩ := four_cells hg1
 clear hA hv hH hcap hw1 hb1 hg1 hLt hHd hLn hli hq hE hL
 go_enter Tryz.func3, Tryz.ntmps3
 go_upto_region 1 with fail
 rw [← H1.out.1]
 go_wp2_with fail
 refine Calls.mono H1.out.2.2.1 ?_
 rintro r w2 ⟨rfl, hb2⟩
 have hg2 := up14 hb2 H1.out.2.2.2.2.2.2.1
 have H2 : Hid _ := And.intro hb2 hg2
 clear hb2 x0 x1 x2 x3
 obtain ⟨x0, x1, x2, x3⟩ := four_cells hg2
 clear hg2
 go_wp2_with fail
 refine Calls.mono (H1.out.2.2.2.2.1 w2 H2.out.1) ?_
 rintro r w3 ⟨ul, rfl, hl3, hb3⟩
 obtain ⟨gl, cl3, hul, -, -⟩ := id hl3
 rw [← H1.out.2.2.2.2.2.2.2.2.2.2] at hul
 subst hul
 obtain ⟨w4, hw4⟩ : ∃ w4, w4 = w3.alloc (.cells #[.int .i64 n, .int .i64 k, .int .i64 s, .slice (some ⟨gl, 0, none⟩) L cl3] 24) := ⟨_, rfl⟩
 have hb4 : Below w3.heap.size w3 w4 := by rw [hw4]; exact (Below.refl _ _).alloc (Nat.le_refl _) _
 have hg4 : w4.heap[w3.heap.size]? = some (.cells #[.int .i64 n, .int .i64 k, .int .i64 s, .slice (some ⟨gl, 0, none⟩) L cl3] 24 (0, 0)) := by rw [hw4]; exact heap_alloc_new w3 _
 have b24 := bel13 hb4 hb3
 have hgs4 := up14 b24 H2.out.2
 have b14 := bel13 b24 H2.out.1
 have H4 : Hid _ := And.intro hw4 (And.intro hg4 (And.intro (hl3.below hb4) (And.intro hgs4 b14)))
 clear hl3 hb3 hw4 hb4 b24 b14 x0 x1 x2 x3
 obtain ⟨x0, x1, x2, x3⟩ := four_cells hgs4
 clear hgs4 hg4
 go_upto_region 4 with fail
 rw [← H4.out.1]
 go_wp2_with fail
 refine Calls.mono (H1.out.2.2.2.2.2.1 w4 H4.out.2.2.2.2) ?_
 rintro r w5 ⟨rfl, hb5⟩
 have hhd : hndTau false = .agg #[.int .i64 14, .int .i64 0, .int .i64 0, .string tauB2] := rfl
 rw [hhd]
 clear hhd
 obtain ⟨wB, hwB⟩ : ∃ wB, wB = w5.alloc (.cells #[.int .i64 14, .int .i64 0, .int .i64 0, .string tauB2] 29) := ⟨_, rfl⟩
 have hbB : Below w5.heap.size w5 wB := by rw [hwB]; exact (Below.refl _ _).alloc (Nat.le_refl _) _
 have hgB : wB.heap[w5.heap.size]? = some (.cells #[.int .i64 14, .int .i64 0, .int .i64 0, .string tauB2] 29 (0, 0)) := by rw [hwB]; exact heap_alloc_new w5 _
 have b4B := bel13 hbB hb5
 have b1B := bel13 b4B H4.out.2.2.2.2
 have hM : LcM wB w.heap.size w3.heap.size w5.heap.size n k s (.slice ao L cap) (.slice (some ⟨gl, 0, none⟩) L cl3) es w2.heap.size false := ⟨up14 b4B H4.out.2.2.2.1, up14 b4B H4.out.2.1, hgB, (H1.out.2.2.2.2.2.2.2.1.below H1.out.2.1).below b1B, H4.out.2.2.1.below b4B⟩
 obtain ⟨w6, hw6⟩ : ∃ w6, w6 = wB.alloc (.cells WIE.bookZ 44) := ⟨_, rfl⟩
 have hE6 := WIE.new wB
 rw [← hw6] at hE6
 have hw6' : wB.alloc (.cells #[.slice none 0 0, .slice none 0 0, .slice none 0 0, .slice none 0 0, .slice none 0 0, .slice none 0 0, .slice none 0 0, .slice none 0 0, .slice none 0 0, .slice none 0 0, .slice none 0 0, .slice none 0 0, .slice none 0 0, .slice none 0 0, .slice none 0 0, .slice none 0 0, .slice none 0 0, .slice none 0 0, .slice none 0 0, .slice none 0 0, .slice none 0 0, .slice none 0 0] 44) = w6 := by rw [hw6]; rfl
 have HB : Hid _ := And.intro hM (And.intro (bel13 b1B H1.out.2.1) (And.intro hwB (And.intro hw6' hE6)))
 clear hb5 hbB hgB b4B b1B hM hwB hw6 hw6' hE6 x0 x1 x2 x3
 go_upto_region 5 with fail
 rw [← HB.out.2.2.1]
 go_upto_region 6 with fail
 rw [HB.out.2.2.2.1]
 go_wp2_with fail
 go_loopg [6] 2 (fun q s6 wx => ∃ j : Nat, q = 2 - j ∧ j ≤ 2 ∧ s6 = .int .i64 j ∧ WIE.E wB wx (fun b => b < wx.heap.size) (fun b => b < wx.heap.size))
 case atStart => exact ⟨0, rfl, by omega, rfl, HB.out.2.2.2.2.mono (fun _ h _ => h) (fun _ h _ => h)⟩
 case round =>
  obtain ⟨j, rfl, hj, rfl, hE⟩ := hrel
  have bw := WIE.E.bw hE
  have hM := HB.out.1.below bw
  have b0 := bel13 bw HB.out.2.1
  by_cases hlt : j < 2
  ·have q1 : (j : Int) < 2 := by omega
   have HR : Hid _ := And.intro hE (And.intro bw (And.intro hM b0))
   have p6 : IntKind.i64.wrap ((j : Int) + 1) = (j : Int) + 1 := by rw [IntKind.wrap_i64]; omega
   obtain ⟨s0, s1, s2, s3⟩ := four_cells hM.fs
   obtain ⟨l0, l1, l2, l3⟩ := four_cells hM.fl
   obtain ⟨y0, y1, y2, y3⟩ := four_cells hM.fe
   have h1 := cycles_bad hS n k s (.slice (some ⟨gl, 0, none⟩) L cl3) es (e 14) wr ((H1.out.2.2.2.2.2.2.2.2.1.below b0).s14 (by decide)) (lentE_has hM.hl) (by omega) (by omega) H1.out.2.2.2.2.2.2.2.2.2.1
   unfold sysV at h1
   have HC1 : Hid _ := h1
   clear h1 hE bw hM b0
   go_wp2_with fail
   refine Calls.mono (HC1.out) ?_
   rintro r w7 ⟨b7, rfl, hC7, hb7⟩
   have hM := HR.out.2.2.1.below hb7
   have b0 := bel13 hb7 HR.out.2.2.2
   have h1 := collapse_bad hS n k s (.slice (some ⟨gl, 0, none⟩) L cl3) es (e 14) w7 ((H1.out.2.2.2.2.2.2.2.2.1.below b0).s14 (by decide)) (lentE_has hM.hl) (by omega) (by omega) H1.out.2.2.2.2.2.2.2.2.2.1
   unfold sysV at h1
   have H7 : Hid _ := And.intro hC7 (And.intro hb7 h1)
   clear hC7 hb7 h1 b0
   clear s0 s1 s2 s3 l0 l1 l2 l3 y0 y1 y2 y3
   obtain ⟨s0, s1, s2, s3⟩ := four_cells hM.fs
   obtain ⟨l0, l1, l2, l3⟩ := four_cells hM.fl
   obtain ⟨y0, y1, y2, y3⟩ := four_cells hM.fe
   clear hM
   go_wp2_with fail
   refine Calls.mono (H7.out.2.2) ?_
   rintro r w8 ⟨b8, rfl, hC8, hb8⟩
   obtain ⟨w9, hw9⟩ : ∃ w9, w9 = w8.alloc (.cells #[.int .i64 0, .int .i64 0, .int .i64 0, .slice none 0 0] 24) := ⟨_, rfl⟩
   have hb89 : Below w8.heap.size w8 w9 := by rw [hw9]; exact (Below.refl _ _).alloc (Nat.le_refl _) _
   have hg9 : w9.heap[w8.heap.size]? = some (.cells #[.int .i64 0, .int .i64 0, .int .i64 0, .slice none 0 0] 24 (0, 0)) := by rw [hw9]; exact heap_alloc_new w8 _
   have b79 := bel13 hb89 hb8
   have br9 := bel13 b79 H7.out.2.1
   have hM := HR.out.2.2.1.below br9
   have b0 := bel13 br9 HR.out.2.2.2
   have h1 := order_bad hS n k s (.slice (some ⟨gl, 0, none⟩) L cl3) es (e 14) w9 ((H1.out.2.2.2.2.2.2.2.2.1.below b0).s14 (by decide)) (lentE_has hM.hl) (by omega) (by omega) H1.out.2.2.2.2.2.2.2.2.2.1
   unfold sysV at h1
   have H9 : Hid _ := And.intro hw9 (And.intro hg9 (And.intro (H7.out.1.below b79) (And.intro (hC8.below hb89) (And.intro br9 h1))))
   clear hC8 hb8 hw9 hb89 hg9 b79 br9 b0 h1
   clear s0 s1 s2 s3 l0 l1 l2 l3 y0 y1 y2 y3
   obtain ⟨s0, s1, s2, s3⟩ := four_cells hM.fs
   obtain ⟨l0, l1, l2, l3⟩ := four_cells hM.fl
   obtain ⟨y0, y1, y2, y3⟩ := four_cells hM.fe
   clear hM
   go_upto_region 11 with fail
   rw [← H9.out.1]
   go_wp2_with fail
   refine Calls.mono (H9.out.2.2.2.2.2) ?_
   rintro r w10 ⟨b10, rfl, hC10, hb10⟩
   have hM := HR.out.2.2.1.below (bel13 hb10 H9.out.2.2.2.2.1)
   have H10 : Hid _ := And.intro hC10 hb10
   clear hC10 hb10
   clear s0 s1 s2 s3 l0 l1 l2 l3 y0 y1 y2 y3
   obtain ⟨s0, s1, s2, s3⟩ := four_cells hM.fs
   obtain ⟨l0, l1, l2, l3⟩ := four_cells hM.fl
   obtain ⟨y0, y1, y2, y3⟩ := four_cells hM.fe
   clear hM
   have H10b : Hid (Below w10.heap.size w10 w10) := Below.refl _ _
   have h1 := told_14 (m := 19) (by decide) _ [tauB, sysB] 0 0 e w10 (H1.out.2.2.2.2.2.2.2.2.1.below (bel13 (bel13 (H10.out.2) H9.out.2.2.2.2.1) HR.out.2.2.2)) (H9.out.2.2.1.below H10.out.2) (by decide) (by decide)
   rw [tau_join2] at h1
   have HT1 : Hid _ := h1
   clear h1
   go_wp2_with fail
   refine Calls.mono (HT1.out) ?_
   rintro r w11 ⟨rfl, hb⟩
   have hM := HR.out.2.2.1.below (bel13 (bel13 hb (H10.out.2)) H9.out.2.2.2.2.1)
   have H11 : Hid _ := And.intro (bel13 hb (H10.out.2)) (bel13 hb H10b.out)
   clear hb HT1
   clear s0 s1 s2 s3 l0 l1 l2 l3 y0 y1 y2 y3
   obtain ⟨s0, s1, s2, s3⟩ := four_cells hM.fs
   obtain ⟨l0, l1, l2, l3⟩ := four_cells hM.fl
   obtain ⟨y0, y1, y2, y3⟩ := four_cells hM.fe
   clear hM
   obtain ⟨m0, m1, m2, m3⟩ := four_cells (up14 H11.out.1 H9.out.2.1)
   have h1 := told_14 (m := 19) (by decide) _ [tauB, sysB] 0 0 e w11 (H1.out.2.2.2.2.2.2.2.2.1.below (bel13 (bel13 (H11.out.1) H9.out.2.2.2.2.1) HR.out.2.2.2)) (H9.out.2.2.2.1.below H11.out.1) (by decide) (by decide)
   rw [tau_join2] at h1
   have HT1 : Hid _ := h1
   clear h1
   go_wp2_with fail
   refine Calls.mono (HT1.out) ?_
   rintro r w12 ⟨rfl, hb⟩
   have hM := HR.out.2.2.1.below (bel13 (bel13 hb (H11.out.1)) H9.out.2.2.2.2.1)
   have H12 : Hid _ := And.intro (bel13 hb (H11.out.1)) (bel13 hb H11.out.2)
   clear hb HT1
   clear s0 s1 s2 s3 l0 l1 l2 l3 y0 y1 y2 y3
   obtain ⟨s0, s1, s2, s3⟩ := four_cells hM.fs
   obtain ⟨l0, l1, l2, l3⟩ := four_cells hM.fl
   obtain ⟨y0, y1, y2, y3⟩ := four_cells hM.fe
   clear hM
   clear m0 m1 m2 m3
   obtain ⟨m0, m1, m2, m3⟩ := four_cells (up14 H12.out.1 H9.out.2.1)
   have h1 := told_14 (m := 19) (by decide) _ [tauB, sysB] 0 0 e w12 (H1.out.2.2.2.2.2.2.2.2.1.below (bel13 (bel13 (H12.out.1) H9.out.2.2.2.2.1) HR.out.2.2.2)) (H10.out.1.below H12.out.2) (by decide) (by decide)
   rw [tau_join2] at h1
   have HT1 : Hid _ := h1
   clear h1
   go_wp2_with fail
   refine Calls.mono (HT1.out) ?_
   rintro r w13 ⟨rfl, hb⟩
   have hM := HR.out.2.2.1.below (bel13 (bel13 hb (H12.out.1)) H9.out.2.2.2.2.1)
   have H13 : Hid _ := And.intro (bel13 hb (H12.out.1)) (bel13 hb H12.out.2)
   clear hb HT1
   clear s0 s1 s2 s3 l0 l1 l2 l3 y0 y1 y2 y3
   obtain ⟨s0, s1, s2, s3⟩ := four_cells hM.fs
   obtain ⟨l0, l1, l2, l3⟩ := four_cells hM.fl
   obtain ⟨y0, y1, y2, y3⟩ := four_cells hM.fe
   clear hM
   clear m0 m1 m2 m3
   obtain ⟨m0, m1, m2, m3⟩ := four_cells (up14 H13.out.1 H9.out.2.1)
   have br13 := bel13 H13.out.1 H9.out.2.2.2.2.1
   have h1 := staysS_any n k s n k s w2.heap.size (.slice (some ⟨gl, 0, none⟩) L cl3) (.slice ao L cap) es w13 (by omega) (HR.out.2.2.1.below br13).hl (hasE_has2 (HR.out.2.2.1.below br13).hs)
   unfold sysV at h1
   have HS : Hid _ := h1
   clear h1 br13
   go_wp2_with fail
   refine Calls.mono (HS.out) ?_
   rintro r w14 ⟨rfl, hb⟩
   have b9 := bel13 hb H13.out.1
   have hM := HR.out.2.2.1.below (bel13 b9 H9.out.2.2.2.2.1)
   have H14 : Hid _ := b9
   clear hb b9 m0 m1 m2 m3
   clear s0 s1 s2 s3 l0 l1 l2 l3 y0 y1 y2 y3
   obtain ⟨s0, s1, s2, s3⟩ := four_cells hM.fs
   obtain ⟨l0, l1, l2, l3⟩ := four_cells hM.fl
   obtain ⟨y0, y1, y2, y3⟩ := four_cells hM.fe
   clear hM
   obtain ⟨m0, m1, m2, m3⟩ := four_cells (up14 H14.out H9.out.2.1)
   have h1 := sameSystem_b 0 0 0 (.slice none 0 0) (.slice none 0 0) [] w14 (by simp) (nil_has _) (nil_has _)
   unfold sysV at h1
   have HQ : Hid _ := h1
   clear h1
   go_wp2_with fail
   refine Calls.mono (HQ.out) ?_
   rintro r w15 ⟨rfl, hb⟩
   have H15 : Hid (WIE.E wB w15 (fun b => b < wr.heap.size) (fun b => b < wr.heap.size)) := WIE.E.below HR.out.1 (bel13 hb (bel13 H14.out H9.out.2.2.2.2.1))
   clear hb m0 m1 m2 m3
   go_wp2_with fail
   go_roundg (2 - (j + 1))
   case measure => omega
   case rel => exact ⟨j + 1, rfl, by omega, by go_num, WIE.E.mono H15.out (fun _ h _ => h) (fun _ h _ => h)⟩
  ·have q1 : ¬ (j : Int) < 2 := by omega
   have HT : Hid _ := And.intro hE (And.intro b0 bw)
   clear hE hM bw b0
   go_wp2_with fail
   refine Calls.mono (H1.out.2.2.2.1 _ HT.out.2.1) ?_
   rintro r w7 ⟨rfl, hb7⟩
   have H7 : Hid (WIE.E wB w7 (fun b => b < wr.heap.size) (fun b => b < wr.heap.size)) := WIE.E.below HT.out.1 hb7
   clear hb7
   go_wp2_with fail
   refine Calls.mono (WIE.E.apart H7.out) ?_
   rintro r w8 ⟨rfl, hb8⟩
   have H8 : Hid _ := bel13 hb8 HB.out.2.1
   clear hb8
   go_wp2_with fail
   go_ret
   exact ⟨rfl, H8.out⟩
theorem lawCyclesAll_any (hS : SortOk 1000000) (n k s : Int) (v : Value) (es : List Sy.Ed) (e : Nat → Addr) (w : World) (hE : Er 19 w e) (hv : HasE w v es) :
 Calls Tryz.prog 3 #[sysV n k s v] w fun r w' => r = .returned (.bool true) ∧ Below w.heap.size w w' := by
 have hA := pAl hS (e 14) w (hE.s14 (by decide))
 cases hli : lightB n es.length (Sy.right n k s es) with
 | false => exact lawC_out n k s v es w hA hv hli
 | true =>
   have hlen : es.length ≤ 11000 := by
    unfold lightB at hli
    simp only [Bool.or_eq_true, Bool.and_eq_true, decide_eq_true_eq] at hli
    omega
   cases hq : Sy.right n k s es with
   | false => exact lawC_bad hS n k s v es e w hA hE hv hlen hli hq
   | true =>
     obtain ⟨m, rfl⟩ : ∃ m : Nat, n = (m : Int) := ⟨n.toNat, by have := (right_parts hq).1; omega⟩
     exact lawC_ok hS m k s v es e w hA hE hv hlen hli hq
end Go.Proofs.YtplofbabfkkimaaGreatDoor.Ts
/- Contracts of slices' order2, median, medianAdjacent and choosePivot of edges by a view's comparison. (Written by mkpiv.py.) -/
namespace Go.Proofs.YtplofbabfkkimaaGreatDoor
open Go.RowKit Go.Maps
attribute [local go_sem ↓] Go.wp_at_zero Go.wp_at_succ
structure CnE (w0 wr : World) (g : Nat) (d : Array Sy.Ed) (rest : List Value) (c s : Nat) : Prop where
 row : RowE w0 wr g d rest
 cell : wr.heap[c]? = some (.cells #[.int .i64 s] 3 (0, 0))
 up : w0.heap.size ≤ c
theorem CnE.below {w0 wr w' : World} {g : Nat} {d : Array Sy.Ed} {rest : List Value} {c s : Nat} (h : CnE w0 wr g d rest c s) (hb : Below wr.heap.size wr w') : CnE w0 w' g d rest c s := ⟨h.row.below hb, (hb.block _ (t_lt h.cell)).trans h.cell, h.up⟩
theorem CnE.bump {w0 wr : World} {g : Nat} {d : Array Sy.Ed} {rest : List Value} {c s : Nat} (h : CnE w0 wr g d rest c s) (t : Nat) : CnE w0 (wr.setCell ⟨c, 0, none⟩ (.int .i64 t)) g d rest c t := by
 have hne : c ≠ g := fun e => by
  obtain ⟨cs, hc, _⟩ := h.row.ids
  have h1 := h.cell
  rw [e, hc] at h1
  injection h1 with h1
  injection h1 with _ h1
  exact absurd h1 (by decide)
 exact ⟨Arr.kept h.row (Kept.setCell _ _ _ _) fun b e => by subst e; exact ⟨h.up, hne⟩, heap_setCell_same _ _ 0 _ _ _ h.cell, h.up⟩
set_option maxRecDepth 100000 in
set_option maxHeartbeats 4000000 in
theorem order2_any (f : Nat) (vw : Sy.Ed → Sy.Ed) (hV : ViewAt f vw) (g cap a b c0 s : Nat) (d : Array Sy.Ed) (rest : List Value) (w0 w : World) (hR : CnE w0 w g d rest c0 s) (ha : a < d.size) (hb : b < d.size) (hs : s ≤ 1000000) :
 Calls Tryz.prog 175 #[.slice (some ⟨g, 0, none⟩) d.size cap, .int .i64 a, .int .i64 b, .pointer (some ⟨c0, 0, none⟩), cmpV f] w fun r w' => r = .returned (.tuple #[.int .i64 (Sort.order2 (ltV vw) d a b s).1, .int .i64 (Sort.order2 (ltV vw) d a b s).2.1]) ∧ CnE w0 w' g d rest c0 (Sort.order2 (ltV vw) d a b s).2.2 := by
 obtain ⟨n, hn⟩ : ∃ n, n = d.size := ⟨_, rfl⟩
 have HR : Hid _ := And.intro hR (And.intro hn hV)
 rw [← hn] at ha hb ⊢
 unfold cmpV Sort.order2
 have he := enter_cmp
 obtain ⟨x0, x1, x2⟩ := hR.row.cells (j := b) (by omega)
 obtain ⟨y0, y1, y2⟩ := hR.row.cells (j := a) (by omega)
 have hcm := fun W => compare_any f vw HR.out.2.2 (d[b]!) (d[a]!) W
 unfold edV at hcm
 have hlt2 := cmpV_neg vw (d[b]!) (d[a]!)
 obtain ⟨xe, hxe⟩ : ∃ xe, xe = d[b]! := ⟨_, rfl⟩
 obtain ⟨ye, hye⟩ : ∃ ye, ye = d[a]! := ⟨_, rfl⟩
 rw [← hxe] at x0 x1 x2 hcm hlt2
 rw [← hye] at y0 y1 y2 hcm hlt2
 have HE : Hid _ := And.intro hxe hye
 clear hxe hye
 obtain ⟨xa, xb, xc⟩ := xe
 obtain ⟨ya, yb, yc⟩ := ye
 generalize cmpE (vw (xa, xb, xc)) (vw (ya, yb, yc)) = c at hcm hlt2
 have HC : Hid _ := hcm
 have HL : Hid _ := hlt2
 clear hcm hlt2
 simp only at x0 x1 x2 y0 y1 y2
 clear hR hn hV
 have p0 : (0 : Int) ≤ (b : Int) := by omega
 have p1 : (b : Int) < (n : Int) := by omega
 have p2 : (0 : Int) ≤ (a : Int) := by omega
 have p3 : (a : Int) < (n : Int) := by omega
 by_cases hc : c < 0
 ·have p6 : decide (c < 0) = true := decide_eq_true hc
  rw [if_pos (by rw [← HE.out.1, ← HE.out.2]; exact HL.out.1 hc)]
  go_enter Tryz.func175, Tryz.ntmps175
  go_upto_region 1 with fail
  go_region_held3 (fun w' => ((w'.cell? ⟨g, b * 3, none⟩ = some (.int .i64 xa) ∧ w'.cell? ⟨g, b * 3 + 1, none⟩ = some (.int .i64 xb) ∧ w'.cell? ⟨g, b * 3 + 2, none⟩ = some (.int .i64 xc)) ∧ (w'.cell? ⟨g, a * 3, none⟩ = some (.int .i64 ya) ∧ w'.cell? ⟨g, a * 3 + 1, none⟩ = some (.int .i64 yb) ∧ w'.cell? ⟨g, a * 3 + 2, none⟩ = some (.int .i64 yc))) ∧ Hid (Below w.heap.size w w')) (first | exact rg_up6 hb3 (by assumption) | exact ⟨⟨⟨x0, x1, x2⟩, ⟨y0, y1, y2⟩⟩, ((Below.refl _ _).drew : Below w.heap.size w w.drew)⟩ | go_keep)
   ((first
     | (go_at_fn 129; refine (HC.out _).mono ?_; rintro r w3 ⟨rfl, hb3⟩)
     | fail))
  have hbq : Below w.heap.size w w3 := rg_b (by assumption)
  clear x0 x1 x2 y0 y1 y2 hb3 HC
  rename_i hS3
  clear hS3
  have hR3 := HR.out.1.below hbq
  have k0 : w3.cell? ⟨c0, 0, none⟩ = some (.int .i64 s) := cell0_of hR3.cell rfl
  have k1 := blk_free hR3.cell 0
  have p8 : IntKind.i64.wrap ((s : Int) + 1) = (s : Int) + 1 := by rw [IntKind.wrap_i64]; omega
  have H3 : Hid _ := hR3
  clear hR3 hbq
  go_wp2_with fail
  go_ret2
  exact ⟨rfl, H3.out.bump (s + 1)⟩
 ·have p6 : decide (c < 0) = false := decide_eq_false hc
  rw [if_neg (by rw [← HE.out.1, ← HE.out.2]; intro h; exact hc (HL.out.2 h))]
  go_enter Tryz.func175, Tryz.ntmps175
  go_upto_region 1 with fail
  go_region_held3 (fun w' => ((w'.cell? ⟨g, b * 3, none⟩ = some (.int .i64 xa) ∧ w'.cell? ⟨g, b * 3 + 1, none⟩ = some (.int .i64 xb) ∧ w'.cell? ⟨g, b * 3 + 2, none⟩ = some (.int .i64 xc)) ∧ (w'.cell? ⟨g, a * 3, none⟩ = some (.int .i64 ya) ∧ w'.cell? ⟨g, a * 3 + 1, none⟩ = some (.int .i64 yb) ∧ w'.cell? ⟨g, a * 3 + 2, none⟩ = some (.int .i64 yc))) ∧ Hid (Below w.heap.size w w')) (first | exact rg_up6 hb3 (by assumption) | exact ⟨⟨⟨x0, x1, x2⟩, ⟨y0, y1, y2⟩⟩, ((Below.refl _ _).drew : Below w.heap.size w w.drew)⟩ | go_keep)
   ((first
     | (go_at_fn 129; refine (HC.out _).mono ?_; rintro r w3 ⟨rfl, hb3⟩)
     | fail))
  have hbq : Below w.heap.size w w3 := rg_b (by assumption)
  clear x0 x1 x2 y0 y1 y2 hb3 HC
  rename_i hS3
  clear hS3
  have H3 : Hid _ := HR.out.1.below hbq
  clear hbq
  go_wp2_with fail
  go_ret2
  exact ⟨rfl, H3.out⟩
theorem o2_lt {lt : Sy.Ed → Sy.Ed → Bool} {d : Array Sy.Ed} {a b s n : Nat} (ha : a < n) (hb : b < n) : (Sort.order2 lt d a b s).1 < n ∧ (Sort.order2 lt d a b s).2.1 < n ∧ (Sort.order2 lt d a b s).2.2 ≤ s + 1 := by
 unfold Sort.order2
 split <;> simp [ha, hb]
set_option maxRecDepth 100000 in
set_option maxHeartbeats 4000000 in
theorem median_any (f : Nat) (vw : Sy.Ed → Sy.Ed) (hV : ViewAt f vw) (g cap a b c c0 s : Nat) (d : Array Sy.Ed) (rest : List Value) (w0 w : World) (hR : CnE w0 w g d rest c0 s) (ha : a < d.size) (hb : b < d.size) (hc : c < d.size) (hs : s + 3 ≤ 1000000) :
 Calls Tryz.prog 174 #[.slice (some ⟨g, 0, none⟩) d.size cap, .int .i64 a, .int .i64 b, .int .i64 c, .pointer (some ⟨c0, 0, none⟩), cmpV f] w fun r w' => r = .returned (.int .i64 (Sort.median (ltV vw) d a b c s).1) ∧ CnE w0 w' g d rest c0 (Sort.median (ltV vw) d a b c s).2 := by
 have h1 := order2_any f vw hV g cap a b c0 s d rest w0 w hR ha hb (by omega)
 obtain ⟨l1, l2, l3⟩ := o2_lt (lt := ltV vw) (d := d) (s := s) ha hb
 unfold Sort.median
 generalize Sort.order2 (ltV vw) d a b s = r1 at h1 l1 l2 l3 ⊢
 obtain ⟨a1, b1, s1⟩ := r1
 simp only at h1 l1 l2 l3 ⊢
 have h2 := fun W (h : CnE w0 W g d rest c0 s1) => order2_any f vw hV g cap b1 c c0 s1 d rest w0 W h l2 hc (by omega)
 obtain ⟨l4, l5, l6⟩ := o2_lt (lt := ltV vw) (d := d) (s := s1) l2 hc
 generalize Sort.order2 (ltV vw) d b1 c s1 = r2 at h2 l4 l5 l6 ⊢
 obtain ⟨b2, c2, s2⟩ := r2
 simp only at h2 l4 l5 l6 ⊢
 have h3 := fun W (h : CnE w0 W g d rest c0 s2) => order2_any f vw hV g cap a1 b2 c0 s2 d rest w0 W h l1 l4 (by omega)
 generalize Sort.order2 (ltV vw) d a1 b2 s2 = r3 at h3 ⊢
 obtain ⟨a3, b3, s3⟩ := r3
 simp only at h3 ⊢
 have HH : Hid _ := And.intro h1 (And.intro h2 h3)
 unfold cmpV at HH ⊢
 clear h1 h2 h3 hR hV l1 l2 l3 l4 l5 l6
 go_enter Tryz.func174, Tryz.ntmps174
 go_wp2_with fail
 refine Calls.mono HH.out.1 ?_
 rintro r w1 ⟨rfl, hR1⟩
 go_wp2_with fail
 refine Calls.mono (HH.out.2.1 _ hR1) ?_
 rintro r w2 ⟨rfl, hR2⟩
 go_wp2_with fail
 refine Calls.mono (HH.out.2.2 _ hR2) ?_
 rintro r w3 ⟨rfl, hR3⟩
 go_wp2_with fail
 go_ret
 exact ⟨rfl, hR3⟩
set_option maxRecDepth 100000 in
set_option maxHeartbeats 4000000 in
theorem medianAdj_any (f : Nat) (vw : Sy.Ed → Sy.Ed) (hV : ViewAt f vw) (g cap a c0 s : Nat) (d : Array Sy.Ed) (rest : List Value) (w0 w : World) (hR : CnE w0 w g d rest c0 s) (ha : 1 ≤ a) (hb : a + 1 < d.size) (hsz : d.size ≤ 1000000) (hs : s + 3 ≤ 1000000) :
 Calls Tryz.prog 173 #[.slice (some ⟨g, 0, none⟩) d.size cap, .int .i64 a, .pointer (some ⟨c0, 0, none⟩), cmpV f] w fun r w' => r = .returned (.int .i64 (Sort.medianAdjacent (ltV vw) d a s).1) ∧ CnE w0 w' g d rest c0 (Sort.medianAdjacent (ltV vw) d a s).2 := by
 obtain ⟨p, rfl⟩ : ∃ p, a = p + 1 := ⟨a - 1, by omega⟩
 have h1 := median_any f vw hV g cap p (p + 1) (p + 1 + 1) c0 s d rest w0 w hR (by omega) (by omega) (by omega) hs
 unfold Sort.medianAdjacent
 rw [Nat.add_sub_cancel]
 generalize Sort.median (ltV vw) d p (p + 1) (p + 1 + 1) s = r1 at h1 ⊢
 obtain ⟨m1, s1⟩ := r1
 have e1 : IntKind.i64.wrap (((p + 1 : Nat) : Int) - 1) = (p : Int) := by rw [IntKind.wrap_i64]; omega
 have e2 : IntKind.i64.wrap (((p + 1 : Nat) : Int) + 1) = ((p + 1 + 1 : Nat) : Int) := by rw [IntKind.wrap_i64]; omega
 have HH : Hid _ := h1
 unfold cmpV at HH ⊢
 clear h1 hR hV
 go_enter Tryz.func173, Tryz.ntmps173
 go_wp2_with fail
 have HH2 := HH.out
 simp only [Int.natCast_add, Int.natCast_one] at HH2 ⊢
 refine Calls.mono HH2 ?_
 rintro r w1 ⟨rfl, hR1⟩
 go_wp2_with fail
 go_ret
 exact ⟨rfl, hR1⟩
end Go.Proofs.YtplofbabfkkimaaGreatDoor
