/- Texts of this claim, joined: Rd, TmPuts, TmPr, TmConsts0. -/
import Derived.Test.YthnenpncajpibaaGreatDoorPart9
import Derived.Deep.DeepCutAuto
import Derived.Deep.RegionHeld3
/- What stands in a round of the law's put: the two stores, the box with the lent names and the copied pairs. -/
namespace Go.Proofs.YthnenpncajpibaaGreatDoor
open Go.RowKit Go.Maps
def lentV (g cap : Nat) (t : Tm) : Value := .slice (some ⟨g, 0, none⟩) t.names.length cap
/-- The blocks of the round's own. -/
def Mine (B g : Nat) (vq : Value) (i : Nat) : Prop := i = B ∨ i = g ∨ vq.ownBlock = some i
structure Rd (w W : World) (b c : Nat) (L M : List Tm) (F G F' G' : Nat → Prop) (t : Tm) (B g cap : Nat) (vq : Value) : Prop where
  two : Two w W b c L M F G F' G'
  box : W.heap[B]? = some (.cells #[.int .i64 t.kind, .int .i64 t.label, .int .i64 t.a, .int .i64 t.b, lentV g cap t, vq] 35 (0, 0))
  lent : Lent W w.heap.size g cap t.names
  prs : OwnP W w.heap.size vq t.pairs
  ap : ∀ i, Mine B g vq i → w.heap.size ≤ i ∧ ¬ F' i ∧ ¬ G' i
  d1 : g ≠ B
  d2 : vq.ownBlock ≠ some g
  d3 : vq.ownBlock ≠ some B
theorem Rd.lt {w W : World} {b c : Nat} {L M : List Tm} {F G F' G' : Nat → Prop} {t : Tm} {B g cap : Nat} {vq : Value} (h : Rd w W b c L M F G F' G' t B g cap vq) {i : Nat} (hi : Mine B g vq i) : i < W.heap.size := by
  rcases hi with rfl | rfl | hi
  · exact t_lt h.box
  · exact h.lent.lt.2
  · exact (h.prs.lt i hi).2
theorem Rd.move {w W W' : World} {b c : Nat} {L M L' M' : List Tm} {F G F' G' F2 G2 : Nat → Prop} {t : Tm} {B g cap : Nat} {vq : Value} (h : Rd w W b c L M F G F' G' t B g cap vq) (h2 : Two w W' b c L' M' F G F2 G2) (hk : ∀ i, Mine B g vq i → W'.heap[i]? = W.heap[i]?) (hf : ∀ i, F2 i → F' i ∨ W.heap.size ≤ i) (hg : ∀ i, G2 i → G' i ∨ W.heap.size ≤ i) : Rd w W' b c L' M' F G F2 G2 t B g cap vq := by
  refine ⟨h2, (hk B (.inl rfl)).trans h.box, h.lent.at (hk g (.inr (.inl rfl))), trow_at h.prs fun i hi => hk i (.inr (.inr hi)), fun i hi => ⟨(h.ap i hi).1, fun e => ?_, fun e => ?_⟩, h.d1, h.d2, h.d3⟩
  · have := h.lt hi
    rcases hf i e with e | e
    · exact (h.ap i hi).2.1 e
    · omega
  · have := h.lt hi
    rcases hg i e with e | e
    · exact (h.ap i hi).2.2 e
    · omega
theorem Rd.below {w W W' : World} {b c : Nat} {L M : List Tm} {F G F' G' : Nat → Prop} {t : Tm} {B g cap : Nat} {vq : Value} (h : Rd w W b c L M F G F' G' t B g cap vq) (hb : Below W.heap.size W W') : Rd w W' b c L M F G F' G' t B g cap vq :=
  h.move (h.two.below hb) (fun i hi => hb.block i (h.lt hi)) (fun _ h => .inl h) (fun _ h => .inl h)
theorem Rd.sput {w W W' : World} {b c : Nat} {L M L' : List Tm} {F G F' G' F2 : Nat → Prop} {t : Tm} {B g cap : Nat} {vq : Value} (h : Rd w W b c L M F G F' G' t B g cap vq) (hs : StoB W' b L' F2) (hk : Kept F' W W') (hf : ∀ i, F2 i → F' i ∨ W.heap.size ≤ i) : Rd w W' b c L' M F G F2 G' t B g cap vq :=
  h.move (h.two.sput hs hk hf) (fun i hi => hk.block i (h.lt hi) (h.ap i hi).2.1) hf (fun _ h => .inl h)
theorem Rd.rput {w W W' : World} {b c : Nat} {L M M' : List Tm} {F G F' G' G2 : Nat → Prop} {t : Tm} {B g cap : Nat} {vq : Value} (h : Rd w W b c L M F G F' G' t B g cap vq) (hs : RStoB W' c M' G2) (hk : Kept G' W W') (hf : ∀ i, G2 i → G' i ∨ W.heap.size ≤ i) : Rd w W' b c L M' F G F' G2 t B g cap vq :=
  h.move (h.two.rput hs hk hf) (fun i hi => hk.block i (h.lt hi) (h.ap i hi).2.2) (fun _ h => .inl h) hf
theorem Rd.hand {w W : World} {b c : Nat} {L M : List Tm} {F G F' G' : Nat → Prop} {t : Tm} {B g cap : Nat} {vq : Value} (h : Rd w W b c L M F G F' G' t B g cap vq) : Hand W F' t (lentV g cap t) vq :=
  ⟨h.lent.has, h.prs.has, fun _ i hi => (h.ap i (.inr (.inl (by simpa [lentV, Value.ownBlock] using hi.symm)))).2.1, fun _ i hi => (h.ap i (.inr (.inr hi))).2.1⟩
/-- The round's start: the box is laid, then the lent names, then the copied pairs. -/
theorem rd_start {w wr W0 W1 W3 : World} {b c : Nat} {L M : List Tm} {F G F' G' : Nat → Prop} {t : Tm} {vn vp vq : Value} {g cap : Nat} (h : Two w wr b c L M F G F' G') (e0 : W0 = wr.alloc (.cells #[.int .i64 t.kind, .int .i64 t.label, .int .i64 t.a, .int .i64 t.b, vn, vp] 35))
    (hl : Lent W1 W0.heap.size g cap t.names) (hb1 : Below W0.heap.size W0 W1) (W2 : World) (e2 : W2 = W1.setCell ⟨wr.heap.size, 4, none⟩ (lentV g cap t))
    (hp : OwnP W3 W2.heap.size vq t.pairs) (hb3 : Below W2.heap.size W2 W3) (W4 : World) (e4 : W4 = W3.setCell ⟨wr.heap.size, 5, none⟩ vq) : Rd w W4 b c L M F G F' G' t wr.heap.size g cap vq := by
  have s0 : W0.heap.size = wr.heap.size + 1 := by rw [e0]; simp
  have s2 : W2.heap.size = W1.heap.size := by rw [e2, set_size]
  have s4 : W4.heap.size = W3.heap.size := by rw [e4, set_size]
  have b0 : Below wr.heap.size wr W0 := by rw [e0]; exact (Below.refl _ _).alloc (Nat.le_refl _) _
  have z1 := hb1.size
  have z3 := hb3.size
  have zw := h.k.size
  obtain ⟨g1, g2⟩ := hl.lt
  have b1 : Below wr.heap.size wr W1 := b0.trans (hb1.mono (by omega))
  have b2 : Below wr.heap.size wr W2 := by rw [e2]; exact b1.setCell (Nat.le_refl _) _
  have b3 : Below wr.heap.size wr W3 := b2.trans (hb3.mono (by omega))
  have b4 : Below wr.heap.size wr W4 := by rw [e4]; exact b3.setCell (Nat.le_refl _) _
  have x0 : W0.heap[wr.heap.size]? = some (.cells #[.int .i64 t.kind, .int .i64 t.label, .int .i64 t.a, .int .i64 t.b, vn, vp] 35 (0, 0)) := by rw [e0]; exact (MapKept.heap_alloc wr _).1
  have x1 := (hb1.block wr.heap.size (by omega)).trans x0
  have x2 : W2.heap[wr.heap.size]? = some (.cells #[.int .i64 t.kind, .int .i64 t.label, .int .i64 t.a, .int .i64 t.b, lentV g cap t, vp] 35 (0, 0)) := by
    rw [e2, heap_setCell_same _ _ _ _ _ _ x1]; rfl
  have x3 := (hb3.block wr.heap.size (by omega)).trans x2
  have x4 : W4.heap[wr.heap.size]? = some (.cells #[.int .i64 t.kind, .int .i64 t.label, .int .i64 t.a, .int .i64 t.b, lentV g cap t, vq] 35 (0, 0)) := by
    rw [e4, heap_setCell_same _ _ _ _ _ _ x3]; rfl
  have hq : ∀ i, vq.ownBlock = some i → W2.heap.size ≤ i ∧ i < W3.heap.size := fun i hi => hp.lt i hi
  have hL2 : Lent W2 W0.heap.size g cap t.names := hl.at (by rw [e2]; exact set_other _ _ _ _ _ (by omega))
  have hL3 : Lent W3 W0.heap.size g cap t.names := hL2.at (hb3.block g (by omega))
  have hL4 : Lent W4 W0.heap.size g cap t.names := hL3.at (by rw [e4]; exact set_other _ _ _ _ _ (by omega))
  have hp4 : OwnP W4 W2.heap.size vq t.pairs := trow_at hp fun i hi => by rw [e4]; exact set_other _ _ _ _ _ (by have := hq i hi; omega)
  have hap : ∀ i, wr.heap.size ≤ i → w.heap.size ≤ i ∧ ¬ F' i ∧ ¬ G' i := fun i hi => ⟨by omega, fun e => by have := h.s.foot_lt e; omega, fun e => by have := h.r.foot_lt e; omega⟩
  refine ⟨h.below b4, x4, row_base hL4 (by omega), row_base hp4 (by omega), fun i hi => hap i ?_, by omega, fun e => ?_, fun e => ?_⟩
  · rcases hi with rfl | rfl | hi
    · exact Nat.le_refl _
    · omega
    · have := hq i hi; omega
  · have := hq g e; omega
  · have := hq _ e; omega
/-- The cells of the box. -/
theorem Rd.cells {w W : World} {b c : Nat} {L M : List Tm} {F G F' G' : Nat → Prop} {t : Tm} {B g cap : Nat} {vq : Value} (h : Rd w W b c L M F G F' G' t B g cap vq) : W.cell? ⟨B, 0, none⟩ = some (.int .i64 t.kind) ∧ W.cell? ⟨B, 1, none⟩ = some (.int .i64 t.label) ∧ W.cell? ⟨B, 2, none⟩ = some (.int .i64 t.a) ∧ W.cell? ⟨B, 3, none⟩ = some (.int .i64 t.b) ∧ W.cell? ⟨B, 4, none⟩ = some (lentV g cap t) ∧ W.cell? ⟨B, 5, none⟩ = some vq := by
  obtain ⟨y0, y1, y2, y3, y4, y5, _⟩ := six6 h.box
  exact ⟨y0, y1, y2, y3, y4, y5⟩
end Go.Proofs.YthnenpncajpibaaGreatDoor
/- Contract of the law's put: terms one behind the other, into a store and the document's. -/
namespace Go.Proofs.YthnenpncajpibaaGreatDoor
open Go.RowKit Go.Maps
attribute [local go_sem ↓] Go.wp_at_zero Go.wp_at_succ
theorem Lent.blk2 {w : World} {B g cap : Nat} {zs : List Int} (h : Lent w B g cap zs) : ∃ cs, w.heap[g]? = some (.cells cs 3 (0, 0)) ∧ zs.length ≤ cs.size := by
  obtain ⟨cs, hc⟩ := h.blk
  refine ⟨cs, hc, ?_⟩
  have h1 := h.marks.1
  rw [tb_cell hc] at h1
  have := (Array.getElem?_eq_some_iff.1 h1).1
  omega
theorem kept_cell {w w' : World} {g b o : Nat} {v : Value} (hk : Kept (fun i => i = g) w w') (h : w.cell? ⟨b, o, none⟩ = some v) (hne : b ≠ g) : w'.cell? ⟨b, o, none⟩ = some v := by
  have hb := hk.block b (World.block_lt_of_cell? w _ h) hne
  rw [← h]
  simp only [World.cell?, hb]
/-- The block of copied pairs. -/
def PBlk (w : World) (aq : Option Addr) (n : Nat) : Prop := 0 < n → ∃ gp cs, aq = some ⟨gp, 0, none⟩ ∧ w.heap[gp]? = some (.cells cs 75 (0, 0)) ∧ n * 2 ≤ cs.size
theorem ownP_blk {w : World} {B : Nat} {aq : Option Addr} {n cq : Nat} {ps : List (Int × Int)} (h : OwnP w B (.slice aq n cq) ps) : PBlk w aq n := fun hn => by
  have hlen : n = ps.length := by
    rcases h.2 with ⟨h1, h0⟩ | ⟨g, cap, cur, h1, _⟩
    · injection h1 with _ e _; omega
    · injection h1 with _ e _
  obtain ⟨g, cap, h1, _, _⟩ := h.form (by omega)
  injection h1 with e1 e2 e3
  subst e1
  obtain ⟨cs, hc⟩ := row_cells h (i := g) rfl
  refine ⟨g, cs, rfl, hc, ?_⟩
  have h2 := World.ownsRow.cellAt (g := g) (by subst e3; exact (e2 ▸ h)) (ps.length * 2 - 1) (by omega)
  rw [tb_cell hc] at h2
  have h3 : (pC ps)[ps.length * 2 - 1]? ≠ none := by
    rw [ne_eq, List.getElem?_eq_none_iff, pC_length]; omega
  rw [← h2] at h3
  have h4 : ¬ cs.size ≤ ps.length * 2 - 1 := fun e => h3 (Array.getElem?_eq_none_iff.2 e)
  omega
set_option maxRecDepth 100000 in
set_option maxHeartbeats 16000000 in
theorem lawput_any (v : Value) (l : List Tm) (b c : Nat) (L : List Tm) (F G : Nat → Prop) (aA : Addr) (w : World) (hS : StoB w b L F) (hR : RStoB w c L G) (hd : ∀ i, F i → ¬ G i) (hG : Tm.Good L) (hT : Lst w (fun i => F i ∨ G i) v l) (hrm : ∀ t ∈ l, Room t) (hlen : L.length + l.length < 100000) (hE : ∀ w', Kept (fun i => F i ∨ G i) w w' → Sent w' 0 aA) :
    Calls Tryz.prog 8 #[.pointer (some ⟨b, 0, none⟩), .pointer (some ⟨c, 0, none⟩), v] w fun r w' => r = .returned (.bool true) ∧ ∃ L' F' G', Two w w' b c L' L' F G F' G' ∧ Tm.Good L' ∧ L'.length ≤ L.length + l.length := by
  obtain ⟨ao, cap, rfl, hO⟩ := hT
  obtain ⟨n, hn⟩ : ∃ n, n = l.length := ⟨_, rfl⟩
  rw [← hn] at hlen ⊢
  have HO : Hid _ := And.intro hO (And.intro hn (And.intro hrm hE))
  have HT : Hid _ := And.intro (Two.start hS hR hd) hG
  clear hO hn hrm hE hS hR hd hG
  go_enter Tryz.func8, Tryz.ntmps8
  go_wp2_with fail
  go_loopg [7] n (fun q iv wr => ∃ (i : Nat) (L' : List Tm) (F' G' : Nat → Prop), q = n - i ∧ i ≤ n ∧ iv = .int .i64 i ∧ Two w wr b c L' L' F G F' G' ∧ Tm.Good L' ∧ L'.length ≤ L.length + i)
  case atStart => exact ⟨0, _, _, _, rfl, Nat.zero_le _, rfl, HT.out.1, HT.out.2, by omega⟩
  case round =>
    obtain ⟨i, L', F', G', rfl, hi, rfl, hTw, hGo, hLl⟩ := hrel
    clear HT
    obtain ⟨wq, rfl⟩ : ∃ wq, wq = wr := ⟨_, rfl⟩
    by_cases hlt : i < n
    · obtain ⟨t, ht⟩ : ∃ t, l[i]? = some t := ⟨l[i]'(by have := HO.out.2.1; omega), List.getElem?_eq_getElem _⟩
      obtain ⟨g0, o, vn, vp, h1T⟩ := HO.out.1 i t ht
      obtain ⟨rfl⟩ := (h1T w (Kept.refl _ _)).ad
      have h2T := h1T wq hTw.k
      obtain ⟨x0, x1, x2, x3, x4, x5⟩ := h2T.row
      obtain ⟨an, cn, rfl, _⟩ := _root_.id h2T.n
      obtain ⟨ap, cp, rfl, _⟩ := _root_.id h2T.p
      have q0 : (0 : Int) ≤ (i : Int) := by omega
      have q1 : (i : Int) < (n : Int) := by omega
      obtain ⟨W0, hW0⟩ : ∃ W0, W0 = wq.alloc (.cells #[.int .i64 t.kind, .int .i64 t.label, .int .i64 t.a, .int .i64 t.b, .slice an t.names.length cn, .slice ap t.pairs.length cp] 35) := ⟨_, rfl⟩
      have hb0 : Below wq.heap.size wq W0 := by rw [hW0]; exact (Below.refl _ _).alloc (Nat.le_refl _) _
      have hrt := HO.out.2.2.1 t (List.mem_of_getElem? ht)
      have hL := lent_any (.slice an t.names.length cn) t.names W0 (h2T.n.below hb0) hrt.1
      have x4' := cell_up x4 hb0
      rw [hW0] at x4'
      have HL : Hid _ := And.intro hL hW0
      have HK : Hid _ := And.intro hTw (And.intro hGo (And.intro ht (And.intro h1T hrt)))
      clear hL hTw hGo ht h1T hrt h2T hW0
      go_wp2_with fail
      rw [← HL.out.2]
      refine Calls.mono HL.out.1 ?_
      rintro r1 W1 ⟨g, cap1, rfl, hl1, hb1⟩
      have hbx0 : W0.heap[wq.heap.size]? = some (.cells #[.int .i64 t.kind, .int .i64 t.label, .int .i64 t.a, .int .i64 t.b, .slice an t.names.length cn, .slice ap t.pairs.length cp] 35 (0, 0)) := by rw [HL.out.2]; exact (MapKept.heap_alloc wq _).1
      obtain ⟨_, _, _, _, y4, _, yf⟩ := six6 ((hb1.block _ (t_lt hbx0)).trans hbx0)
      have yf4 := yf 4
      have H1 : Hid _ := And.intro hl1 (And.intro hb1 (And.intro HL.out.2 hb0))
      clear hl1 hb1 HL hb0 yf hbx0 x0 x1 x2 x3 x4 x5 x4'
      go_upto_region 6 with fail
      obtain ⟨W2, hW2⟩ : ∃ W2, W2 = W1.setCell ⟨wq.heap.size, 4, none⟩ (.slice (some ⟨g, 0, none⟩) t.names.length cap1) := ⟨_, rfl⟩
      rw [← hW2]
      have hb2 : Below wq.heap.size wq W2 := by rw [hW2]; exact (H1.out.2.2.2.trans (H1.out.2.1.mono H1.out.2.2.2.size)).setCell (Nat.le_refl _) _
      have h2T := HK.out.2.2.2.1 W2 (HK.out.1.k.trans (.of_below hb2))
      have x5 := h2T.row.x5
      have HC : Hid _ := hasP_copy h2T.p
      have hst : ∀ W3 vq, OwnP W3 W2.heap.size vq t.pairs → Below W2.heap.size W2 W3 → Rd w (W3.setCell ⟨wq.heap.size, 5, none⟩ vq) b c L' L' F G F' G' t wq.heap.size g cap1 vq := fun W3 vq hp hb3 => rd_start HK.out.1 H1.out.2.2.1 H1.out.1 H1.out.2.1 W2 hW2 hp hb3 _ rfl
      have hbx1 : W1.heap[wq.heap.size]? = some (.cells #[.int .i64 t.kind, .int .i64 t.label, .int .i64 t.a, .int .i64 t.b, .slice an t.names.length cn, .slice ap t.pairs.length cp] 35 (0, 0)) := by
        have e0 : W0.heap[wq.heap.size]? = some (.cells #[.int .i64 t.kind, .int .i64 t.label, .int .i64 t.a, .int .i64 t.b, .slice an t.names.length cn, .slice ap t.pairs.length cp] 35 (0, 0)) := by rw [H1.out.2.2.1]; exact (MapKept.heap_alloc wq _).1
        exact (H1.out.2.1.block _ (t_lt e0)).trans e0
      have hbx2 : W2.heap[wq.heap.size]? = some (.cells #[.int .i64 t.kind, .int .i64 t.label, .int .i64 t.a, .int .i64 t.b, .slice (some ⟨g, 0, none⟩) t.names.length cap1, .slice ap t.pairs.length cp] 35 (0, 0)) := by
        rw [hW2, heap_setCell_same _ _ _ _ _ _ hbx1]; rfl
      have hF5 : ∀ W3, Below W2.heap.size W2 W3 → W3.cell? ⟨wq.heap.size, 5, none⟩ = some (.slice ap t.pairs.length cp) ∧ W3.frozen? ⟨wq.heap.size, 5, none⟩ = false := fun W3 hb3 => by
        obtain ⟨_, _, _, _, _, z5, zf⟩ := six6 ((hb3.block _ (t_lt hbx2)).trans hbx2)
        exact ⟨z5, zf 5⟩
      have HF5 : Hid _ := And.intro hF5 hst
      obtain ⟨j0, hj0, hy0, hy1, hy2⟩ := info_parts Tryz.infoP3
      have lp : t.pairs.length ≤ maxLen := by have := HK.out.2.2.2.2.2; unfold maxLen; omega
      have lp16 : t.pairs.length * 16 ≤ 140737488355328 := by have := HK.out.2.2.2.2.2; omega
      clear hst hF5 hbx1 hbx2 hb2 h2T H1 hW2 y4 yf4
      go_upto_region 7 with (at_builtin; refine wpList_copy_at _ rfl _ _ 33 rfl W2.heap.size 75 j0 (.agg #[.int .i64 0, .int .i64 0]) 2 16 Tryz.underlying33 hj0 hy0 hy1 hy2 rfl (by decide) rfl ap t.pairs.length cp (pC t.pairs) rfl HC.out.1 (pC_length _) HC.out.2 (pC_one _) lp lp16 (Nat.le_refl _) ?_; intro v1 W3 hown1 hgrow1 hat1; obtain ⟨aq, cq, rfl⟩ := row_shape hown1; have H3 : Hid _ := And.intro hown1 (tgrown0 hgrow1); obtain ⟨z5, zf⟩ := HF5.out.1 W3 H3.out.2; clear hown1 hgrow1 hat1 HC)
      have hRd := HF5.out.2 W3 (.slice aq t.pairs.length cq) H3.out.1 H3.out.2
      obtain ⟨W4, hW4⟩ : ∃ W4, W4 = W3.setCell ⟨wq.heap.size, 5, none⟩ (.slice aq t.pairs.length cq) := ⟨_, rfl⟩
      rw [← hW4] at hRd ⊢
      obtain ⟨y0, y1, y2, y3, y4, y5⟩ := hRd.cells
      unfold lentV at y4
      have HR : Hid _ := hRd
      clear hRd hW4 H3 HF5 z5 zf x5 j0 hj0 hy0 hy1 hy2 lp lp16
      have bnl : t.names.length ≤ 20000000000000 := by have := HK.out.2.2.2.2.1; omega
      have bpl : t.pairs.length ≤ 20000000000000 := by have := HK.out.2.2.2.2.2; omega
      cases hmay : t.may L'.length with
      | false =>
        have hP := put_bad b L' F' t (.slice (some ⟨g, 0, none⟩) t.names.length cap1) (.slice aq t.pairs.length cq) 201 (.pointer (some aA)) W4 HR.out.two.s HR.out.lent.has HR.out.prs.has (by have := HK.out.2.2.2.2.1; unfold maxLen; omega) (by have := HK.out.2.2.2.2.2; unfold maxLen; omega) hmay (HO.out.2.2.2 W4 HR.out.two.k).1
        unfold tmV at hP
        have HP : Hid _ := hP
        clear hP
        go_wp2_with fail
        refine Calls.mono HP.out ?_
        rintro r5 W5 ⟨⟨gf, rfl, hTF, hgf⟩, hb5⟩
        have hR5 := HR.out.below hb5
        clear y0 y1 y2 y3 y4 y5 HP
        obtain ⟨x0, x1, x2, x3, x4, x5⟩ := (HK.out.2.2.2.1 W5 hR5.two.k).row
        have hQ := rput_bad c L' G' t (.slice an t.names.length cn) (.slice ap t.pairs.length cp) W5 hR5.two.r (HK.out.2.2.2.1 W5 hR5.two.k).n (HK.out.2.2.2.1 W5 hR5.two.k).p (by have := HK.out.2.2.2.2.1; omega) (by have := HK.out.2.2.2.2.2; omega) hmay
        unfold tmV at hQ
        have HQ : Hid _ := hQ
        have H5 : Hid _ := And.intro hR5 hTF
        clear hQ hR5 hTF hgf hb5
        unfold tFaultV
        go_wp2_with fail
        refine Calls.mono HQ.out ?_
        rintro r6 W6 ⟨rfl, hb6⟩
        have hR6 := H5.out.1.below hb6
        have hTF6 : TermFault W6 gf (errV aA) := (hb6.block _ (t_lt H5.out.2)).trans H5.out.2
        have hTo := told3_arg gf aA W6 (HO.out.2.2.2 W6 hR6.two.k) hTF6
        unfold tFaultV at hTo
        have HTo : Hid _ := hTo
        have H6 : Hid _ := hR6
        clear hTo hR6 hTF6 hb6 HQ x0 x1 x2 x3 x4 x5 H5
        go_wp2_with fail
        refine Calls.mono HTo.out ?_
        rintro r7 W7 ⟨rfl, hb7⟩
        obtain ⟨L1, hL1⟩ : ∃ L1, L1 = L' := ⟨_, rfl⟩
        obtain ⟨F1, hF1⟩ : ∃ F1, F1 = F' := ⟨_, rfl⟩
        obtain ⟨G1, hG1⟩ : ∃ G1, G1 = G' := ⟨_, rfl⟩
        have hR7 : Rd w W7 b c L1 L1 F G F1 G1 t wq.heap.size g cap1 (.slice aq t.pairs.length cq) := by rw [hL1, hF1, hG1]; exact H6.out.below hb7
        have HR7 : Hid _ := hR7
        have HG1 : Hid (Tm.Good L1 ∧ L1.length ≤ L.length + (i + 1)) := ⟨by rw [hL1]; exact HK.out.2.1, by rw [hL1]; omega⟩
        clear hR7 hL1 hF1 hG1 hb7 H6 HTo HR
        obtain ⟨_, _, _, _, y4, y5⟩ := HR7.out.cells
        have x4 := (HK.out.2.2.2.1 W7 HR7.out.two.k).row.x4
        have hSt := fun W (hb : Below W7.heap.size W7 W) => stays_lent w.heap.size g cap1 (.slice an t.names.length cn) t.names W (by have := HK.out.2.2.2.2.1; omega) (HR7.out.below hb).lent (HK.out.2.2.2.1 W (HR7.out.below hb).two.k).n
        unfold lentV at y4
        have HSt : Hid _ := hSt
        clear hSt
        go_upto_region 14 with fail
        go_cut [74] (fun s74 wx => s74 = .bool false ∧ Rd w wx b c L1 L1 F G F1 G1 t wq.heap.size g cap1 (.slice aq t.pairs.length cq))
        case first =>
          go_region_held3 (fun w' => w'.cell? ⟨wq.heap.size, 4, none⟩ = some (.slice (some ⟨g, 0, none⟩) t.names.length cap1) ∧ w'.cell? ⟨g0, o + i * 6 + 4, none⟩ = some (.slice an t.names.length cn)) (go_keep)
            ((go_at_call 25; refine (HSt.out _ (by repeat (first | exact Below.refl _ _ | assumption | refine Below.drew ?_ | refine Below.setCell ?_ (by simp) _ | refine Below.alloc ?_ (by simp) _))).mono ?_; rintro r8 w8 ⟨rfl, hb8'⟩; have hb8 := below_of_drew3 hb8'; have H8 : Hid _ := HR7.out.below hb8; clear y4 x4; obtain ⟨_, _, _, _, y4, _⟩ := H8.out.cells; unfold lentV at y4; have x4 := (HK.out.2.2.2.1 w8 H8.out.two.k).row.x4; clear hb8 hb8' HSt))
          all_goals (refine Met.intro ?_; apply_assumption; refine Met.intro ?_; apply_assumption; (repeat apply Exists.intro); refine ⟨?rel, rfl⟩; case rel => exact ⟨rfl, by first | exact H8.out | exact H8.out.below (below_drewN (Below.refl _ _) _)⟩)
        case rest =>
          obtain ⟨rfl, hR8⟩ := hcut
          clear y4 x4 y5 HSt HR7
          obtain ⟨cs0, hcs0, hsz0⟩ := hR8.lent.blk2
          have HR8 : Hid _ := And.intro hR8 (And.intro hcs0 hsz0)
          clear hR8 hcs0 hsz0
          go_wp2_with fail
          go_loopg [12] t.names.length (fun q jv wx => ∃ (j : Nat) (cs : Array Value), q = t.names.length - j ∧ j ≤ t.names.length ∧ jv = .int .i64 j ∧ Kept (fun i => i = g) wc wx ∧ wx.heap[g]? = some (.cells cs 3 (0, 0)) ∧ t.names.length ≤ cs.size)
          case atStart => exact ⟨0, cs0, rfl, Nat.zero_le _, rfl, Kept.refl _ _, HR8.out.2.1, HR8.out.2.2⟩
          case round =>
            obtain ⟨j, cs, rfl, hj, rfl, hkj, hcj, hsj⟩ := hrel
            have y4 := kept_cell hkj HR8.out.1.cells.2.2.2.2.1 HR8.out.1.d1.symm
            unfold lentV at y4
            by_cases hjl : j < t.names.length
            · have q2 : (0 : Int) ≤ (j : Int) := by omega
              have q3 : (j : Int) < (t.names.length : Int) := by omega
              obtain ⟨u0, cJ⟩ : ∃ u0, wr.cell? ⟨g, j, none⟩ = some u0 := ⟨cs[j]'(by omega), by rw [tb_cell hcj]; exact Array.getElem?_eq_getElem _⟩
              have cF := blk_free hcj j
              have HJ : Hid _ := And.intro hkj (And.intro hcj hsj)
              clear hkj hcj hsj
              go_wp2_with fail
              go_roundg (t.names.length - (j + 1))
              case measure => omega
              case rel => exact ⟨j + 1, _, rfl, by omega, by go_num, HJ.out.1.trans (Kept.setCell _ _ _ _), heap_setCell_same _ _ _ _ _ _ HJ.out.2.1, by have := HJ.out.2.2; simpa using this⟩
            · obtain rfl : j = t.names.length := by omega
              have q3 : ¬ (t.names.length : Int) < (t.names.length : Int) := by omega
              obtain ⟨wx, rfl⟩ : ∃ wx, wx = wr := ⟨_, rfl⟩
              have hT9 := HR8.out.1.two.other hkj (fun k hk => HR8.out.1.ap k (.inr (.inl hk)))
              have hbx : wx.heap[wq.heap.size]? = some (.cells #[.int .i64 t.kind, .int .i64 t.label, .int .i64 t.a, .int .i64 t.b, lentV g cap1 t, .slice aq t.pairs.length cq] 35 (0, 0)) := (hkj.block _ (HR8.out.1.lt (.inl rfl)) (fun e => HR8.out.1.d1 e.symm)).trans HR8.out.1.box
              have hpr : OwnP wx w.heap.size (.slice aq t.pairs.length cq) t.pairs := trow_at HR8.out.1.prs fun k hk => hkj.block k (HR8.out.1.lt (.inr (.inr hk))) (fun e => HR8.out.1.d2 (e ▸ hk))
              have hpr0 := ownP_blk hpr
              have HR9 : Hid _ := And.intro hT9 (And.intro hbx (And.intro hpr0 HR8.out.1))
              clear hkj hcj hsj hT9 hbx hpr hpr0 HR8
              go_wp2_with fail
              go_loopg [13] t.pairs.length (fun q jv wy => ∃ j : Nat, q = t.pairs.length - j ∧ j ≤ t.pairs.length ∧ jv = .int .i64 j ∧ Kept (fun i => (Value.slice aq t.pairs.length cq).ownBlock = some i) wx wy ∧ PBlk wy aq t.pairs.length)
              case atStart => exact ⟨0, rfl, Nat.zero_le _, rfl, Kept.refl _ _, HR9.out.2.2.1⟩
              case round =>
                obtain ⟨j, rfl, hj, rfl, hkj, hpb⟩ := hrel
                clear y4
                obtain ⟨_, _, _, _, _, y5, _⟩ := six6 ((hkj.block _ (t_lt HR9.out.2.1) HR9.out.2.2.2.d3).trans HR9.out.2.1)
                by_cases hjl : j < t.pairs.length
                · have q4 : (0 : Int) ≤ (j : Int) := by omega
                  have q5 : (j : Int) < (t.pairs.length : Int) := by omega
                  obtain ⟨gp, cs, rfl, hcj, hsj⟩ := hpb (by omega)
                  obtain ⟨u0, cJ⟩ : ∃ u0, wr.cell? ⟨gp, j * 2 + 1, none⟩ = some u0 := ⟨cs[j * 2 + 1]'(by omega), by rw [tb_cell hcj]; exact Array.getElem?_eq_getElem _⟩
                  have cF := blk_free hcj (j * 2 + 1)
                  have HJ : Hid _ := And.intro hkj (And.intro hcj hsj)
                  clear hkj hcj hsj hpb
                  go_wp2_with fail
                  go_roundg (t.pairs.length - (j + 1))
                  case measure => omega
                  case rel => exact ⟨j + 1, rfl, by omega, by go_num, HJ.out.1.trans ((Kept.setCell _ _ _ _).mono fun k _ hk => by subst hk; rfl), fun _ => ⟨gp, _, rfl, heap_setCell_same _ _ _ _ _ _ HJ.out.2.1, by have := HJ.out.2.2; simpa using this⟩⟩
                · obtain rfl : j = t.pairs.length := by omega
                  have q5 : ¬ (t.pairs.length : Int) < (t.pairs.length : Int) := by omega
                  have hT10 := HR9.out.1.other hkj (fun k hk => HR9.out.2.2.2.ap k (.inr (.inr hk)))
                  have HT10 : Hid _ := hT10
                  clear hkj hpb hT10
                  go_wp2_with fail
                  go_roundg (n - (i + 1))
                  case measure => omega
                  case rel => exact ⟨i + 1, L1, F1, G1, rfl, by omega, by go_num, HT10.out, HG1.out.1, HG1.out.2⟩
      | true =>
        have hP := put_ok2 b L' F' t (.slice (some ⟨g, 0, none⟩) t.names.length cap1) (.slice aq t.pairs.length cq) W4 HR.out.two.s HR.out.hand hmay (by omega)
        unfold tmV at hP
        have HP : Hid _ := hP
        clear hP
        go_wp2_with fail
        refine Calls.mono HP.out ?_
        rintro r5 W5 ⟨k, L1, F1, rfl, hk1, hw1, hS5, hK5, hf5⟩
        have hR5 := HR.out.sput hS5 hK5 hf5
        clear y0 y1 y2 y3 y4 y5 HP
        obtain ⟨x0, x1, x2, x3, x4, x5⟩ := (HK.out.2.2.2.1 W5 hR5.two.k).row
        have hQ := rput_ok c L' G' t (.slice an t.names.length cn) (.slice ap t.pairs.length cp) W5 hR5.two.r (HK.out.2.2.2.1 W5 hR5.two.k).n (HK.out.2.2.2.1 W5 hR5.two.k).p hmay (by omega)
        unfold tmV at hQ
        have HQ : Hid _ := hQ
        have H5 : Hid _ := And.intro hR5 (And.intro hk1 hw1)
        clear hQ hR5 hS5 hK5 hf5 hk1 hw1
        go_wp2_with fail
        refine Calls.mono HQ.out ?_
        rintro r6 W7 ⟨k2, M1, G1, rfl, hk2, hw2, hS6, hK6, hf6⟩
        have hML : M1 = L1 := both_same hw2 H5.out.2.2
        rw [hML] at hk2 hS6
        have hR7 := H5.out.1.rput hS6 hK6 hf6
        have hkk : k2 = k := hR7.two.s.nodup hk2 H5.out.2.1
        rw [hkk]
        have HR7 : Hid _ := hR7
        have HG1 : Hid (Tm.Good L1 ∧ L1.length ≤ L.length + (i + 1)) := by
          refine ⟨?_, ?_⟩
          · rcases H5.out.2.2 with ⟨_, e⟩ | ⟨_, e⟩
            · rw [e]; exact HK.out.2.1
            · rw [e]; exact HK.out.2.1.snoc hmay
          · rcases H5.out.2.2 with ⟨_, e⟩ | ⟨_, e⟩
            · rw [e]; omega
            · rw [e, List.length_append, List.length_singleton]; omega
        have e1 : ¬ ((k : Int) < 0) := by omega
        have e2 : ((k : Int) != (k : Int)) = false := by simp
        clear hML hk2 hS6 hw2 hK6 hf6 hR7 hkk HQ x0 x1 x2 x3 x4 x5 H5
        obtain ⟨_, _, _, _, y4, y5⟩ := HR7.out.cells
        have x4 := (HK.out.2.2.2.1 W7 HR7.out.two.k).row.x4
        have hSt := fun W (hb : Below W7.heap.size W7 W) => stays_lent w.heap.size g cap1 (.slice an t.names.length cn) t.names W (by have := HK.out.2.2.2.2.1; omega) (HR7.out.below hb).lent (HK.out.2.2.2.1 W (HR7.out.below hb).two.k).n
        unfold lentV at y4
        have HSt : Hid _ := hSt
        clear hSt
        go_upto_region 14 with fail
        go_cut [74] (fun s74 wx => s74 = .bool false ∧ Rd w wx b c L1 L1 F G F1 G1 t wq.heap.size g cap1 (.slice aq t.pairs.length cq))
        case first =>
          go_region_held3 (fun w' => w'.cell? ⟨wq.heap.size, 4, none⟩ = some (.slice (some ⟨g, 0, none⟩) t.names.length cap1) ∧ w'.cell? ⟨g0, o + i * 6 + 4, none⟩ = some (.slice an t.names.length cn)) (go_keep)
            ((go_at_call 25; refine (HSt.out _ (by repeat (first | exact Below.refl _ _ | assumption | refine Below.drew ?_ | refine Below.setCell ?_ (by simp) _ | refine Below.alloc ?_ (by simp) _))).mono ?_; rintro r8 w8 ⟨rfl, hb8'⟩; have hb8 := below_of_drew3 hb8'; have H8 : Hid _ := HR7.out.below hb8; clear y4 x4; obtain ⟨_, _, _, _, y4, _⟩ := H8.out.cells; unfold lentV at y4; have x4 := (HK.out.2.2.2.1 w8 H8.out.two.k).row.x4; clear hb8 hb8' HSt))
          all_goals (refine Met.intro ?_; apply_assumption; refine Met.intro ?_; apply_assumption; (repeat apply Exists.intro); refine ⟨?rel, rfl⟩; case rel => exact ⟨rfl, by first | exact H8.out | exact H8.out.below (below_drewN (Below.refl _ _) _)⟩)
        case rest =>
          obtain ⟨rfl, hR8⟩ := hcut
          clear y4 x4 y5 HSt HR7
          obtain ⟨cs0, hcs0, hsz0⟩ := hR8.lent.blk2
          have HR8 : Hid _ := And.intro hR8 (And.intro hcs0 hsz0)
          clear hR8 hcs0 hsz0
          go_wp2_with fail
          go_loopg [12] t.names.length (fun q jv wx => ∃ (j : Nat) (cs : Array Value), q = t.names.length - j ∧ j ≤ t.names.length ∧ jv = .int .i64 j ∧ Kept (fun i => i = g) wc wx ∧ wx.heap[g]? = some (.cells cs 3 (0, 0)) ∧ t.names.length ≤ cs.size)
          case atStart => exact ⟨0, cs0, rfl, Nat.zero_le _, rfl, Kept.refl _ _, HR8.out.2.1, HR8.out.2.2⟩
          case round =>
            obtain ⟨j, cs, rfl, hj, rfl, hkj, hcj, hsj⟩ := hrel
            have y4 := kept_cell hkj HR8.out.1.cells.2.2.2.2.1 HR8.out.1.d1.symm
            unfold lentV at y4
            by_cases hjl : j < t.names.length
            · have q2 : (0 : Int) ≤ (j : Int) := by omega
              have q3 : (j : Int) < (t.names.length : Int) := by omega
              obtain ⟨u0, cJ⟩ : ∃ u0, wr.cell? ⟨g, j, none⟩ = some u0 := ⟨cs[j]'(by omega), by rw [tb_cell hcj]; exact Array.getElem?_eq_getElem _⟩
              have cF := blk_free hcj j
              have HJ : Hid _ := And.intro hkj (And.intro hcj hsj)
              clear hkj hcj hsj
              go_wp2_with fail
              go_roundg (t.names.length - (j + 1))
              case measure => omega
              case rel => exact ⟨j + 1, _, rfl, by omega, by go_num, HJ.out.1.trans (Kept.setCell _ _ _ _), heap_setCell_same _ _ _ _ _ _ HJ.out.2.1, by have := HJ.out.2.2; simpa using this⟩
            · obtain rfl : j = t.names.length := by omega
              have q3 : ¬ (t.names.length : Int) < (t.names.length : Int) := by omega
              obtain ⟨wx, rfl⟩ : ∃ wx, wx = wr := ⟨_, rfl⟩
              have hT9 := HR8.out.1.two.other hkj (fun k hk => HR8.out.1.ap k (.inr (.inl hk)))
              have hbx : wx.heap[wq.heap.size]? = some (.cells #[.int .i64 t.kind, .int .i64 t.label, .int .i64 t.a, .int .i64 t.b, lentV g cap1 t, .slice aq t.pairs.length cq] 35 (0, 0)) := (hkj.block _ (HR8.out.1.lt (.inl rfl)) (fun e => HR8.out.1.d1 e.symm)).trans HR8.out.1.box
              have hpr : OwnP wx w.heap.size (.slice aq t.pairs.length cq) t.pairs := trow_at HR8.out.1.prs fun k hk => hkj.block k (HR8.out.1.lt (.inr (.inr hk))) (fun e => HR8.out.1.d2 (e ▸ hk))
              have hpr0 := ownP_blk hpr
              have HR9 : Hid _ := And.intro hT9 (And.intro hbx (And.intro hpr0 HR8.out.1))
              clear hkj hcj hsj hT9 hbx hpr hpr0 HR8
              go_wp2_with fail
              go_loopg [13] t.pairs.length (fun q jv wy => ∃ j : Nat, q = t.pairs.length - j ∧ j ≤ t.pairs.length ∧ jv = .int .i64 j ∧ Kept (fun i => (Value.slice aq t.pairs.length cq).ownBlock = some i) wx wy ∧ PBlk wy aq t.pairs.length)
              case atStart => exact ⟨0, rfl, Nat.zero_le _, rfl, Kept.refl _ _, HR9.out.2.2.1⟩
              case round =>
                obtain ⟨j, rfl, hj, rfl, hkj, hpb⟩ := hrel
                clear y4
                obtain ⟨_, _, _, _, _, y5, _⟩ := six6 ((hkj.block _ (t_lt HR9.out.2.1) HR9.out.2.2.2.d3).trans HR9.out.2.1)
                by_cases hjl : j < t.pairs.length
                · have q4 : (0 : Int) ≤ (j : Int) := by omega
                  have q5 : (j : Int) < (t.pairs.length : Int) := by omega
                  obtain ⟨gp, cs, rfl, hcj, hsj⟩ := hpb (by omega)
                  obtain ⟨u0, cJ⟩ : ∃ u0, wr.cell? ⟨gp, j * 2 + 1, none⟩ = some u0 := ⟨cs[j * 2 + 1]'(by omega), by rw [tb_cell hcj]; exact Array.getElem?_eq_getElem _⟩
                  have cF := blk_free hcj (j * 2 + 1)
                  have HJ : Hid _ := And.intro hkj (And.intro hcj hsj)
                  clear hkj hcj hsj hpb
                  go_wp2_with fail
                  go_roundg (t.pairs.length - (j + 1))
                  case measure => omega
                  case rel => exact ⟨j + 1, rfl, by omega, by go_num, HJ.out.1.trans ((Kept.setCell _ _ _ _).mono fun k _ hk => by subst hk; rfl), fun _ => ⟨gp, _, rfl, heap_setCell_same _ _ _ _ _ _ HJ.out.2.1, by have := HJ.out.2.2; simpa using this⟩⟩
                · obtain rfl : j = t.pairs.length := by omega
                  have q5 : ¬ (t.pairs.length : Int) < (t.pairs.length : Int) := by omega
                  have hT10 := HR9.out.1.other hkj (fun k hk => HR9.out.2.2.2.ap k (.inr (.inr hk)))
                  have HT10 : Hid _ := hT10
                  clear hkj hpb hT10
                  go_wp2_with fail
                  go_roundg (n - (i + 1))
                  case measure => omega
                  case rel => exact ⟨i + 1, L1, F1, G1, rfl, by omega, by go_num, HT10.out, HG1.out.1, HG1.out.2⟩
    · obtain rfl : i = n := by omega
      have q1 : ¬ (i : Int) < (i : Int) := by omega
      obtain ⟨ax, cx, hc1⟩ := hTw.s.cell
      obtain ⟨ay, cy, hc2⟩ := hTw.r.cell
      have HK : Hid _ := And.intro hTw hGo
      have HZ : Hid _ := fun W (hc : W.cell? ⟨b, 0, none⟩ = some (.slice ax L'.length cx)) => tsize_any b ax L'.length cx W hc
      clear hTw hGo
      go_upto_region 24 with fail
      go_region_held3 (fun w' => w'.cell? ⟨b, 0, none⟩ = some (.slice ax L'.length cx) ∧ w'.cell? ⟨c, 0, none⟩ = some (.slice ay L'.length cy)) (go_keep)
        ((go_at_call 21; refine (HZ.out _ (by exact hc1)).mono ?_; rintro r7 w7 ⟨rfl, hw⟩; obtain rfl := hw.symm))
      all_goals (go_wp2_with fail)
      all_goals (go_ret)
      all_goals (exact ⟨by simp, L', F', G', by first | exact HK.out.1 | exact HK.out.1.below (below_drewN (Below.refl _ _) _), HK.out.2, hLl⟩)
end Go.Proofs.YthnenpncajpibaaGreatDoor
/- Two stores with the same terms beside each other: what the law's put does to them. -/
namespace Go.Proofs.YthnenpncajpibaaGreatDoor
open Go.RowKit Go.Maps
attribute [local go_sem ↓] Go.wp_at_zero Go.wp_at_succ
/-- What came in stands while blocks turn that were laid since. -/
theorem lst_of {w0 w : World} {K : Nat → Prop} {v : Value} {l : List Tm} (hT : HasT w0 v l) (hK : ∀ i, K i → w0.heap.size ≤ i) (hb : Below w0.heap.size w0 w) : Lst w K v l := by
  obtain ⟨ao, cap, rfl, hO⟩ := hT
  refine ⟨ao, cap, rfl, fun i t hi => ?_⟩
  obtain ⟨g, o, vn, vp, h⟩ := hO i t hi
  exact ⟨g, o, vn, vp, fun w' hk => h.below (hb.trans (hk.below hb.size hK))⟩
/-- Two stores with the same terms, laid since w0, apart. -/
def Pr (w0 w : World) (b c : Nat) (L : List Tm) : Prop := ∃ F G, StoB w b L F ∧ RStoB w c L G ∧ (∀ i, F i → ¬ G i) ∧ (∀ i, F i → w0.heap.size ≤ i) ∧ (∀ i, G i → w0.heap.size ≤ i) ∧ Below w0.heap.size w0 w ∧ Tm.Good L
theorem Pr.below {w0 w w' : World} {b c : Nat} {L : List Tm} (h : Pr w0 w b c L) (hb : Below w.heap.size w w') : Pr w0 w' b c L := by
  obtain ⟨F, G, h1, h2, h3, h4, h5, h6, h7⟩ := h
  exact ⟨F, G, h1.below hb, h2.below hb, h3, h4, h5, h6.trans (hb.mono h6.size), h7⟩
theorem Pr.bl {w0 w : World} {b c : Nat} {L : List Tm} (h : Pr w0 w b c L) : Below w0.heap.size w0 w := by
  obtain ⟨F, G, h1, h2, h3, h4, h5, h6, h7⟩ := h
  exact h6
theorem put_pr (v : Value) (l : List Tm) (b c : Nat) (L : List Tm) (aA : Addr) (w0 w : World) (h : Pr w0 w b c L) (hT : HasT w0 v l) (hrm : ∀ t ∈ l, Room t) (hlen : L.length + l.length < 100000) (hE : Sent w0 0 aA) :
    Calls Tryz.prog 8 #[.pointer (some ⟨b, 0, none⟩), .pointer (some ⟨c, 0, none⟩), v] w fun r w' => r = .returned (.bool true) ∧ ∃ L', Pr w0 w' b c L' ∧ L'.length ≤ L.length + l.length := by
  obtain ⟨F, G, h1, h2, h3, h4, h5, h6, h7⟩ := h
  have hK : ∀ i, (F i ∨ G i) → w0.heap.size ≤ i := fun i hi => hi.elim (h4 i) (h5 i)
  refine (lawput_any v l b c L F G aA w h1 h2 h3 h7 (lst_of hT hK h6) hrm hlen (fun w' hk => hE.below (h6.trans (hk.below h6.size hK)))).mono ?_
  rintro r w' ⟨rfl, L', F', G', hT', hG', hl'⟩
  refine ⟨rfl, L', ⟨F', G', hT'.s, hT'.r, hT'.ap, fun i hi => ?_, fun i hi => ?_, h6.trans (hT'.k.below h6.size hK), hG'⟩, hl'⟩
  · rcases hT'.f i hi with e | e
    · exact h4 i e
    · have := h6.size; omega
  · rcases hT'.g i hi with e | e
    · exact h5 i e
    · have := h6.size; omega
/-- Both stores new. -/
theorem pr_new {w w1 w2 : World} {F G : Nat → Prop} (h1 : StoB w1 w.heap.size [⟨1, 0, 0, 0, [], []⟩] F) (hF : ∀ i, F i → w.heap.size ≤ i) (hb1 : Below w.heap.size w w1) (h2 : RStoB w2 w1.heap.size [⟨1, 0, 0, 0, [], []⟩] G) (hG : ∀ i, G i → w1.heap.size ≤ i) (hb2 : Below w1.heap.size w1 w2) : Pr w w2 w.heap.size w1.heap.size [⟨1, 0, 0, 0, [], []⟩] :=
  ⟨F, G, h1.below hb2, h2, fun i hi hg => by have := h1.foot_lt hi; have := hG i hg; omega, hF, fun i hi => by have := hG i hi; have := hb1.size; omega, hb1.trans (hb2.mono hb1.size), good_nil⟩
/-- Both stores zero. -/
theorem pr_zero {w0 w w1 w2 : World} (hb : Below w0.heap.size w0 w) (e1 : w1 = w.alloc (.cells #[.slice none 0 0, .map none] 71)) (e2 : w2 = w1.alloc (.cells Tryz.zeroCells32 32)) : Pr w0 w2 w.heap.size (w.heap.size + 1) [] := by
  have b1 : Below w.heap.size w w1 := by rw [e1]; exact (Below.refl _ _).alloc (Nat.le_refl _) _
  have b2 : Below w1.heap.size w1 w2 := by rw [e2]; exact (Below.refl _ _).alloc (Nat.le_refl _) _
  have s1 : w1.heap.size = w.heap.size + 1 := by rw [e1]; simp
  rw [← s1]
  have hS : Sto w1 w.heap.size (.slice none 0 0) (.map none) [] [] := by
    rw [e1]
    exact ⟨(MapKept.heap_alloc w _).1, World.ownsRow_nil _ _ _ _, .inl ⟨rfl, rfl⟩, rfl, fun i t v h => by simp at h, fun t h => by simp at h, by simp⟩
  have hS1 : StoB w1 w.heap.size [] (Foot3 w.heap.size (.slice none 0 0) (.map none) []) := ⟨_, _, _, hS, rfl⟩
  have hR : RSto w2 w1.heap.size Tryz.zeroCells32 (.slice none 0 0) (fun _ => .slice none 0 0) [] [] [] := by rw [e2]; exact rsto_zero w1
  have hup : ∀ i, RFoot w1.heap.size (.slice none 0 0) (fun _ => .slice none 0 0) [] i → w1.heap.size ≤ i := fun i hi => by
    rcases hi with rfl | hi | ⟨k, _, hi⟩ | ⟨v, hv, _⟩
    · exact Nat.le_refl _
    · cases hi
    · cases hi
    · cases hv
  have hz := hb.size
  refine ⟨_, RFoot w1.heap.size (.slice none 0 0) (fun _ => .slice none 0 0) [], hS1.below b2, ⟨_, _, _, _, hR, rfl⟩, fun i hi hg => ?_, fun i hi => ?_, fun i hi => ?_, hb.trans ((b1.trans (b2.mono b1.size)).mono hz), fun i t h => by simp at h⟩
  · have h1 := hS1.foot_lt hi
    have h2 := hup i hg
    omega
  · rcases hi with rfl | hi | hi | ⟨v, hv, _⟩
    · exact hz
    · cases hi
    · cases hi
    · cases hv
  · have := hup i hi; omega
/-- One term whose lists are empty, in a new list. -/
theorem put_one (k a d : Int) (b c : Nat) (L : List Tm) (aA : Addr) (w0 w1 w : World) (g : Nat) (h : Pr w0 w1 b c L) (hb : Below w1.heap.size w1 w) (hg : w1.heap.size ≤ g) (hblk : w.heap[g]? = some (.cells #[.int .i64 k, .int .i64 0, .int .i64 a, .int .i64 d, .slice none 0 0, .slice none 0 0] 35 (0, 0))) (hlen : L.length + 1 < 100000) (hE : Sent w0 0 aA) :
    Calls Tryz.prog 8 #[.pointer (some ⟨b, 0, none⟩), .pointer (some ⟨c, 0, none⟩), .slice (some ⟨g, 0, none⟩) 1 1] w fun r w' => r = .returned (.bool true) ∧ ∃ L', Pr w0 w' b c L' ∧ L'.length ≤ L.length + 1 := by
  obtain ⟨F, G, h1', h2', h3, h4, h5, h6', h7⟩ := h
  have hlow : ∀ i, (F i ∨ G i) → i < w1.heap.size := fun i hi => hi.elim (fun e => h1'.foot_lt e) (fun e => h2'.foot_lt e)
  have h1 := h1'.below hb
  have h2 := h2'.below hb
  have h6 : Below w0.heap.size w0 w := h6'.trans (hb.mono h6'.size)
  have hK : ∀ i, (F i ∨ G i) → w0.heap.size ≤ i := fun i hi => hi.elim (h4 i) (h5 i)
  have hL : Lst w (fun i => F i ∨ G i) (.slice (some ⟨g, 0, none⟩) 1 1) [⟨k, 0, a, d, [], []⟩] := by
    refine ⟨_, 1, rfl, fun i t hi => ?_⟩
    have hi0 : i = 0 := by have := (List.getElem?_eq_some_iff.1 hi).1; simp at this; omega
    subst hi0
    have ht : t = ⟨k, 0, a, d, [], []⟩ := by simpa using hi.symm
    subst ht
    refine ⟨g, 0, .slice none 0 0, .slice none 0 0, fun w' hk => ?_⟩
    have hB := (hk.block g (t_lt hblk) fun e => by have := hlow g e; omega).trans hblk
    obtain ⟨x0, x1, x2, x3, x4, x5, _⟩ := six6 hB
    exact ⟨rfl, ⟨x0, x1, x2, x3, x4, x5⟩, ⟨none, 0, rfl, fun i z h => by simp at h⟩, ⟨none, 0, rfl, fun i z h => by simp at h⟩, Nat.zero_le _, Nat.zero_le _⟩
  refine (lawput_any _ _ b c L F G aA w h1 h2 h3 h7 hL (fun t ht => by rw [List.mem_singleton.1 ht]; exact ⟨by simp, by simp⟩) hlen (fun w' hk => hE.below (h6.trans (hk.below h6.size hK)))).mono ?_
  rintro r w' ⟨rfl, L', F', G', hT', hG', hl'⟩
  refine ⟨rfl, L', ⟨F', G', hT'.s, hT'.r, hT'.ap, fun i hi => ?_, fun i hi => ?_, h6.trans (hT'.k.below h6.size hK), hG'⟩, hl'⟩
  · rcases hT'.f i hi with e | e
    · exact h4 i e
    · have := h6.size; omega
  · rcases hT'.g i hi with e | e
    · exact h5 i e
    · have := h6.size; omega
end Go.Proofs.YthnenpncajpibaaGreatDoor
/- The constants within a term: plain. -/
namespace Go.Proofs.YthnenpncajpibaaGreatDoor
open Go.RowKit Go.Maps
namespace Tm
/-- The constant that a number stands for. -/
def constAt (L : List Tm) (z : Int) : Option Int := match L[z.toNat]? with | some t => if t.kind = 7 then some t.a else none | none => none
end Tm
theorem constAt_of {L : List Tm} {m : Nat} {t : Tm} (h : L[m]? = some t) : Tm.constAt L (m : Int) = if t.kind = 7 then some t.a else none := by
  unfold Tm.constAt
  rw [Int.toNat_natCast, h]
theorem const_form {n : Nat} {t : Tm} (h : t.may n = true) (hk : t.kind = 7) : t = ⟨7, 0, t.a, 0, [], []⟩ ∧ 0 ≤ t.a ∧ t.a < 200 := by
  obtain ⟨k, l, a, b, ns, ps⟩ := t
  simp only at hk
  subst hk
  simp [Tm.may, Tm.right, Tm.rest] at h
  obtain ⟨⟨h1, h2⟩, h3⟩ := h
  simp only [Tm.mk.injEq]
  refine ⟨⟨trivial, ?_, trivial, ?_, ?_, ?_⟩, h1, h2⟩
  · omega
  · omega
  · exact h3.1.2
  · exact h3.2
theorem rise_mem {x : Int} {l : List Int} (h : (x :: l).Pairwise (· < ·)) : ∀ z ∈ l, x < z := (List.pairwise_cons.1 h).1
theorem rise_ext : ∀ {l r : List Int}, l.Pairwise (· < ·) → r.Pairwise (· < ·) → (∀ z, z ∈ l ↔ z ∈ r) → l = r
  | [], [], _, _, _ => rfl
  | [], y :: r, _, _, h => by have := (h y).2 (by simp); simp at this
  | x :: l, [], _, _, h => by have := (h x).1 (by simp); simp at this
  | x :: l, y :: r, hl, hr, h => by
    have e : x = y := by
      have h1 := (h x).1 (by simp)
      have h2 := (h y).2 (by simp)
      rcases List.mem_cons.1 h1 with e | e
      · exact e
      rcases List.mem_cons.1 h2 with e2 | e2
      · exact e2.symm
      have a := rise_mem hr x e
      have b := rise_mem hl y e2
      omega
    subst e
    have hl' := (List.pairwise_cons.1 hl).2
    have hr' := (List.pairwise_cons.1 hr).2
    rw [rise_ext hl' hr' fun z => ?_]
    constructor
    · intro hz
      have a := rise_mem hl z hz
      rcases List.mem_cons.1 ((h z).1 (by simp [hz])) with e | e
      · omega
      · exact e
    · intro hz
      have a := rise_mem hr z hz
      rcases List.mem_cons.1 ((h z).2 (by simp [hz])) with e | e
      · omega
      · exact e
/-- What both lists of constants are. -/
structure CsOf (L : List Tm) (ts cs : List Int) : Prop where
  rise : cs.Pairwise (· < ·)
  mem : ∀ z, z ∈ cs ↔ ∃ m ∈ ts, Tm.constAt L m = some z
theorem CsOf.ext {L : List Tm} {ts cs ds : List Int} (h : CsOf L ts cs) (k : CsOf L ts ds) : cs = ds := rise_ext h.rise k.rise fun z => (h.mem z).trans (k.mem z).symm
/-- A number within is not above the whole. -/
theorem withi_le {L : List Tm} (hG : Tm.Good L) {id : Nat} {ts : List Int} (h : Withi L id ts) : ∀ z ∈ ts, z ≤ (id : Int) := by
  have gen : ∀ (d : Nat) (z : Nat), L.length - z ≤ d → (z : Int) ∈ ts → (z : Int) ≤ (id : Int) := by
    intro d
    induction d with
    | zero => intro z hd hz; have := h.range z hz; omega
    | succ d ih =>
      intro z hd hz
      rcases h.frm z hz with e | ⟨y, hy, e⟩
      · omega
      · have hyr := h.range y hy
        obtain ⟨m, rfl⟩ : ∃ m : Nat, y = m := ⟨y.toNat, by omega⟩
        obtain ⟨t, ht⟩ : ∃ t, L[m]? = some t := ⟨L[m]'(by omega), List.getElem?_eq_getElem _⟩
        have hlt := good_parts hG ht _ (by rw [partsAt_of ht] at e; exact e)
        have := ih m (by omega) hy
        omega
  intro z hz
  have hr := h.range z hz
  obtain ⟨m, rfl⟩ : ∃ m : Nat, z = m := ⟨z.toNat, by omega⟩
  exact gen _ m (Nat.le_refl _) hz
/-- The set within is one alone. -/
theorem withi_sub {L : List Tm} (hG : Tm.Good L) {id : Int} {ts us : List Int} (h : Withi L id ts) (k : Withi L id us) : ∀ (d : Nat) (z : Nat), L.length - z ≤ d → (z : Int) ∈ ts → (z : Int) ∈ us := by
  intro d
  induction d with
  | zero => intro z hd hz; have := h.range z hz; omega
  | succ d ih =>
    intro z hd hz
    rcases h.frm z hz with e | ⟨y, hy, e⟩
    · rw [e]; exact k.head
    · have hyr := h.range y hy
      obtain ⟨m, rfl⟩ : ∃ m : Nat, y = m := ⟨y.toNat, by omega⟩
      obtain ⟨t, ht⟩ : ∃ t, L[m]? = some t := ⟨L[m]'(by omega), List.getElem?_eq_getElem _⟩
      have hlt := good_parts hG ht _ (by rw [partsAt_of ht] at e; exact e)
      exact k.closed _ (ih m (by omega) hy) _ e
theorem withi_mem {L : List Tm} (hG : Tm.Good L) {id : Int} {ts us : List Int} (h : Withi L id ts) (k : Withi L id us) (z : Int) : z ∈ ts ↔ z ∈ us := by
  constructor
  · intro hz
    have hr := h.range z hz
    obtain ⟨m, rfl⟩ : ∃ m : Nat, z = m := ⟨z.toNat, by omega⟩
    exact withi_sub hG h k _ m (Nat.le_refl _) hz
  · intro hz
    have hr := k.range z hz
    obtain ⟨m, rfl⟩ : ∃ m : Nat, z = m := ⟨z.toNat, by omega⟩
    exact withi_sub hG k h _ m (Nat.le_refl _) hz
theorem withi_eq {L : List Tm} (hG : Tm.Good L) {id : Int} {ts us : List Int} (h : Withi L id ts) (k : Withi L id us) : ts = us := rise_ext h.rise k.rise (withi_mem hG h k)
/-- The program's list: gathered along ts, then sorted. -/
theorem csOf_sorted {L : List Tm} (hG : Tm.Good L) (nd : ∀ t (i j : Nat), L[i]? = some t → L[j]? = some t → i = j) {id : Int} {ts cs : List Int} (h : Withi L id ts) (hp : cs.Perm (ts.filterMap (Tm.constAt L))) (hs : cs.Pairwise (· ≤ ·)) : CsOf L ts cs := by
  have key : ∀ x ∈ ts, ∀ y ∈ ts, ∀ a, Tm.constAt L x = some a → Tm.constAt L y = some a → x = y := fun x hx y hy a ha hb => by
    have hxr := h.range x hx
    have hyr := h.range y hy
    obtain ⟨m, rfl⟩ : ∃ m : Nat, x = m := ⟨x.toNat, by omega⟩
    obtain ⟨n, rfl⟩ : ∃ n : Nat, y = n := ⟨y.toNat, by omega⟩
    obtain ⟨t, ht⟩ : ∃ t, L[m]? = some t := ⟨L[m]'(by omega), List.getElem?_eq_getElem _⟩
    obtain ⟨s, hs'⟩ : ∃ s, L[n]? = some s := ⟨L[n]'(by omega), List.getElem?_eq_getElem _⟩
    rw [constAt_of ht] at ha
    rw [constAt_of hs'] at hb
    split at ha
    · rename_i k7
      split at hb
      · rename_i k7'
        have e1 := (const_form (hG m t ht) k7).1
        have e2 := (const_form (hG n s hs') k7').1
        have ea : t.a = s.a := by
          have h1 := Option.some.inj ha
          have h2 := Option.some.inj hb
          omega
        have : t = s := by rw [e1, e2, ea]
        rw [← this] at hs'
        have := nd t m n ht hs'
        omega
      · cases hb
    · cases ha
  have hnd : (ts.filterMap (Tm.constAt L)).Nodup := by
    have gen : ∀ (us : List Int), us.Nodup → (∀ x ∈ us, x ∈ ts) → (us.filterMap (Tm.constAt L)).Nodup := by
      intro us
      induction us with
      | nil => intro _ _; simp
      | cons x us ih =>
        intro hu hsub
        rw [List.nodup_cons] at hu
        have ih' := ih hu.2 fun y hy => hsub y (by simp [hy])
        cases e : Tm.constAt L x with
        | none => rw [List.filterMap_cons_none e]; exact ih'
        | some a =>
          rw [List.filterMap_cons_some e, List.nodup_cons]
          refine ⟨fun hin => ?_, ih'⟩
          obtain ⟨y, hy, e2⟩ := List.mem_filterMap.1 hin
          have := key x (hsub x (by simp)) y (hsub y (by simp [hy])) a e e2
          subst this
          exact hu.1 hy
    exact gen ts (h.rise.imp fun hlt => by omega) fun _ hx => hx
  refine ⟨rise_of hs (hp.nodup_iff.2 hnd), fun z => ?_⟩
  rw [hp.mem_iff, List.mem_filterMap]
end Go.Proofs.YthnenpncajpibaaGreatDoor
