/- Texts of this claim, joined: BookI6, BXaInts, BYRows. -/
import Derived.Test.YtpmanmoljlhogaaGreatDoorPart11
import Derived.Deep.AppendLies
import Derived.Deep.RegionLaw
import Derived.Test.YtpmanmoljlhogaaGreatDoorPart0
import Derived.Deep.DeepCutAuto
import Derived.Deep.RegionHeld3
import Derived.Test.YtpmanmoljlhogaaGreatDoorPart1
import Derived.Deep.QuietTactic
import Derived.BigQuiet
/- Contract of the book's Ints: one more list. -/
namespace Go.Proofs.YtpmanmoljlhogaaGreatDoor
open Go.RowKit Go.Maps
attribute [local go_sem ↓] Go.wp_at_zero Go.wp_at_succ
/-- The book with one list more; what has turned. -/
structure Bsn (w w' : World) (bk : Nat) (vi vw : Value) (v : Value) (ls ws : List Value) (zss : List (List Int)) (zs : List Int) (vi' vw' v1 : Value) : Prop where
  b : Bs w' bk vi' vw' (ls ++ [v]) (ws ++ [v1]) (zss ++ [zs])
  k : Kept (fun b => b = bk ∨ vi.ownBlock = some b ∨ vw.ownBlock = some b) w w'
  o : ∀ o, 2 ≤ o → w'.cell? ⟨bk, o, none⟩ = w.cell? ⟨bk, o, none⟩
  f : ∀ b, (vi'.ownBlock = some b ∨ vw'.ownBlock = some b) → (vi.ownBlock = some b ∨ vw.ownBlock = some b) ∨ w.heap.size ≤ b
  n : ∀ b, v1.ownBlock = some b → w.heap.size ≤ b
theorem Bs.snoc {w w1 w2 w3 : World} {bk : Nat} {vi vw : Value} {ls ws : List Value} {zss : List (List Int)} (h : Bs w bk vi vw ls ws zss) {v : Value} {zs : List Int} (hO : OwnI w 0 v zs) (hap : ∀ l ∈ ls, ∀ k, l.ownBlock = some k → v.ownBlock ≠ some k) (hlen : zss.length < 400) (hsz : zs.length ≤ 1000000) {vi' vw' v1 : Value}
    (r1 : w1.ownsRow 0 57 1 vi' (zss.length + 1) (ls ++ [v])) (g1 : (w.alloc (.cells #[v] 57)).grownBy w1 vi.ownBlock) (a1 : vi'.ownBlock = vi.ownBlock ∨ vi'.ownBlock = some (w.heap.size + 1))
    (r2 : w2.ownsRow ((w1.setCell ⟨bk, 0, none⟩ vi').drew.heap.size) 3 1 v1 zs.length (iC zs)) (g2 : Below (w1.setCell ⟨bk, 0, none⟩ vi').drew.heap.size (w1.setCell ⟨bk, 0, none⟩ vi').drew w2)
    (r3 : w3.ownsRow 0 57 1 vw' (zss.length + 1) (ws ++ [v1])) (g3 : (w2.alloc (.cells #[v1] 57)).grownBy w3 vw.ownBlock) (a3 : vw'.ownBlock = vw.ownBlock ∨ vw'.ownBlock = some (w2.heap.size + 1)) :
    Bsn w (w3.setCell ⟨bk, 1, none⟩ vw') bk vi vw v ls ws zss zs vi' vw' v1 := by
  obtain ⟨cs, hcs, hcz⟩ := h.bt
  have hbk : bk < w.heap.size := t_lt hcs
  have nbi : vi.ownBlock ≠ some bk := own_bk h.p.ri hcs (by decide)
  have nbw : vw.ownBlock ≠ some bk := own_bk h.rw hcs (by decide)
  have kA : Kept (fun b => vi.ownBlock = some b) w w1 := (Kept.of_below ((Below.refl _ _).alloc (Nat.le_refl _) _)).trans (Kept.of_grown g1)
  have s1 : w.heap.size + 1 ≤ w1.heap.size := by have := g1.size; simp at this; omega
  have kB : Kept (fun b => b = bk) w1 (w1.setCell ⟨bk, 0, none⟩ vi').drew := (Kept.setCell w1 bk 0 vi').trans (Kept.of_below ((Below.refl _ _).drew))
  have sB : (w1.setCell ⟨bk, 0, none⟩ vi').drew.heap.size = w1.heap.size := by simp
  have kC : Kept (fun b => b = bk) w1 w2 := kB.trans (Kept.of_below g2)
  have s2 : w1.heap.size ≤ w2.heap.size := by have := g2.size; omega
  have kD : Kept (fun b => vw.ownBlock = some b) w2 w3 := (Kept.of_below ((Below.refl _ _).alloc (Nat.le_refl _) _)).trans (Kept.of_grown g3)
  have s3 : w2.heap.size + 1 ≤ w3.heap.size := by have := g3.size; simp at this; omega
  have kE : Kept (fun b => b = bk) w3 (w3.setCell ⟨bk, 1, none⟩ vw') := Kept.setCell w3 bk 1 vw'
  have kW : Kept (fun b => b = bk ∨ vi.ownBlock = some b ∨ vw.ownBlock = some b) w (w3.setCell ⟨bk, 1, none⟩ vw') :=
    (((kA.mono fun b _ hb => .inr (.inl hb)).trans (kC.mono fun b _ hb => .inl hb)).trans (kD.mono fun b _ hb => .inr (.inr hb))).trans (kE.mono fun b _ hb => .inl hb)
  -- the book's own block
  have b1 : w1.heap[bk]? = some (.cells cs 40 (0, 0)) := (kA.block bk hbk nbi).trans hcs
  have b2 : (w1.setCell ⟨bk, 0, none⟩ vi').drew.heap[bk]? = some (.cells (cs.setIfInBounds 0 vi') 40 (0, 0)) := heap_setCell_same w1 bk 0 cs _ _ b1
  have b3 : w2.heap[bk]? = some (.cells (cs.setIfInBounds 0 vi') 40 (0, 0)) := (g2.block bk (by omega)).trans b2
  have b4 : w3.heap[bk]? = some (.cells (cs.setIfInBounds 0 vi') 40 (0, 0)) := (kD.block bk (by omega) nbw).trans b3
  have b5 : (w3.setCell ⟨bk, 1, none⟩ vw').heap[bk]? = some (.cells ((cs.setIfInBounds 0 vi').setIfInBounds 1 vw') 40 (0, 0)) := heap_setCell_same w3 bk 1 _ _ _ b4
  have hcell : ∀ o, (w3.setCell ⟨bk, 1, none⟩ vw').cell? ⟨bk, o, none⟩ = ((cs.setIfInBounds 0 vi').setIfInBounds 1 vw')[o]? := fun o => by simp [World.cell?, b5]
  have hcell0 : ∀ o, w.cell? ⟨bk, o, none⟩ = cs[o]? := fun o => by simp [World.cell?, hcs]
  -- what else stands
  have hint : ∀ (x : Value) (ys : List Int), OwnI w 0 x ys → OwnI (w3.setCell ⟨bk, 1, none⟩ vw') 0 x ys := fun x ys hx => own_up hx kW fun b hb hf => by
    rcases hf with rfl | hf | hf
    · exact own_bk hx hcs (by decide) hb
    · exact own_ne hx h.p.ri (by decide) b hb hf
    · exact own_ne hx h.rw (by decide) b hb hf
  have nvi' : vi'.ownBlock ≠ some bk := fun e => by
    rcases a1 with a | a
    · rw [a] at e; exact nbi e
    · rw [a] at e; have := Option.some.inj e; omega
  have nvw' : vw'.ownBlock ≠ some bk := fun e => by
    rcases a3 with a | a
    · rw [a] at e; exact nbw e
    · rw [a] at e; have := Option.some.inj e; omega
  have nvv : ∀ k, vi'.ownBlock = some k → vw.ownBlock ≠ some k := fun k hk e => by
    rcases a1 with a | a
    · rw [a] at hk; exact h.ne k hk e
    · rw [a] at hk; have := Option.some.inj hk; have := (h.rw.lt k e).2; omega
  have hvi3 : w3.ownsRow 0 57 1 vi' (zss.length + 1) (ls ++ [v]) := own_up (own_up r1 kC fun b hb e => nvi' (by rw [hb, e])) kD nvv
  have hvif := own_up hvi3 kE fun b hb e => nvi' (by rw [hb, e])
  have hvwf := own_up r3 kE fun b hb e => nvw' (by rw [hb, e])
  have hv1 : OwnI (w3.setCell ⟨bk, 1, none⟩ vw') 0 v1 zs := by
    have x2 : w2.ownsRow 0 3 1 v1 zs.length (iC zs) := row_base r2 (Nat.zero_le _)
    have hlow : ∀ b, v1.ownBlock = some b → w1.heap.size ≤ b := fun b hb => by have := (r2.lt b hb).1; omega
    exact own_up (own_up x2 kD fun b hb e => by have := hlow b hb; have := (h.rw.lt b e).2; omega) kE fun b hb e => by have := hlow b hb; omega
  have hlls : ls.length = zss.length := h.p.ll
  have hlws : ws.length = zss.length := by have := h.rw.1; rw [Nat.mul_one] at this; exact this
  refine ⟨⟨⟨?_, ?_, fun k l ys h1 h2 => ?_, ⟨fun l hl => ?_, fun l hl k hk => ?_, nvi', fun i j l m hl hm hij k hk => ?_⟩, by rw [List.length_append]; simp; omega, fun ys hy => ?_⟩, ?_, ?_, fun k l ys h1 h2 => ?_, ⟨_, b5, by simpa using hcz⟩, fun k hk e => ?_⟩, kW, fun o ho => ?_, fun b hb => ?_, fun b hb => by have := (r2.lt b hb).1; omega⟩
  · rw [hcell, Array.getElem?_setIfInBounds_ne (by decide)]; simp [show 0 < cs.size from by omega]
  · rw [List.length_append]; exact hvif
  · rcases Nat.lt_or_ge k zss.length with hk | hk
    · rw [List.getElem?_append_left (by omega)] at h1
      rw [List.getElem?_append_left hk] at h2
      exact hint l ys (h.p.li k l ys h1 h2)
    · have hk' := (List.getElem?_eq_some_iff.1 h2).1
      simp at hk'
      obtain rfl : k = zss.length := by omega
      rw [List.getElem?_append_right (by omega), hlls] at h1
      rw [List.getElem?_append_right (by omega)] at h2
      simp at h1 h2
      subst h1; subst h2
      exact hint v zs hO
  · rcases List.mem_append.1 hl with hl | hl
    · exact h.p.ap.b l hl
    · rw [List.mem_singleton.1 hl]; exact own_bk hO hcs (by decide)
  · have hlI : ∃ ys, OwnI w 0 l ys := by
      rcases List.mem_append.1 hl with hl | hl
      · obtain ⟨q, hq, rfl⟩ := List.getElem_of_mem hl
        exact ⟨_, h.p.li q _ _ (List.getElem?_eq_getElem hq) (List.getElem?_eq_getElem (by omega))⟩
      · rw [List.mem_singleton.1 hl]; exact ⟨_, hO⟩
    obtain ⟨ys, hl'⟩ := hlI
    exact own_ne (hint l ys hl') hvif (by decide) k hk
  · rcases Nat.lt_or_ge i zss.length with hi | hi
    · rw [List.getElem?_append_left (by omega)] at hl
      rcases Nat.lt_or_ge j zss.length with hj | hj
      · rw [List.getElem?_append_left (by omega)] at hm
        exact h.p.ap.p i j l m hl hm hij k hk
      · have hj' := (List.getElem?_eq_some_iff.1 hm).1
        simp at hj'
        obtain rfl : j = ls.length := by omega
        rw [List.getElem?_append_right (Nat.le_refl _), Nat.sub_self] at hm
        have e : v = m := by simpa using hm
        subst e
        exact hap l (List.mem_of_getElem? hl) k hk
    · have hi' := (List.getElem?_eq_some_iff.1 hl).1
      simp at hi'
      obtain rfl : i = ls.length := by omega
      rw [List.getElem?_append_right (Nat.le_refl _), Nat.sub_self] at hl
      have e : v = l := by simpa using hl
      subst e
      have hj' := (List.getElem?_eq_some_iff.1 hm).1
      simp at hj'
      rw [List.getElem?_append_left (by omega)] at hm
      exact fun e => hap m (List.mem_of_getElem? hm) k e hk
  · rcases List.mem_append.1 hy with hy | hy
    · exact h.p.sz ys hy
    · rw [List.mem_singleton.1 hy]; exact hsz
  · rw [hcell]; simp [hcz]
  · rw [List.length_append]; exact hvwf
  · rcases Nat.lt_or_ge k zss.length with hk | hk
    · rw [List.getElem?_append_left (by omega)] at h1
      rw [List.getElem?_append_left hk] at h2
      exact hint l ys (h.lw k l ys h1 h2)
    · have hk' := (List.getElem?_eq_some_iff.1 h2).1
      simp at hk'
      obtain rfl : k = zss.length := by omega
      rw [List.getElem?_append_right (by omega), hlws] at h1
      rw [List.getElem?_append_right (by omega)] at h2
      simp at h1 h2
      subst h1; subst h2
      exact hv1
  · rcases a3 with a | a
    · rw [a] at e; exact nvv k hk e
    · rw [a] at e
      have h9 := Option.some.inj e
      have := (r1.lt k hk).2
      omega
  · rw [hcell, hcell0]
    rw [Array.getElem?_setIfInBounds_ne (by omega), Array.getElem?_setIfInBounds_ne (by omega)]
  · rcases hb with hb | hb
    · rcases a1 with a | a
      · rw [a] at hb; exact .inl (.inl hb)
      · rw [a] at hb; have := Option.some.inj hb; exact .inr (by omega)
    · rcases a3 with a | a
      · rw [a] at hb; exact .inl (.inr hb)
      · rw [a] at hb; have := Option.some.inj hb; exact .inr (by omega)
set_option maxRecDepth 100000 in
set_option maxHeartbeats 4000000 in
theorem ints_any (bk : Nat) (vi vw v : Value) (ls ws : List Value) (zss : List (List Int)) (zs : List Int) (w : World) (h : Bs w bk vi vw ls ws zss) (hO : OwnI w 0 v zs) (hap : ∀ l ∈ ls, ∀ k, l.ownBlock = some k → v.ownBlock ≠ some k) (hlen : zss.length < 400) (hsz : zs.length ≤ 1000000) :
    Calls Tryz.prog 36 #[.pointer (some ⟨bk, 0, none⟩), v] w fun r w' => r = .returned (.tuple #[]) ∧ ∃ vi' vw' v1, Bsn w w' bk vi vw v ls ws zss zs vi' vw' v1 := by
  obtain ⟨i0, hi0, hz0, hz1, hz2⟩ := info_parts Tryz.infoI3
  obtain ⟨j0, hj0, hy0, hy1, hy2⟩ := info_parts Tryz.infoRowI
  obtain ⟨ai, ci, rfl⟩ := row_shape h.p.ri
  obtain ⟨aw, cw, rfl⟩ := row_shape h.rw
  obtain ⟨al, cl, rfl⟩ := row_shape hO
  obtain ⟨n, hn⟩ : ∃ n, n = zss.length := ⟨_, rfl⟩
  obtain ⟨cs, hcs, hcz⟩ := h.bt
  have hbk : bk < w.heap.size := t_lt hcs
  have c0 := h.p.c0
  have q1 : (n : Int) < 400 := by omega
  have hR1 : n + 1 ≤ maxLen := by unfold maxLen; omega
  have hR8 : (n + 1) * 24 ≤ 140737488355328 := by omega
  have hL1 : zs.length ≤ maxLen := by unfold maxLen; omega
  have hL8 : zs.length * 8 ≤ 140737488355328 := by omega
  have hr := h.p.ri
  have hrw := h.rw
  rw [← hn] at c0 hr hrw ⊢
  have nbi := own_bk hr hcs (by decide)
  have nbw := own_bk hrw hcs (by decide)
  have HB : Hid _ := And.intro h (And.intro hO (And.intro hap (And.intro hr (And.intro hrw (And.intro hcs (And.intro hn (And.intro hsz (And.intro nbi nbw))))))))
  clear h hO hap hr hrw hcs hn nbi nbw
  go_enter Tryz.func36, Tryz.ntmps36
  go_wp2_with (at_builtin; (refine wpList_append_own_at _ rfl _ _ 28 rfl 0 57 j0 (.slice none 0 0) 1 24 Tryz.underlying28 hj0 hy0 hy1 hy2 rfl (by decide) (.slice ai n ci) n ls rfl (HB.out.2.2.2.1.alloc _) ⟨w.heap.size, 0, none⟩ 1 1 [.slice al zs.length cl] rfl rfl (World.news_of_block (cs := #[.slice al zs.length cl]) (t := 57) (fr := (0, 0)) (heap_alloc_new w _)) (one_list _ ⟨_, _, _, rfl⟩) hR1 hR8 (Nat.zero_le _) ?_; intro v2 w2 hown2 hgrow2 hnil2 hat2; obtain ⟨a2, k2, rfl⟩ := row_shape hown2; have hB2 : w2.heap[bk]? = some (.cells cs 40 (0, 0)) := ((grown_alloc hgrow2).block bk hbk HB.out.2.2.2.2.2.2.2.2.1).trans HB.out.2.2.2.2.2.1; have f2 := blk_free hB2 0; have g2 : w2.cell? ⟨bk, 0, none⟩ = some (.slice ai n ci) := (by rw [← c0]; simp [World.cell?, hB2, HB.out.2.2.2.2.2.1]); have H2 : Hid _ := And.intro hown2 (And.intro hgrow2 (And.intro hat2 hB2)); clear hown2 hgrow2 hnil2 hat2 hB2))
  have S1 : (w2.setCell ⟨bk, 0, none⟩ (.slice a2 (n + 1) k2)).heap[bk]? = some (.cells (cs.setIfInBounds 0 (.slice a2 (n + 1) k2)) 40 (0, 0)) := heap_setCell_same w2 bk 0 cs _ _ H2.out.2.2.2
  have kS : Kept (fun b => b = bk ∨ (Value.slice ai n ci).ownBlock = some b) w (w2.setCell ⟨bk, 0, none⟩ (.slice a2 (n + 1) k2)) := ((grown_alloc H2.out.2.1).mono fun b _ hb => .inr hb).trans ((Kept.setCell w2 bk 0 _).mono fun b _ hb => .inl hb)
  obtain ⟨wS, hwS⟩ : ∃ W, W = w2.setCell ⟨bk, 0, none⟩ (.slice a2 (n + 1) k2) := ⟨_, rfl⟩
  rw [← hwS] at S1 kS ⊢
  have e1 : wS.cell? ⟨bk, 1, none⟩ = some (.slice aw n cw) := by
    have h1 := HB.out.1.c1
    rw [← HB.out.2.2.2.2.2.2.1] at h1
    rw [← h1]
    simp [World.cell?, S1, HB.out.2.2.2.2.2.1]
  have hOS : OwnI wS 0 (.slice al zs.length cl) zs := own_up HB.out.2.1 kS fun b hb hf => by
    rcases hf with rfl | hf
    · exact own_bk HB.out.2.1 HB.out.2.2.2.2.2.1 (by decide) hb
    · exact own_ne HB.out.2.1 HB.out.2.2.2.1 (by decide) b hb hf
  have hC := hasI_copy (hOS.has.below ((Below.refl _ wS).drew))
  have hRS : wS.ownsRow 0 57 1 (.slice aw n cw) n ws := own_up HB.out.2.2.2.2.1 kS fun b hb hf => by
    rcases hf with rfl | hf
    · exact HB.out.2.2.2.2.2.2.2.2.2 hb
    · have h1 := HB.out.1.ne b
      rw [← HB.out.2.2.2.2.2.2.1] at h1
      exact h1 hf hb
  have HS : Hid _ := And.intro hC (And.intro hRS (And.intro S1 hwS))
  clear hC hRS S1 hwS hOS kS g2 f2 c0
  go_region_law
    ((first
      | (refine step_copy_at _ (by rfl) _ _ _ (by rfl) wS.drew.heap.size 3 i0 (.int .i64 0) 1 8 Tryz.underlying57 hi0 hz0 hz1 hz2 rfl (by decide) (by rfl) al zs.length cl (iC zs) (by rfl) HS.out.1.1 (iC_length _) HS.out.1.2 (iC_one _) hL1 hL8 (Nat.le_refl _) ?_; intro v3 w3 hown3 hgrow3; obtain ⟨a3, k3, rfl⟩ := row_shape hown3; have hb3 : Below wS.drew.heap.size wS.drew w3 := tgrown0 hgrow3; have hb4 : Below wS.heap.size wS w3 := (Below.refl _ wS).drew.trans hb3; clear hgrow3; have e1 := cell_up e1 hb4; have hR3 : (w3.alloc (.cells #[.slice a3 zs.length k3] 57)).ownsRow 0 57 1 (.slice aw n cw) n ws := trow_at HS.out.2.1 (fun i hi => (hb4.alloc hb4.size _).block i (HS.out.2.1.lt i hi).2); have hB3 := (hb4.block bk (t_lt HS.out.2.2.1)).trans HS.out.2.2.1; have hbk3 := t_lt hB3; have H3 : Hid _ := And.intro hown3 (And.intro hb3 (And.intro hR3 hB3)); clear hown3 hb3 hb4 hR3 hB3)
      | (refine step_append_lies _ (by rfl) _ _ _ (by rfl) 0 57 j0 _ 1 24 Tryz.underlying28 hj0 hy0 hy1 hy2 rfl (Nat.succ_pos 0) (.slice aw n cw) n ws (by rfl) H3.out.2.2.1 ⟨w3.heap.size, 0, none⟩ 1 1 [.slice a3 zs.length k3] (by rfl) (by rfl) (World.news_of_block (cs := #[.slice a3 zs.length k3]) (t := 57) (fr := (0, 0)) (heap_alloc_new w3 _)) (one_list _ ⟨_, _, _, rfl⟩) Nat.one_pos hR1 hR8 (Nat.zero_le _) (w3.heap.size + 1) (by simp) ?_; intro g4 k4 w4 hown4 hgrow4 hat4 hlt4; have hB4 := ((grown_alloc hgrow4).block bk (t_lt H3.out.2.2.2) HB.out.2.2.2.2.2.2.2.2.2).trans H3.out.2.2.2; have f4 := blk_free hB4 1; have e4 : w4.cell? ⟨bk, 1, none⟩ = some (.slice aw n cw) := (by rw [← e1]; simp [World.cell?, hB4, H3.out.2.2.2]); have H4 : Hid _ := And.intro hown4 (And.intro hgrow4 hat4); clear hown4 hgrow4 hat4 hlt4 hB4 e1)
      | fail))
  all_goals
    go_wp2_with fail
    go_end0
    obtain rfl : n = zss.length := HB.out.2.2.2.2.2.2.1
    obtain rfl : wS = _ := HS.out.2.2.2
    exact ⟨rfl, _, _, _, Bs.snoc (w1 := w2) (w2 := w3) (v1 := .slice a3 zs.length k3) HB.out.1 HB.out.2.1 HB.out.2.2.1 hlen hsz H2.out.1 H2.out.2.1 (H2.out.2.2.1.imp_right fun e => by rw [e]; simp) H3.out.1 H3.out.2.1 H4.out.1 H4.out.2.1 (H4.out.2.2.imp (fun e => e.symm) (fun e => by rw [e]; rfl))⟩
set_option maxRecDepth 100000 in
set_option maxHeartbeats 4000000 in
/-- There are as many as there may be: nothing turns. -/
theorem ints_full (bk : Nat) (vi vw v : Value) (ls ws : List Value) (zss : List (List Int)) (w : World) (h : Bs w bk vi vw ls ws zss) (hlen : ¬ zss.length < 400) :
    Calls Tryz.prog 36 #[.pointer (some ⟨bk, 0, none⟩), v] w fun r w' => r = .returned (.tuple #[]) ∧ w' = w := by
  obtain ⟨ai, ci, rfl⟩ := row_shape h.p.ri
  have c0 := h.p.c0
  have hl := h.p.len
  have e : zss.length = 400 := by omega
  rw [e] at c0
  clear h hl e hlen
  go_enter Tryz.func36, Tryz.ntmps36
  go_wp2_with fail
  go_end0
  exact ⟨rfl, rfl⟩
/-- Another kind takes a list: the book's own block turns elsewhere, and rows of another type. -/
theorem Bs.other {w w' : World} {F : Nat → Prop} {bk : Nat} {vi vw : Value} {ls ws : List Value} {zss : List (List Int)} (h : Bs w bk vi vw ls ws zss) (hk : Kept F w w') (c0 : w'.cell? ⟨bk, 0, none⟩ = w.cell? ⟨bk, 0, none⟩) (c1 : w'.cell? ⟨bk, 1, none⟩ = w.cell? ⟨bk, 1, none⟩) (hbt : ∃ cs, w'.heap[bk]? = some (.cells cs 40 (0, 0)) ∧ cs.size = 22)
    (hF : ∀ b, F b → b = bk ∨ ∃ B e sz v n xs, w.ownsRow B e sz v n xs ∧ v.ownBlock = some b ∧ 57 ≠ e ∧ 3 ≠ e) : Bs w' bk vi vw ls ws zss := by
  obtain ⟨cs, hcs, _⟩ := h.bt
  have hrow : ∀ {v : Value} {n : Nat} {xs : List Value}, w.ownsRow 0 57 1 v n xs → w'.ownsRow 0 57 1 v n xs := fun ho => own_up ho hk fun b hb hf => by
    rcases hF b hf with rfl | ⟨B, e, sz, v2, n2, xs2, h2, hb2, hne, _⟩
    · exact own_bk ho hcs (by decide) hb
    · exact own_ne ho h2 hne b hb hb2
  have hli : ∀ {v : Value} {zs : List Int}, OwnI w 0 v zs → OwnI w' 0 v zs := fun ho => own_up ho hk fun b hb hf => by
    rcases hF b hf with rfl | ⟨B, e, sz, v2, n2, xs2, h2, hb2, _, hne⟩
    · exact own_bk ho hcs (by decide) hb
    · exact own_ne ho h2 hne b hb hb2
  exact ⟨⟨c0.trans h.p.c0, hrow h.p.ri, fun k l zs h1 h2 => hli (h.p.li k l zs h1 h2), h.p.ap, h.p.len, h.p.sz⟩, c1.trans h.c1, hrow h.rw, fun k l zs h1 h2 => hli (h.lw k l zs h1 h2), hbt, h.ne⟩
end Go.Proofs.YtpmanmoljlhogaaGreatDoor
/- The book's lists of Ints: what stands while other kinds turn; the marked lists behind Apart's growing. (Written by mkbx.py out of BXa.tmpl.) -/
namespace Go.Proofs.YtpmanmoljlhogaaGreatDoor.BInts
open Go.RowKit Go.Maps
theorem Bp.lsf_lt {w : World} {bk : Nat} {vi : Value} {ls : List Value} {zss : List (List Int)} (h : Bp w bk vi ls zss) {b : Nat} (hb : LsF ls b) : b < w.heap.size := by
  obtain ⟨l, hl, hb⟩ := hb
  obtain ⟨k, hk, rfl⟩ := List.getElem_of_mem hl
  have hz : zss[k]? = some (zss[k]'(by rw [← h.ll]; exact hk)) := List.getElem?_eq_getElem _
  exact ((h.li k _ _ (List.getElem?_eq_getElem hk) hz).lt b hb).2
theorem Bp.keep {w w' : World} {F : Nat → Prop} {bk : Nat} {vi : Value} {ls : List Value} {zss : List (List Int)} (h : Bp w bk vi ls zss) (hk : Kept F w w') (hb : ¬ F bk) (hr : ∀ b, vi.ownBlock = some b → ¬ F b) (hl : ∀ b, LsF ls b → ¬ F b) : Bp w' bk vi ls zss :=
  ⟨(World.cell?_of_block (a := ⟨bk, 0, none⟩) (hk.block bk (World.block_lt_of_cell? w _ h.c0) hb)).trans h.c0, trow_at h.ri fun i hi => hk.block i (h.ri.lt i hi).2 (hr i hi), fun k l zs h1 h2 => trow_at (h.li k l zs h1 h2) fun i hi => hk.block i ((h.li k l zs h1 h2).lt i hi).2 (hl i ⟨l, List.mem_of_getElem? h1, hi⟩), h.ap, h.len, h.sz⟩
/-- A row of lists, each with its marks, all in blocks of F. -/
structure Mq (w : World) (v : Value) (ns : List Nat) (F : Nat → Prop) : Prop where
  ex : ∃ ao cap, v = .slice ao ns.length cap ∧ ∀ (k n : Nat), ns[k]? = some n → ∃ g l, ao = some ⟨g, 0, none⟩ ∧ w.cell? ⟨g, k, none⟩ = some l ∧ HasI w l (marks k 0 n) ∧ (n ≠ 0 → ∀ b, l.ownBlock = some b → F b)
  row : ∀ b, v.ownBlock = some b → F b
theorem Mq.mr {w : World} {v : Value} {ns : List Nat} {F : Nat → Prop} (h : Mq w v ns F) : Mr w v ns := by
  obtain ⟨ao, cap, hv, h1⟩ := h.ex
  refine ⟨ao, cap, hv, fun k n hk => ?_⟩
  obtain ⟨g, l, ha, hc, hl, _⟩ := h1 k n hk
  exact ⟨_, l, ha, by rw [addz]; exact hc, hl⟩
theorem Mq.kept {w w' : World} {v : Value} {ns : List Nat} {F G : Nat → Prop} (h : Mq w v ns F) (hk : Kept G w w') (hd : ∀ b, F b → ¬ G b) : Mq w' v ns F := by
  obtain ⟨ao, cap, hv, h1⟩ := h.ex
  refine ⟨⟨ao, cap, hv, fun k n hn => ?_⟩, h.row⟩
  obtain ⟨g, l, ha, hc, hl, hF⟩ := h1 k n hn
  refine ⟨g, l, ha, (World.cell?_of_block (a := ⟨g, k, none⟩) (hk.block g (World.block_lt_of_cell? w _ hc) (hd g (h.row g (by rw [hv, ha]; rfl))))).trans hc, hl.kept hk fun hz b hb => hd b (hF (fun e => hz (by rw [e]; rfl)) b hb), hF⟩
theorem Mq.below {w w' : World} {v : Value} {ns : List Nat} {F : Nat → Prop} (h : Mq w v ns F) (hb : Below w.heap.size w w') : Mq w' v ns F := h.kept (G := fun _ => False) (Kept.of_below hb) fun _ _ hg => hg
theorem marks_zero_add (k n m : Nat) : marks k 0 n ++ marks k n m = marks k 0 (n + m) := by have := marks_add k 0 n m; rwa [Nat.zero_add] at this
/-- Behind the growing: the grown lists and the lists have their marks. -/
theorem gr_marked {w wr : World} {bk : Nat} {vi : Value} {ls : List Value} {zss : List (List Int)} {vo : Value} {os : List Value} (h : GrI w wr bk vi ls (allM zss) (allM zss).length vo os) : Mq wr vo (zss.map fun z => z.length + 96) (fun b => LsF ls b ∨ vi.ownBlock = some b ∨ w.heap.size ≤ b) ∧ Mq wr vi (zss.map List.length) (fun b => LsF ls b ∨ vi.ownBlock = some b ∨ w.heap.size ≤ b) := by
  have hal : (allM zss).length = zss.length := by unfold allM; rw [List.length_mapIdx]
  have hlo : os.length = zss.length := by have := h.row.1; rw [Nat.mul_one, hal] at this; exact this
  have hll : ls.length = zss.length := by have := h.ri.1; rw [Nat.mul_one, hal] at this; exact this
  have hD : ∀ (k n : Nat), (zss.map List.length)[k]? = some n → ∃ l o, ls[k]? = some l ∧ os[k]? = some o ∧ HasI wr l (marks k 0 n) ∧ HasI wr o (marks k 0 (n + 96)) ∧ ∀ b, o.ownBlock = some b → LsF ls b ∨ w.heap.size ≤ b := fun k n hk => by
    rw [List.getElem?_map] at hk
    obtain ⟨zs, hz, rfl⟩ := Option.map_eq_some_iff.1 hk
    have hkl := (List.getElem?_eq_some_iff.1 hz).1
    have hl : ls[k]? = some (ls[k]'(by omega)) := List.getElem?_eq_getElem _
    have ha : (allM zss)[k]? = some (marks k 0 zs.length) := by unfold allM; rw [List.getElem?_mapIdx, hz]; rfl
    obtain ⟨d1, o, d2, d3, d4, _⟩ := h.done k _ _ (by omega) hl ha
    rw [marks_len, marks_zero_add] at d3
    refine ⟨_, o, hl, d2, d1, d3, fun b hb => ?_⟩
    rcases d4 with e | e
    · exact .inl ⟨_, List.mem_of_getElem? hl, by rw [← e]; exact hb⟩
    · exact .inr (e b hb)
  constructor
  · obtain ⟨ao, co, hv⟩ := row_shape h.row
    refine ⟨⟨ao, co, by rw [List.length_map, hv, hal], fun k n hk => ?_⟩, fun b hb => .inr (.inr (h.row.lt b hb).1)⟩
    rw [List.getElem?_map] at hk
    obtain ⟨zs, hz, rfl⟩ := Option.map_eq_some_iff.1 hk
    have hkl := (List.getElem?_eq_some_iff.1 hz).1
    obtain ⟨l, o, _, ho, _, hO, hF⟩ := hD k zs.length (by rw [List.getElem?_map, hz]; rfl)
    obtain ⟨g, c, hf, _, _⟩ := h.row.form (by omega)
    rw [hv] at hf
    injection hf with e1 e2 e3
    subst e1; subst e3
    have hr := h.row
    rw [hv] at hr
    exact ⟨_, o, rfl, by rw [hr.cellAt k (by omega), ho], hO, fun _ b hb => (hF b hb).imp_right .inr⟩
  · obtain ⟨ao, co, hv⟩ := row_shape h.ri
    refine ⟨⟨ao, co, by rw [List.length_map, hv, hal], fun k n hk => ?_⟩, fun b hb => .inr (.inl hb)⟩
    obtain ⟨l, o, hl, _, hL, _⟩ := hD k n hk
    rw [List.getElem?_map] at hk
    obtain ⟨zs, hz, rfl⟩ := Option.map_eq_some_iff.1 hk
    have hkl := (List.getElem?_eq_some_iff.1 hz).1
    obtain ⟨g, c, hf, _, _⟩ := h.ri.form (by omega)
    rw [hv] at hf
    injection hf with e1 e2 e3
    subst e1; subst e3
    have hr := h.ri
    rw [hv] at hr
    exact ⟨_, l, rfl, by rw [hr.cellAt k (by omega), hl], hL, fun _ b hb => .inl ⟨l, List.mem_of_getElem? hl, hb⟩⟩
/-- The blocks of lists of another element type, and of rows of another type, are none of these. -/
theorem Bp.far_of {w : World} {bk : Nat} {vi : Value} {ls : List Value} {zss : List (List Int)} (h : Bp w bk vi ls zss) {B : Nat} {e : TypeId} {sz : Nat} {v : Value} {n : Nat} {xs : List Value} (ho : w.ownsRow B e sz v n xs) (hne : e ≠ 3) {b : Nat} (hb : v.ownBlock = some b) : ¬ LsF ls b := fun ⟨l, hl, hlb⟩ => by
  obtain ⟨k, hk, rfl⟩ := List.getElem_of_mem hl
  have hz : zss[k]? = some (zss[k]'(by rw [← h.ll]; exact hk)) := List.getElem?_eq_getElem _
  exact own_ne ho (h.li k _ _ (List.getElem?_eq_getElem hk) hz) hne b hb hlb
theorem Bp.far_bk {w : World} {bk : Nat} {vi : Value} {ls : List Value} {zss : List (List Int)} (h : Bp w bk vi ls zss) : ¬ LsF ls bk := fun ⟨l, hl, hlb⟩ => h.ap.b l hl hlb
theorem Bp.typed {w : World} {bk : Nat} {vi : Value} {ls : List Value} {zss : List (List Int)} (h : Bp w bk vi ls zss) {b : Nat} (hb : LsF ls b) : ∃ B n xs v, w.ownsRow B 3 1 v n xs ∧ v.ownBlock = some b := by
  obtain ⟨l, hl, hlb⟩ := hb
  obtain ⟨k, hk, rfl⟩ := List.getElem_of_mem hl
  have hz : zss[k]? = some (zss[k]'(by rw [← h.ll]; exact hk)) := List.getElem?_eq_getElem _
  exact ⟨_, _, _, _, h.li k _ _ (List.getElem?_eq_getElem hk) hz, hlb⟩
end Go.Proofs.YtpmanmoljlhogaaGreatDoor.BInts
/- The book's lists of Rows: what it holds in memory, and contracts of the book's parts over them. (Written by mkby.py.) -/
namespace Go.Proofs.YtpmanmoljlhogaaGreatDoor.BRows
open Go.RowKit Go.Maps
attribute [local go_sem ↓] Go.wp_at_zero Go.wp_at_succ
abbrev El : Type := Option Addr × Nat × Nat
/-- The cells of an element, of a list. -/
def enc (z : El) : List Value := [.slice z.1 z.2.1 z.2.2]
def C (zs : List El) : List Value := zs.flatMap enc
theorem enc_len (z : El) : (enc z).length = 1 := rfl
theorem C_len (zs : List El) : (C zs).length = zs.length * 1 := by
  unfold C
  induction zs with
  | nil => rfl
  | cons z r ih => rw [List.flatMap_cons, List.length_append, ih, enc_len, List.length_cons]; omega
theorem C_app (a b : List El) : C (a ++ b) = C a ++ C b := List.flatMap_append
theorem C_one (zs : List El) : ∀ u ∈ C zs, u.oneCell' = true := fun u hu => by
  obtain ⟨z, _, hz⟩ := List.mem_flatMap.1 hu
  simp only [enc, List.mem_cons, List.not_mem_nil, or_false] at hz
  rcases hz with rfl <;> rfl
theorem C_at : ∀ (zs : List El) (k : Nat) (z : El), zs[k]? = some z → ∀ q, q < 1 → (C zs)[k * 1 + q]? = (enc z)[q]?
  | [], _, _, h, _, _ => by simp at h
  | y :: r, 0, z, h, q, hq => by
    simp at h
    subst h
    show (enc y ++ C r)[0 * 1 + q]? = _
    rw [List.getElem?_append_left (by rw [enc_len]; omega)]
    congr 1
    omega
  | y :: r, k + 1, z, h, q, hq => by
    have ih := C_at r k z (by simpa using h) q hq
    show (enc y ++ C r)[(k + 1) * 1 + q]? = _
    rw [List.getElem?_append_right (by rw [enc_len]; omega), enc_len, ← ih]
    congr 1
    omega
theorem C_set (zs : List El) {k : Nat} (hk : k < zs.length) (x : El) : C (zs.set k x) = ((C zs).set (k) (.slice x.1 x.2.1 x.2.2)) := by
  apply List.ext_getElem?
  intro j
  by_cases hj : j / 1 = k
  · obtain ⟨q, hq, rfl⟩ : ∃ q, q < 1 ∧ j = k * 1 + q := ⟨j % 1, Nat.mod_lt _ (by decide), by omega⟩
    rw [C_at (zs.set k x) k x (List.getElem?_set_self hk) q hq]
    have hl : (C zs).length = zs.length * 1 := C_len zs
    have hq' : q = 0 := by omega
    rcases hq' with rfl <;> simp [List.getElem?_set, hl, enc] <;> omega
  · have e : (C (zs.set k x))[j]? = (C zs)[j]? := by
      rcases Nat.lt_or_ge (j / 1) zs.length with h | h
      · obtain ⟨z, hz⟩ : ∃ z, zs[j / 1]? = some z := ⟨_, List.getElem?_eq_getElem h⟩
        have hz' : (zs.set k x)[j / 1]? = some z := by rw [List.getElem?_set_ne (fun e => hj e.symm)]; exact hz
        have e0 : j = j / 1 * 1 + j % 1 := by omega
        rw [e0, C_at _ _ z hz' _ (Nat.mod_lt _ (by decide)), C_at _ _ z hz _ (Nat.mod_lt _ (by decide))]
      · rw [List.getElem?_eq_none (by rw [C_len, List.length_set]; omega), List.getElem?_eq_none (by rw [C_len]; omega)]
    rw [e]
    rw [List.getElem?_set_ne (by omega)]
/-- Lists of one's own; lists that are read. -/
def Own (w : World) (B : Nat) (v : Value) (zs : List El) : Prop := w.ownsRow B 57 1 v zs.length (C zs)
def Has (w : World) (v : Value) (zs : List El) : Prop := ∃ ao cap, v = .slice ao zs.length cap ∧ ∀ (j : Nat) (u : Value), (C zs)[j]? = some u → ∃ a, ao = some a ∧ w.cell? (a.add j) = some u
theorem Has.below {w w' : World} {v : Value} {zs : List El} (h : Has w v zs) (hb : Below w.heap.size w w') : Has w' v zs := by
  obtain ⟨ao, cap, h1, h2⟩ := h
  refine ⟨ao, cap, h1, fun i p hi => ?_⟩
  obtain ⟨a, ha, c0⟩ := h2 i p hi
  exact ⟨a, ha, (hb.cell (World.block_lt_of_cell? w _ c0)).trans c0⟩
theorem C_nil {zs : List El} (h : zs ≠ []) : ∃ u, (C zs)[0]? = some u := by
  cases zs with
  | nil => exact absurd rfl h
  | cons z r =>
    have h1 := C_at (z :: r) 0 z rfl 0 (by decide)
    have h2 : (enc z)[0]? = some ((enc z)[0]'(by rw [enc_len]; decide)) := List.getElem?_eq_getElem _
    exact ⟨_, h1.trans h2⟩
theorem Has.kept {w w' : World} {F : Nat → Prop} {v : Value} {zs : List El} (h : Has w v zs) (hk : Kept F w w') (hf : zs ≠ [] → ∀ i, v.ownBlock = some i → ¬ F i) : Has w' v zs := by
  obtain ⟨ao, cap, rfl, h2⟩ := h
  refine ⟨ao, cap, rfl, fun i z hi => ?_⟩
  obtain ⟨a, rfl, c⟩ := h2 i z hi
  exact ⟨a, rfl, cell_same (hk.block _ (block_lt3 c) (hf (by rintro rfl; simp [C] at hi) a.block rfl)) c⟩
theorem far {w : World} {v : Value} {zs : List El} (h : Has w v zs) (hz : zs ≠ []) {i : Nat} (hi : v.ownBlock = some i) : i < w.heap.size := by
  obtain ⟨ao, cap, rfl, h2⟩ := h
  obtain ⟨u, hu⟩ := C_nil hz
  obtain ⟨a, rfl, c⟩ := h2 0 u hu
  have := block_lt3 c
  simp only [Value.ownBlock, Option.some.injEq] at hi
  omega
theorem Own.at {w : World} {B g cap n : Nat} {zs : List El} (h : Own w B (.slice (some ⟨g, 0, none⟩) n cap) zs) {j : Nat} {u : Value} (hj : (C zs)[j]? = some u) : w.cell? ⟨g, j, none⟩ = some u := by
  obtain ⟨ao', cap', hv⟩ := row_shape h
  injection hv with _ e _
  subst e
  have h' : w.ownsRow B 57 1 (.slice (some ⟨g, 0, none⟩) zs.length cap) zs.length (C zs) := h
  rw [h'.cellAt j (by rw [← h'.1]; exact (List.getElem?_eq_some_iff.1 hj).1), hj]
theorem Own.has {w : World} {B : Nat} {v : Value} {zs : List El} (h : Own w B v zs) : Has w v zs := by
  obtain ⟨ao, cap, hv⟩ := row_shape h
  refine ⟨ao, cap, hv, fun j u hj => ?_⟩
  have hlt := (List.getElem?_eq_some_iff.1 hj).1
  rw [C_len] at hlt
  obtain ⟨g, c, hf, _, _⟩ := World.ownsRow.form h (by omega)
  rw [hv] at hf
  injection hf with e1 e2 e3
  subst e1; subst e3
  refine ⟨_, rfl, ?_⟩
  rw [addz]
  rw [hv] at h
  exact Own.at h hj
theorem add_q (a : Addr) (m q : Nat) : (a.add m).add q = a.add (m + q) := by
  unfold Addr.add
  by_cases h1 : m = 0 <;> by_cases h2 : q = 0 <;> simp [h1, h2] <;> omega
theorem copy_of {w : World} {ao : Option Addr} {n cap : Nat} {zs : List El} (h : Has w (.slice ao n cap) zs) : (ao = none → n = 0) ∧ ∀ ad, ao = some ad → ∀ j u, (C zs)[j]? = some u → w.cell? (ad.add j) = some u := by
  obtain ⟨ao', cap', hv, h2⟩ := h
  injection hv with e1 e2 e3
  subst e1
  refine ⟨fun e => ?_, fun ad e j u hj => ?_⟩
  · rw [e2]
    by_cases hz : zs = []
    · rw [hz]; rfl
    · obtain ⟨u, hu⟩ := C_nil hz
      obtain ⟨a, ha, _⟩ := h2 0 u hu
      rw [e] at ha; cases ha
  · obtain ⟨a, ha, hc⟩ := h2 j u hj
    rw [e] at ha
    cases ha
    exact hc
theorem same_in (va vb : Value) (zs : List Int) (w : World) (hn : zs.length ≤ 1000000000000000) (hA : HasI w va zs) (hB : HasI w vb zs) : Calls Tryz.prog 24 #[va, vb] w fun e w' => e = .returned (.bool true) ∧ Below w.heap.size w w' :=
  (sameInts_b va vb zs zs w hn hn hA hB).mono fun _ _ ⟨h1, h2⟩ => ⟨by rw [h1]; simp, h2⟩
/-- An element as a value. -/
def sl (z : El) : Value := .slice z.1 z.2.1 z.2.2
/-- The mark of the list i at the place k: a list in a block of its own, from L on. -/
def Mk (w : World) (L i k : Nat) (z : El) : Prop := ∃ g, L ≤ g ∧ z = (some ⟨g, 0, none⟩, 2, 2) ∧ w.heap[g]? = some (.cells #[.int .i64 (-1 - (i : Int)), .int .i64 (k : Int)] 3 (0, 0))
def Mks (w : World) (L i f : Nat) (us : List El) : Prop := ∀ (j : Nat) (z : El), us[j]? = some z → Mk w L i (f + j) z
theorem Mk.has {w : World} {L i k : Nat} {z : El} (h : Mk w L i k z) : HasI w (sl z) [-1 - (i : Int), (k : Int)] := by
  obtain ⟨g, _, rfl, hb⟩ := h
  refine ⟨_, _, rfl, fun j u hj => ⟨_, rfl, ?_⟩⟩
  rw [addz]
  refine cell0_of hb ?_
  have e : (#[.int .i64 (-1 - (i : Int)), .int .i64 (k : Int)] : Array Value)[j]? = [.int .i64 (-1 - (i : Int)), .int .i64 (k : Int)][j]? := by simp
  rw [e]
  rcases j with _ | _ | j <;> simp at hj ⊢ <;> exact hj.symm ▸ rfl
theorem Mk.up {w w' : World} {F : Nat → Prop} {L i k : Nat} {z : El} (h : Mk w L i k z) (hk : Kept F w w') (hF : ∀ (g : Nat) (cs : Array Value), L ≤ g → w.heap[g]? = some (.cells cs 3 (0, 0)) → ¬ F g) : Mk w' L i k z := by
  obtain ⟨g, hg, hz, hb⟩ := h
  exact ⟨g, hg, hz, (hk.block g (t_lt hb) (hF g _ hg hb)).trans hb⟩
theorem Mks.up {w w' : World} {F : Nat → Prop} {L i k : Nat} {us : List El} (h : Mks w L i k us) (hk : Kept F w w') (hF : ∀ (g : Nat) (cs : Array Value), L ≤ g → w.heap[g]? = some (.cells cs 3 (0, 0)) → ¬ F g) : Mks w' L i k us := fun j z hj => (h j z hj).up hk hF
theorem Mks.below {w w' : World} {L i k : Nat} {us : List El} (h : Mks w L i k us) (hb : Below w.heap.size w w') : Mks w' L i k us := h.up (F := fun _ => False) (Kept.of_below hb) fun _ _ _ _ hf => hf
theorem Mks.base {w : World} {L L' i k : Nat} {us : List El} (h : Mks w L i k us) (hl : L' ≤ L) : Mks w L' i k us := fun j z hj => by
  obtain ⟨g, hg, hz⟩ := h j z hj
  exact ⟨g, by omega, hz⟩
theorem Mks.app {w : World} {L i f : Nat} {us vs : List El} (h : Mks w L i f us) (h2 : Mks w L i (f + us.length) vs) : Mks w L i f (us ++ vs) := fun j z hj => by
  rcases Nat.lt_or_ge j us.length with hl | hl
  · rw [List.getElem?_append_left hl] at hj; exact h j z hj
  · rw [List.getElem?_append_right hl] at hj
    have := h2 _ z hj
    rwa [show f + us.length + (j - us.length) = f + j by omega] at this
theorem Mks.nil (w : World) (L i f : Nat) : Mks w L i f [] := fun j z hj => by simp at hj
/-- Rows of other types turn: the marks stand. -/
theorem Mks.row {w w' : World} {L i k : Nat} {us : List El} (h : Mks w L i k us) {B : Nat} {e : TypeId} {sz : Nat} {v : Value} {n : Nat} {xs : List Value} (ho : w.ownsRow B e sz v n xs) (hk : Kept (fun b => v.ownBlock = some b) w w') (hne : e ≠ 3) : Mks w' L i k us := h.up hk fun _ _ _ hg hf => own_bk ho hg hne hf
theorem Tryz.infoE : (Tryz.prog.info? 57).map (fun i => (i.zero, i.size, i.bytes)) = some (some (.slice none 0 0), 1, 24) := by kernel_rfl
theorem Tryz.infoR : (Tryz.prog.info? 28).map (fun i => (i.zero, i.size, i.bytes)) = some (some (.slice none 0 0), 1, 24) := by kernel_rfl
theorem C_snoc (zs : List El) (z : El) : C (zs ++ [z]) = C zs ++ enc z := by
  rw [C_app]
  show _ ++ (enc z ++ []) = _
  rw [List.append_nil]
theorem below_row {w w2 w4 : World} {x : Obj} {v : Value} {n : Nat} {us : List Value} (h1 : w2.ownsRow w.heap.size 57 1 v n us) (hb : Below w.heap.size w w2) (hg : (w2.alloc x).grownBy w4 v.ownBlock) : Below w.heap.size w w4 :=
  (hb.alloc hb.size x).grown hg (by have := hb.size; simp; omega) (fun k hk => (h1.lt k hk).1)
theorem mks_snoc {w wr w2 : World} {i f : Nat} {v : Value} {us : List El} {x y : Obj} (hO : wr.ownsRow w.heap.size 57 1 v us.length (C us)) (hb : Below w.heap.size w wr) (hM : Mks wr w.heap.size i f us) (k : Nat) (hk : k = f + us.length) (hx : x = .cells #[.int .i64 (-1 - (i : Int)), .int .i64 (k : Int)] 3) (hg : ((wr.alloc x).alloc y).grownBy w2 v.ownBlock) :
    Mks w2 w.heap.size i f (us ++ [(some ⟨wr.heap.size, 0, none⟩, 2, 2)]) := by
  subst hk
  have hb2 : Below wr.heap.size wr ((wr.alloc x).alloc y) := ((Below.refl _ _).alloc (Nat.le_refl _) _).alloc (by simp) _
  have hO2 := trow_at (w' := (wr.alloc x).alloc y) hO fun i hi => hb2.block i (hO.lt i hi).2
  have hKg : Kept (fun b => v.ownBlock = some b) ((wr.alloc x).alloc y) w2 := Kept.of_grown hg
  refine Mks.app ((hM.below hb2).row hO2 hKg (by decide)) fun j z hj => ?_
  cases j with
  | succ j => simp at hj
  | zero =>
    simp at hj
    subst hj
    refine ⟨wr.heap.size, hb.size, rfl, ?_⟩
    have h1 : ((wr.alloc x).alloc y).heap[wr.heap.size]? = some x := by
      rw [Below.heap_alloc (wr.alloc x) y wr.heap.size (by simp)]
      exact heap_alloc_new wr x
    rw [hKg.block wr.heap.size (by simp; omega) (fun e => by have := (hO.lt _ e).2; omega), h1, hx]
    rfl
set_option maxRecDepth 100000 in
set_option maxHeartbeats 4000000 in
theorem mark_any (i f n : Nat) (w : World) (hi : i ≤ 1000) (hf : f + n ≤ 1000000000) :
    Calls Tryz.prog 116 #[.int .i64 i, .int .i64 f, .int .i64 n] w fun r w' => ∃ v us, r = .returned v ∧ us.length = n ∧ Own w' w.heap.size v us ∧ Mks w' w.heap.size i f us ∧ Below w.heap.size w w' := by
  obtain ⟨i0, hi0, hz0, hz1, hz2⟩ := info_parts Tryz.infoE
  have e1 : IntKind.i64.wrap ((f : Int) + (n : Int)) = (f : Int) + (n : Int) := by rw [IntKind.wrap_i64]; omega
  have w1 : IntKind.i64.wrap (-1 - (i : Int)) = -1 - (i : Int) := by rw [IntKind.wrap_i64]; omega
  go_enter Tryz.func116, Tryz.ntmps116
  go_wp2_with fail
  go_loopg [7, 8] n (fun q lv kv wr => ∃ (k : Nat) (us : List El), q = n - k ∧ k ≤ n ∧ kv = .int .i64 ((f : Int) + (k : Int)) ∧ us.length = k ∧ Own wr w.heap.size lv us ∧ Mks wr w.heap.size i f us ∧ Below w.heap.size w wr)
  case atStart => exact ⟨0, [], rfl, Nat.zero_le _, by simp, rfl, World.ownsRow_nil _ _ _ _, Mks.nil _ _ _ _, Below.refl _ _⟩
  case round =>
    obtain ⟨k, us, rfl, hk, rfl, hul, hO, hM, hb⟩ := hrel
    by_cases hlt : k < n
    · have q1 : (f : Int) + (k : Int) < (f : Int) + (n : Int) := by omega
      obtain ⟨al, cl, rfl⟩ := row_shape hO
      have hO' : wr.ownsRow w.heap.size 57 1 (.slice al k cl) k (C us) := by have h1 := hO; unfold Own at h1; rw [hul] at h1; exact h1
      rw [hul]
      have hml : k + 1 ≤ maxLen := by unfold maxLen; omega
      have hby : (k + 1) * 24 ≤ 140737488355328 := by omega
      have hle : w.heap.size ≤ ((wr.alloc (.cells #[.int .i64 (-1 - (i : Int)), .int .i64 ((f : Int) + (k : Int))] 3)).alloc (.cells #[.slice (some ⟨wr.heap.size, 0, none⟩) 2 2] 57)).heap.size := by have := hb.size; simp; omega
      have HO : Hid _ := And.intro hO' (And.intro hb (And.intro hM hul))
      clear hO hO' hul hb hM
      go_wp2_with (at_builtin; refine wpList_append_own_at _ rfl _ _ 28 rfl w.heap.size 57 i0 (.slice none 0 0) 1 24 Tryz.underlying28 hi0 hz0 hz1 hz2 rfl (by decide) (.slice al k cl) k (C us) rfl ((HO.out.1.alloc _).alloc _) ⟨wr.heap.size + 1, 0, none⟩ 1 1 [.slice (some ⟨wr.heap.size, 0, none⟩) 2 2] rfl rfl (World.news_of_block (cs := #[.slice (some ⟨wr.heap.size, 0, none⟩) 2 2]) (t := 57) (fr := (0, 0)) (two_alloc wr _ _)) (one_list _ ⟨_, _, _, rfl⟩) hml hby hle ?_; intro v2 w2 hown2 hgrow2 hnil2 hat2; have H2 : Hid _ := And.intro hown2 hgrow2; clear hown2 hgrow2 hnil2 hat2)
      go_roundg (n - (k + 1))
      case measure => omega
      case rel => exact ⟨k + 1, us ++ [(some ⟨wr.heap.size, 0, none⟩, 2, 2)], rfl, by omega, by first | go_num | (congr 1; omega), by rw [List.length_append, HO.out.2.2.2]; rfl, by unfold Own; rw [C_snoc, List.length_append, HO.out.2.2.2]; exact H2.out.1, mks_snoc (by rw [HO.out.2.2.2]; exact HO.out.1) HO.out.2.1 HO.out.2.2.1 (f + k) (by rw [HO.out.2.2.2]) (by simp) H2.out.2, below_row (HO.out.1.alloc _) (HO.out.2.1.alloc HO.out.2.1.size _) H2.out.2⟩
    · obtain rfl : k = n := by omega
      have q1 : ¬ (f : Int) + (k : Int) < (f : Int) + (k : Int) := by omega
      have HO : Hid _ := And.intro hO (And.intro hM (And.intro hb hul))
      clear hO hb hM hul
      go_wp2_with fail
      go_ret
      exact ⟨_, rfl, us, HO.out.2.2.2, HO.out.1, HO.out.2.1, HO.out.2.2.1⟩
set_option maxRecDepth 100000 in
set_option maxHeartbeats 4000000 in
theorem same_b (va vb : Value) (us vs : List El) (w : World) (hn : us.length ≤ 1000000000000000) (he : us.length = vs.length) (hA : Has w va us) (hB : Has w vb vs) (hR : ∀ (j : Nat) (x y : El), us[j]? = some x → vs[j]? = some y → ∃ zs, zs.length ≤ 1000000 ∧ HasI w (sl x) zs ∧ HasI w (sl y) zs) :
    Calls Tryz.prog 14 #[va, vb] w fun e w' => e = .returned (.bool true) ∧ Below w.heap.size w w' := by
  obtain ⟨ao, cap, rfl, hcA⟩ := hA
  obtain ⟨ao', cap', rfl, hcB⟩ := hB
  obtain ⟨n, hN⟩ : ∃ n, n = us.length := ⟨_, rfl⟩
  have HH : Hid _ := And.intro hcA (And.intro hcB (And.intro hN (And.intro he hR)))
  rw [← he, ← hN]
  rw [← hN] at hn
  clear hcA hcB hN he hR
  have q : ((n : Int) != (n : Int)) = false := by simp
  go_enter Tryz.func14, Tryz.ntmps14
  go_wp2
  go_loopg [5] n (fun g i wr => ∃ j : Nat, g = n - j ∧ j ≤ n ∧ i = .int .i64 j ∧ Below w.heap.size w wr)
  case atStart => exact ⟨0, rfl, Nat.zero_le _, rfl, Below.refl _ _⟩
  case round =>
    obtain ⟨j, rfl, hj, rfl, hb⟩ := hrel
    by_cases hlt : j < n
    · obtain ⟨x, hx⟩ : ∃ x, us[j]? = some x := ⟨us[j]'(by have := HH.out.2.2.1; omega), List.getElem?_eq_getElem _⟩
      obtain ⟨y, hy⟩ : ∃ y, vs[j]? = some y := ⟨vs[j]'(by have := HH.out.2.2.1; have := HH.out.2.2.2.1; omega), List.getElem?_eq_getElem _⟩
      obtain ⟨a, rfl, c0'⟩ := HH.out.1 (j * 1 + 0) _ ((C_at us j x hx 0 (by decide)).trans rfl)
      obtain ⟨b, rfl, d0'⟩ := HH.out.2.1 (j * 1 + 0) _ ((C_at vs j y hy 0 (by decide)).trans rfl)
      obtain ⟨zs, hzl, hzA, hzB⟩ := HH.out.2.2.2.2 j x y hx hy
      have c0 : wr.cell? (a.add j) = some (.slice x.1 x.2.1 x.2.2) := by
        have h1 : w.cell? (a.add j) = some (.slice x.1 x.2.1 x.2.2) := by simpa using c0'
        exact (hb.cell (World.block_lt_of_cell? w _ h1)).trans h1
      have d0 : wr.cell? (b.add j) = some (.slice y.1 y.2.1 y.2.2) := by
        have h1 : w.cell? (b.add j) = some (.slice y.1 y.2.1 y.2.2) := by simpa using d0'
        exact (hb.cell (World.block_lt_of_cell? w _ h1)).trans h1
      have hSm := fun W (hw : Below wr.heap.size wr W) => same_in (sl x) (sl y) zs W (by omega) ((hzA.below hb).below hw) ((hzB.below hb).below hw)
      unfold sl at hSm
      have HS : Hid _ := hSm
      have HBl : Hid _ := hb
      clear c0' d0' hx hy hzA hzB hSm hb
      have q0 : (0 : Int) ≤ (j : Int) := by omega
      have q1 : (j : Int) < (n : Int) := by omega
      go_upto_region 6 with fail
      go_cut [26] (fun s26 wx => s26 = .bool false ∧ Below w.heap.size w wx)
      case first =>
        go_region_held3 (fun w' => w'.cell? (a.add j) = some (.slice x.1 x.2.1 x.2.2) ∧ w'.cell? (b.add j) = some (.slice y.1 y.2.1 y.2.2)) (go_keep)
          ((first
            | (go_at_call 24; refine (HS.out _ (by repeat (first | exact Below.refl _ _ | assumption | refine Below.drew ?_ | refine Below.setCell ?_ (by simp) _ | refine Below.alloc ?_ (by simp) _))).mono ?_; rintro r8 w8 ⟨rfl, hb8'⟩; have hb8 := below_of_drew3 hb8'; have c0 := (hb8.cell (World.block_lt_of_cell? _ _ c0)).trans c0; have d0 := (hb8.cell (World.block_lt_of_cell? _ _ d0)).trans d0; have H8 : Hid _ := HBl.out.trans (hb8.mono HBl.out.size); clear hb8 hb8' HS)
            | fail))
        all_goals (refine Met.intro ?_; apply_assumption; refine Met.intro ?_; apply_assumption; (repeat apply Exists.intro); refine ⟨?rel, rfl⟩; case rel => exact ⟨rfl, by first | exact H8.out | exact below_drewN H8.out _⟩)
      case rest =>
        obtain ⟨rfl, hb9⟩ := hcut
        have H9 : Hid _ := hb9
        clear hb9 HS c0 d0
        go_wp2_with fail
        go_roundg (n - (j + 1))
        case measure => omega
        case rel => exact ⟨j + 1, rfl, by omega, by go_num, H9.out⟩
    · obtain rfl : j = n := by omega
      have q1 : ¬ (j : Int) < (j : Int) := by omega
      have HBl : Hid _ := hb
      clear hb
      go_wp2
      go_ret
      exact ⟨rfl, HBl.out⟩
end Go.Proofs.YtpmanmoljlhogaaGreatDoor.BRows
