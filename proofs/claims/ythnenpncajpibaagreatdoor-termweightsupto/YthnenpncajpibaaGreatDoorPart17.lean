/- Texts of this claim, joined: BookI6, BookI7, LawWeights0. -/
import Derived.Test.YthnenpncajpibaaGreatDoorPart16
import Derived.Deep.AppendLies
import Derived.Deep.RegionLaw
import Derived.Test.YthnenpncajpibaaGreatDoorPart12
import Derived.Test.YthnenpncajpibaaGreatDoorPart13
import Derived.Test.YthnenpncajpibaaGreatDoorPart14
/- Contract of the book's Ints: one more list. -/
namespace Go.Proofs.YthnenpncajpibaaGreatDoor
open Go.RowKit Go.Maps
attribute [local go_sem ↓] Go.wp_at_zero Go.wp_at_succ
/-- 'append(nil, x...)' as one step of a region that draws. -/
theorem step_copy_at {P : Program} {ops : Array Oper} {o : Oper} {a : Act} (w : World) {K : Act → World → Prop} {Q : Exit → Act → World → Prop} {E : Prop}
    (hg : o.guard = none) (s x : Operand) (t : TypeId) (ho : o.op = Op.call { callee := Callee.builtin Builtin.append, args := #[s, x], argTypes := #[t, t] })
    (base : Nat) (e : TypeId) (i : TypeInfo) (z : Value) (size bytes : Nat) (ht : P.underlying t = some (.slice e)) (hi : P.info? e = some i) (hz : i.zero = some z)
    (hsize : i.size = size) (hby : i.bytes = bytes) (hzs : z.cells.size = size) (hsz : 0 < size) (hs : a.eval s = .slice none 0 0)
    (ao : Option Addr) (m c : Nat) (news : List Value) (hx : a.eval x = .slice ao m c) (hao : ao = none → m = 0) (hl : news.length = m * size) (hnews : ∀ ad, ao = some ad → ∀ j u, news[j]? = some u → w.cell? (ad.add j) = some u) (h1 : ∀ u ∈ news, u.oneCell' = true)
    (h63 : m ≤ maxLen) (hbytes : m * bytes ≤ 140737488355328) (hbase : base ≤ w.heap.size)
    (h : ∀ v' w', w'.ownsRow base e size v' m news → w.grownBy w' (Value.slice none 0 0).ownBlock → K (a.put o.dst v') w') :
    if Region.wanted o (yielded ops a.tmps) = true then Oper.wp P o a w K Q else E := by
  have hw : Region.wanted o (yielded ops a.tmps) = true := by simp [Region.wanted, hg]
  rw [if_pos hw]
  obtain ⟨v', w', hr, h2, h3, _⟩ := run_copy_at (P := P) w base t o.type e i z size bytes ht hi hz hsize hby hzs hsz ao m c news hao hl hnews h1 h63 hbytes hbase
  unfold Oper.wp
  simp [execOp, ho, resolve, invoke, builtin, hs, hx, hr, Result.andThen]
  exact h _ _ h2 h3
theorem own_ne {w : World} {B1 B2 : Nat} {e1 e2 : TypeId} {s1 s2 : Nat} {v1 v2 : Value} {n1 n2 : Nat} {x1 x2 : List Value} (h1 : w.ownsRow B1 e1 s1 v1 n1 x1) (h2 : w.ownsRow B2 e2 s2 v2 n2 x2) (hne : e1 ≠ e2) (k : Nat) (hk : v1.ownBlock = some k) : v2.ownBlock ≠ some k := fun h => by
  obtain ⟨c1, hc1⟩ := row_cells h1 hk
  obtain ⟨c2, hc2⟩ := row_cells h2 h
  rw [hc1] at hc2
  injection hc2 with e
  injection e with _ e
  exact hne e
theorem own_bk {w : World} {B : Nat} {e t : TypeId} {s : Nat} {v : Value} {n : Nat} {xs : List Value} {bk : Nat} {cs : Array Value} (h : w.ownsRow B e s v n xs) (hb : w.heap[bk]? = some (.cells cs t (0, 0))) (hne : e ≠ t) : v.ownBlock ≠ some bk := fun hk => by
  obtain ⟨c1, hc1⟩ := row_cells h hk
  rw [hc1] at hb
  injection hb with e
  injection e with _ e
  exact hne e
theorem grown_alloc {w w2 : World} {x : Obj} {r : Option Nat} (hg : (w.alloc x).grownBy w2 r) : Kept (fun b => r = some b) w w2 := (Kept.of_below ((Below.refl _ _).alloc (Nat.le_refl _) _)).trans (Kept.of_grown hg)
/-- The book with one list more; what has turned. -/
structure Bsn (w w' : World) (bk : Nat) (vi vw : Value) (v : Value) (ls ws : List Value) (zss : List (List Int)) (zs : List Int) (vi' vw' v1 : Value) : Prop where
  b : Bs w' bk vi' vw' (ls ++ [v]) (ws ++ [v1]) (zss ++ [zs])
  k : Kept (fun b => b = bk ∨ vi.ownBlock = some b ∨ vw.ownBlock = some b) w w'
  o : ∀ o, 2 ≤ o → w'.cell? ⟨bk, o, none⟩ = w.cell? ⟨bk, o, none⟩
  f : ∀ b, (vi'.ownBlock = some b ∨ vw'.ownBlock = some b) → (vi.ownBlock = some b ∨ vw.ownBlock = some b) ∨ w.heap.size ≤ b
theorem own_up {w w' : World} {base : Nat} {e : TypeId} {size : Nat} {v : Value} {n : Nat} {xs : List Value} {F : Nat → Prop} (h : w.ownsRow base e size v n xs) (hk : Kept F w w') (hF : ∀ b, v.ownBlock = some b → ¬ F b) : w'.ownsRow base e size v n xs := trow_at h fun b hb => hk.block b (h.lt b hb).2 (hF b hb)
theorem Bs.snoc {w w1 w2 w3 : World} {bk : Nat} {vi vw : Value} {ls ws : List Value} {zss : List (List Int)} (h : Bs w bk vi vw ls ws zss) {v : Value} {zs : List Int} (hO : OwnI w 0 v zs) (hap : ∀ l ∈ ls, ∀ k, l.ownBlock = some k → v.ownBlock ≠ some k) (hlen : zss.length < 400) (hsz : zs.length ≤ 1000000) {vi' vw' v1 : Value}
    (r1 : w1.ownsRow 0 29 1 vi' (zss.length + 1) (ls ++ [v])) (g1 : (w.alloc (.cells #[v] 29)).grownBy w1 vi.ownBlock) (a1 : vi'.ownBlock = vi.ownBlock ∨ vi'.ownBlock = some (w.heap.size + 1))
    (r2 : w2.ownsRow ((w1.setCell ⟨bk, 0, none⟩ vi').drew.heap.size) 3 1 v1 zs.length (iC zs)) (g2 : Below (w1.setCell ⟨bk, 0, none⟩ vi').drew.heap.size (w1.setCell ⟨bk, 0, none⟩ vi').drew w2)
    (r3 : w3.ownsRow 0 29 1 vw' (zss.length + 1) (ws ++ [v1])) (g3 : (w2.alloc (.cells #[v1] 29)).grownBy w3 vw.ownBlock) (a3 : vw'.ownBlock = vw.ownBlock ∨ vw'.ownBlock = some (w2.heap.size + 1)) :
    Bsn w (w3.setCell ⟨bk, 1, none⟩ vw') bk vi vw v ls ws zss zs vi' vw' v1 := by
  obtain ⟨cs, hcs, hcz⟩ := h.bt
  have hbk : bk < w.heap.size := t_lt hcs
  have nbi : vi.ownBlock ≠ some bk := own_bk h.p.ri hcs (by decide)
  have nbw : vw.ownBlock ≠ some bk := own_bk h.rw hcs (by decide)
  have kA : Kept (fun b => vi.ownBlock = some b) w w1 := (Kept.of_below ((Below.refl _ _).alloc (Nat.le_refl _) _)).trans (Kept.of_grown g1)
  have s1 : w.heap.size + 1 ≤ w1.heap.size := by have := g1.size; simp at this; omega
  have kB : Kept (fun b => b = bk) w1 (w1.setCell ⟨bk, 0, none⟩ vi').drew := (Kept.setCell w1 bk 0 vi').trans (Kept.of_below ((Below.refl _ _).drew))
  have sB : (w1.setCell ⟨bk, 0, none⟩ vi').drew.heap.size = w1.heap.size := by simp
  have kC : Kept (fun b => b = bk) w1 w2 := kB.trans (Kept.of_below g2)
  have s2 : w1.heap.size ≤ w2.heap.size := by have := g2.size; omega
  have kD : Kept (fun b => vw.ownBlock = some b) w2 w3 := (Kept.of_below ((Below.refl _ _).alloc (Nat.le_refl _) _)).trans (Kept.of_grown g3)
  have s3 : w2.heap.size + 1 ≤ w3.heap.size := by have := g3.size; simp at this; omega
  have kE : Kept (fun b => b = bk) w3 (w3.setCell ⟨bk, 1, none⟩ vw') := Kept.setCell w3 bk 1 vw'
  have kW : Kept (fun b => b = bk ∨ vi.ownBlock = some b ∨ vw.ownBlock = some b) w (w3.setCell ⟨bk, 1, none⟩ vw') :=
    (((kA.mono fun b _ hb => .inr (.inl hb)).trans (kC.mono fun b _ hb => .inl hb)).trans (kD.mono fun b _ hb => .inr (.inr hb))).trans (kE.mono fun b _ hb => .inl hb)
  -- the book's own block
  have b1 : w1.heap[bk]? = some (.cells cs 49 (0, 0)) := (kA.block bk hbk nbi).trans hcs
  have b2 : (w1.setCell ⟨bk, 0, none⟩ vi').drew.heap[bk]? = some (.cells (cs.setIfInBounds 0 vi') 49 (0, 0)) := heap_setCell_same w1 bk 0 cs _ _ b1
  have b3 : w2.heap[bk]? = some (.cells (cs.setIfInBounds 0 vi') 49 (0, 0)) := (g2.block bk (by omega)).trans b2
  have b4 : w3.heap[bk]? = some (.cells (cs.setIfInBounds 0 vi') 49 (0, 0)) := (kD.block bk (by omega) nbw).trans b3
  have b5 : (w3.setCell ⟨bk, 1, none⟩ vw').heap[bk]? = some (.cells ((cs.setIfInBounds 0 vi').setIfInBounds 1 vw') 49 (0, 0)) := heap_setCell_same w3 bk 1 _ _ _ b4
  have hcell : ∀ o, (w3.setCell ⟨bk, 1, none⟩ vw').cell? ⟨bk, o, none⟩ = ((cs.setIfInBounds 0 vi').setIfInBounds 1 vw')[o]? := fun o => by simp [World.cell?, b5]
  have hcell0 : ∀ o, w.cell? ⟨bk, o, none⟩ = cs[o]? := fun o => by simp [World.cell?, hcs]
  -- what else stands
  have hint : ∀ (x : Value) (ys : List Int), OwnI w 0 x ys → OwnI (w3.setCell ⟨bk, 1, none⟩ vw') 0 x ys := fun x ys hx => own_up hx kW fun b hb hf => by
    rcases hf with rfl | hf | hf
    · exact own_bk hx hcs (by decide) hb
    · exact own_ne hx h.p.ri (by decide) b hb hf
    · exact own_ne hx h.rw (by decide) b hb hf
  have nvi' : vi'.ownBlock ≠ some bk := fun e => by
    rcases a1 with a | a
    · rw [a] at e; exact nbi e
    · rw [a] at e; have := Option.some.inj e; omega
  have nvw' : vw'.ownBlock ≠ some bk := fun e => by
    rcases a3 with a | a
    · rw [a] at e; exact nbw e
    · rw [a] at e; have := Option.some.inj e; omega
  have nvv : ∀ k, vi'.ownBlock = some k → vw.ownBlock ≠ some k := fun k hk e => by
    rcases a1 with a | a
    · rw [a] at hk; exact h.ne k hk e
    · rw [a] at hk; have := Option.some.inj hk; have := (h.rw.lt k e).2; omega
  have hvi3 : w3.ownsRow 0 29 1 vi' (zss.length + 1) (ls ++ [v]) := own_up (own_up r1 kC fun b hb e => nvi' (by rw [hb, e])) kD nvv
  have hvif := own_up hvi3 kE fun b hb e => nvi' (by rw [hb, e])
  have hvwf := own_up r3 kE fun b hb e => nvw' (by rw [hb, e])
  have hv1 : OwnI (w3.setCell ⟨bk, 1, none⟩ vw') 0 v1 zs := by
    have x2 : w2.ownsRow 0 3 1 v1 zs.length (iC zs) := row_base r2 (Nat.zero_le _)
    have hlow : ∀ b, v1.ownBlock = some b → w1.heap.size ≤ b := fun b hb => by have := (r2.lt b hb).1; omega
    exact own_up (own_up x2 kD fun b hb e => by have := hlow b hb; have := (h.rw.lt b e).2; omega) kE fun b hb e => by have := hlow b hb; omega
  have hlls : ls.length = zss.length := h.p.ll
  have hlws : ws.length = zss.length := by have := h.rw.1; rw [Nat.mul_one] at this; exact this
  refine ⟨⟨⟨?_, ?_, fun k l ys h1 h2 => ?_, ⟨fun l hl => ?_, fun l hl k hk => ?_, nvi', fun i j l m hl hm hij k hk => ?_⟩, by rw [List.length_append]; simp; omega, fun ys hy => ?_⟩, ?_, ?_, fun k l ys h1 h2 => ?_, ⟨_, b5, by simpa using hcz⟩, fun k hk e => ?_⟩, kW, fun o ho => ?_, fun b hb => ?_⟩
  · rw [hcell, Array.getElem?_setIfInBounds_ne (by decide)]; simp [show 0 < cs.size from by omega]
  · rw [List.length_append]; exact hvif
  · rcases Nat.lt_or_ge k zss.length with hk | hk
    · rw [List.getElem?_append_left (by omega)] at h1
      rw [List.getElem?_append_left hk] at h2
      exact hint l ys (h.p.li k l ys h1 h2)
    · have hk' := (List.getElem?_eq_some_iff.1 h2).1
      simp at hk'
      obtain rfl : k = zss.length := by omega
      rw [List.getElem?_append_right (by omega), hlls] at h1
      rw [List.getElem?_append_right (by omega)] at h2
      simp at h1 h2
      subst h1; subst h2
      exact hint v zs hO
  · rcases List.mem_append.1 hl with hl | hl
    · exact h.p.ap.b l hl
    · rw [List.mem_singleton.1 hl]; exact own_bk hO hcs (by decide)
  · have hlI : ∃ ys, OwnI w 0 l ys := by
      rcases List.mem_append.1 hl with hl | hl
      · obtain ⟨q, hq, rfl⟩ := List.getElem_of_mem hl
        exact ⟨_, h.p.li q _ _ (List.getElem?_eq_getElem hq) (List.getElem?_eq_getElem (by omega))⟩
      · rw [List.mem_singleton.1 hl]; exact ⟨_, hO⟩
    obtain ⟨ys, hl'⟩ := hlI
    exact own_ne (hint l ys hl') hvif (by decide) k hk
  · rcases Nat.lt_or_ge i zss.length with hi | hi
    · rw [List.getElem?_append_left (by omega)] at hl
      rcases Nat.lt_or_ge j zss.length with hj | hj
      · rw [List.getElem?_append_left (by omega)] at hm
        exact h.p.ap.p i j l m hl hm hij k hk
      · have hj' := (List.getElem?_eq_some_iff.1 hm).1
        simp at hj'
        obtain rfl : j = ls.length := by omega
        rw [List.getElem?_append_right (Nat.le_refl _), Nat.sub_self] at hm
        have e : v = m := by simpa using hm
        subst e
        exact hap l (List.mem_of_getElem? hl) k hk
    · have hi' := (List.getElem?_eq_some_iff.1 hl).1
      simp at hi'
      obtain rfl : i = ls.length := by omega
      rw [List.getElem?_append_right (Nat.le_refl _), Nat.sub_self] at hl
      have e : v = l := by simpa using hl
      subst e
      have hj' := (List.getElem?_eq_some_iff.1 hm).1
      simp at hj'
      rw [List.getElem?_append_left (by omega)] at hm
      exact fun e => hap m (List.mem_of_getElem? hm) k e hk
  · rcases List.mem_append.1 hy with hy | hy
    · exact h.p.sz ys hy
    · rw [List.mem_singleton.1 hy]; exact hsz
  · rw [hcell]; simp [hcz]
  · rw [List.length_append]; exact hvwf
  · rcases Nat.lt_or_ge k zss.length with hk | hk
    · rw [List.getElem?_append_left (by omega)] at h1
      rw [List.getElem?_append_left hk] at h2
      exact hint l ys (h.lw k l ys h1 h2)
    · have hk' := (List.getElem?_eq_some_iff.1 h2).1
      simp at hk'
      obtain rfl : k = zss.length := by omega
      rw [List.getElem?_append_right (by omega), hlws] at h1
      rw [List.getElem?_append_right (by omega)] at h2
      simp at h1 h2
      subst h1; subst h2
      exact hv1
  · rcases a3 with a | a
    · rw [a] at e; exact nvv k hk e
    · rw [a] at e
      have h9 := Option.some.inj e
      have := (r1.lt k hk).2
      omega
  · rw [hcell, hcell0]
    rw [Array.getElem?_setIfInBounds_ne (by omega), Array.getElem?_setIfInBounds_ne (by omega)]
  · rcases hb with hb | hb
    · rcases a1 with a | a
      · rw [a] at hb; exact .inl (.inl hb)
      · rw [a] at hb; have := Option.some.inj hb; exact .inr (by omega)
    · rcases a3 with a | a
      · rw [a] at hb; exact .inl (.inr hb)
      · rw [a] at hb; have := Option.some.inj hb; exact .inr (by omega)
set_option maxRecDepth 100000 in
set_option maxHeartbeats 4000000 in
theorem ints_any (bk : Nat) (vi vw v : Value) (ls ws : List Value) (zss : List (List Int)) (zs : List Int) (w : World) (h : Bs w bk vi vw ls ws zss) (hO : OwnI w 0 v zs) (hap : ∀ l ∈ ls, ∀ k, l.ownBlock = some k → v.ownBlock ≠ some k) (hlen : zss.length < 400) (hsz : zs.length ≤ 1000000) :
    Calls Tryz.prog 11 #[.pointer (some ⟨bk, 0, none⟩), v] w fun r w' => r = .returned (.tuple #[]) ∧ ∃ vi' vw' v1, Bsn w w' bk vi vw v ls ws zss zs vi' vw' v1 := by
  obtain ⟨i0, hi0, hz0, hz1, hz2⟩ := info_parts Tryz.infoI3
  obtain ⟨j0, hj0, hy0, hy1, hy2⟩ := info_parts Tryz.infoRowI
  obtain ⟨ai, ci, rfl⟩ := row_shape h.p.ri
  obtain ⟨aw, cw, rfl⟩ := row_shape h.rw
  obtain ⟨al, cl, rfl⟩ := row_shape hO
  obtain ⟨n, hn⟩ : ∃ n, n = zss.length := ⟨_, rfl⟩
  obtain ⟨cs, hcs, hcz⟩ := h.bt
  have hbk : bk < w.heap.size := t_lt hcs
  have c0 := h.p.c0
  have q1 : (n : Int) < 400 := by omega
  have hR1 : n + 1 ≤ maxLen := by unfold maxLen; omega
  have hR8 : (n + 1) * 24 ≤ 140737488355328 := by omega
  have hL1 : zs.length ≤ maxLen := by unfold maxLen; omega
  have hL8 : zs.length * 8 ≤ 140737488355328 := by omega
  have hr := h.p.ri
  have hrw := h.rw
  rw [← hn] at c0 hr hrw ⊢
  have nbi := own_bk hr hcs (by decide)
  have nbw := own_bk hrw hcs (by decide)
  have HB : Hid _ := And.intro h (And.intro hO (And.intro hap (And.intro hr (And.intro hrw (And.intro hcs (And.intro hn (And.intro hsz (And.intro nbi nbw))))))))
  clear h hO hap hr hrw hcs hn nbi nbw
  go_enter Tryz.func11, Tryz.ntmps11
  go_wp2_with (at_builtin; (refine wpList_append_own_at _ rfl _ _ 37 rfl 0 29 j0 (.slice none 0 0) 1 24 Tryz.underlying37 hj0 hy0 hy1 hy2 rfl (by decide) (.slice ai n ci) n ls rfl (HB.out.2.2.2.1.alloc _) ⟨w.heap.size, 0, none⟩ 1 1 [.slice al zs.length cl] rfl rfl (World.news_of_block (cs := #[.slice al zs.length cl]) (t := 29) (fr := (0, 0)) (heap_alloc_new w _)) (one_list _ ⟨_, _, _, rfl⟩) hR1 hR8 (Nat.zero_le _) ?_; intro v2 w2 hown2 hgrow2 hnil2 hat2; obtain ⟨a2, k2, rfl⟩ := row_shape hown2; have hB2 : w2.heap[bk]? = some (.cells cs 49 (0, 0)) := ((grown_alloc hgrow2).block bk hbk HB.out.2.2.2.2.2.2.2.2.1).trans HB.out.2.2.2.2.2.1; have f2 := blk_free hB2 0; have g2 : w2.cell? ⟨bk, 0, none⟩ = some (.slice ai n ci) := (by rw [← c0]; simp [World.cell?, hB2, HB.out.2.2.2.2.2.1]); have H2 : Hid _ := And.intro hown2 (And.intro hgrow2 (And.intro hat2 hB2)); clear hown2 hgrow2 hnil2 hat2 hB2))
  have S1 : (w2.setCell ⟨bk, 0, none⟩ (.slice a2 (n + 1) k2)).heap[bk]? = some (.cells (cs.setIfInBounds 0 (.slice a2 (n + 1) k2)) 49 (0, 0)) := heap_setCell_same w2 bk 0 cs _ _ H2.out.2.2.2
  have kS : Kept (fun b => b = bk ∨ (Value.slice ai n ci).ownBlock = some b) w (w2.setCell ⟨bk, 0, none⟩ (.slice a2 (n + 1) k2)) := ((grown_alloc H2.out.2.1).mono fun b _ hb => .inr hb).trans ((Kept.setCell w2 bk 0 _).mono fun b _ hb => .inl hb)
  obtain ⟨wS, hwS⟩ : ∃ W, W = w2.setCell ⟨bk, 0, none⟩ (.slice a2 (n + 1) k2) := ⟨_, rfl⟩
  rw [← hwS] at S1 kS ⊢
  have e1 : wS.cell? ⟨bk, 1, none⟩ = some (.slice aw n cw) := by
    have h1 := HB.out.1.c1
    rw [← HB.out.2.2.2.2.2.2.1] at h1
    rw [← h1]
    simp [World.cell?, S1, HB.out.2.2.2.2.2.1]
  have hOS : OwnI wS 0 (.slice al zs.length cl) zs := own_up HB.out.2.1 kS fun b hb hf => by
    rcases hf with rfl | hf
    · exact own_bk HB.out.2.1 HB.out.2.2.2.2.2.1 (by decide) hb
    · exact own_ne HB.out.2.1 HB.out.2.2.2.1 (by decide) b hb hf
  have hC := hasI_copy (hOS.has.below ((Below.refl _ wS).drew))
  have hRS : wS.ownsRow 0 29 1 (.slice aw n cw) n ws := own_up HB.out.2.2.2.2.1 kS fun b hb hf => by
    rcases hf with rfl | hf
    · exact HB.out.2.2.2.2.2.2.2.2.2 hb
    · have h1 := HB.out.1.ne b
      rw [← HB.out.2.2.2.2.2.2.1] at h1
      exact h1 hf hb
  have HS : Hid _ := And.intro hC (And.intro hRS (And.intro S1 hwS))
  clear hC hRS S1 hwS hOS kS g2 f2 c0
  go_region_law
    ((first
      | (refine step_copy_at _ (by rfl) _ _ _ (by rfl) wS.drew.heap.size 3 i0 (.int .i64 0) 1 8 Tryz.underlying29 hi0 hz0 hz1 hz2 rfl (by decide) (by rfl) al zs.length cl (iC zs) (by rfl) HS.out.1.1 (iC_length _) HS.out.1.2 (iC_one _) hL1 hL8 (Nat.le_refl _) ?_; intro v3 w3 hown3 hgrow3; obtain ⟨a3, k3, rfl⟩ := row_shape hown3; have hb3 : Below wS.drew.heap.size wS.drew w3 := tgrown0 hgrow3; have hb4 : Below wS.heap.size wS w3 := (Below.refl _ wS).drew.trans hb3; clear hgrow3; have e1 := cell_up e1 hb4; have hR3 : (w3.alloc (.cells #[.slice a3 zs.length k3] 29)).ownsRow 0 29 1 (.slice aw n cw) n ws := trow_at HS.out.2.1 (fun i hi => (hb4.alloc hb4.size _).block i (HS.out.2.1.lt i hi).2); have hB3 := (hb4.block bk (t_lt HS.out.2.2.1)).trans HS.out.2.2.1; have hbk3 := t_lt hB3; have H3 : Hid _ := And.intro hown3 (And.intro hb3 (And.intro hR3 hB3)); clear hown3 hb3 hb4 hR3 hB3)
      | (refine step_append_lies _ (by rfl) _ _ _ (by rfl) 0 29 j0 _ 1 24 Tryz.underlying37 hj0 hy0 hy1 hy2 rfl (Nat.succ_pos 0) (.slice aw n cw) n ws (by rfl) H3.out.2.2.1 ⟨w3.heap.size, 0, none⟩ 1 1 [.slice a3 zs.length k3] (by rfl) (by rfl) (World.news_of_block (cs := #[.slice a3 zs.length k3]) (t := 29) (fr := (0, 0)) (heap_alloc_new w3 _)) (one_list _ ⟨_, _, _, rfl⟩) Nat.one_pos hR1 hR8 (Nat.zero_le _) (w3.heap.size + 1) (by simp) ?_; intro g4 k4 w4 hown4 hgrow4 hat4 hlt4; have hB4 := ((grown_alloc hgrow4).block bk (t_lt H3.out.2.2.2) HB.out.2.2.2.2.2.2.2.2.2).trans H3.out.2.2.2; have f4 := blk_free hB4 1; have e4 : w4.cell? ⟨bk, 1, none⟩ = some (.slice aw n cw) := (by rw [← e1]; simp [World.cell?, hB4, H3.out.2.2.2]); have H4 : Hid _ := And.intro hown4 (And.intro hgrow4 hat4); clear hown4 hgrow4 hat4 hlt4 hB4 e1)
      | fail))
  all_goals
    go_wp2_with fail
    go_end0
    obtain rfl : n = zss.length := HB.out.2.2.2.2.2.2.1
    obtain rfl : wS = _ := HS.out.2.2.2
    exact ⟨rfl, _, _, _, Bs.snoc (w1 := w2) (w2 := w3) (v1 := .slice a3 zs.length k3) HB.out.1 HB.out.2.1 HB.out.2.2.1 hlen hsz H2.out.1 H2.out.2.1 (H2.out.2.2.1.imp_right fun e => by rw [e]; simp) H3.out.1 H3.out.2.1 H4.out.1 H4.out.2.1 (H4.out.2.2.imp (fun e => e.symm) (fun e => by rw [e]; rfl))⟩
end Go.Proofs.YthnenpncajpibaaGreatDoor
/- Contract of the book's Apart, where it has lists of numbers alone. -/
namespace Go.Proofs.YthnenpncajpibaaGreatDoor
open Go.RowKit Go.Maps
attribute [local go_sem ↓] Go.wp_at_zero Go.wp_at_succ
/-- Of the other kinds the book has none. -/
structure Oth (w : World) (bk : Nat) : Prop where
  d1 : w.cell? ⟨bk, 2, none⟩ = some (.slice none 0 0)
  d2 : w.cell? ⟨bk, 4, none⟩ = some (.slice none 0 0)
  d3 : w.cell? ⟨bk, 6, none⟩ = some (.slice none 0 0)
  d4 : w.cell? ⟨bk, 8, none⟩ = some (.slice none 0 0)
  d5 : w.cell? ⟨bk, 10, none⟩ = some (.slice none 0 0)
  d6 : w.cell? ⟨bk, 12, none⟩ = some (.slice none 0 0)
  d7 : w.cell? ⟨bk, 14, none⟩ = some (.slice none 0 0)
  d8 : w.cell? ⟨bk, 16, none⟩ = some (.slice none 0 0)
  d9 : w.cell? ⟨bk, 18, none⟩ = some (.slice none 0 0)
  d10 : w.cell? ⟨bk, 20, none⟩ = some (.slice none 0 0)
theorem Oth.block {w w' : World} {bk : Nat} (h : Oth w bk) (hb : w'.heap[bk]? = w.heap[bk]?) : Oth w' bk :=
  ⟨(World.cell?_of_block (a := ⟨bk, 2, none⟩) hb).trans h.d1, (World.cell?_of_block (a := ⟨bk, 4, none⟩) hb).trans h.d2, (World.cell?_of_block (a := ⟨bk, 6, none⟩) hb).trans h.d3, (World.cell?_of_block (a := ⟨bk, 8, none⟩) hb).trans h.d4, (World.cell?_of_block (a := ⟨bk, 10, none⟩) hb).trans h.d5, (World.cell?_of_block (a := ⟨bk, 12, none⟩) hb).trans h.d6, (World.cell?_of_block (a := ⟨bk, 14, none⟩) hb).trans h.d7, (World.cell?_of_block (a := ⟨bk, 16, none⟩) hb).trans h.d8, (World.cell?_of_block (a := ⟨bk, 18, none⟩) hb).trans h.d9, (World.cell?_of_block (a := ⟨bk, 20, none⟩) hb).trans h.d10⟩
theorem Oth.lt {w : World} {bk : Nat} (h : Oth w bk) : bk < w.heap.size := World.block_lt_of_cell? w _ h.d1
theorem Oth.below {w w' : World} {bk : Nat} (h : Oth w bk) (hb : Below w.heap.size w w') : Oth w' bk := h.block (hb.block bk h.lt)
theorem Oth.kept {F : Nat → Prop} {w w' : World} {bk : Nat} (h : Oth w bk) (hk : Kept F w w') (hF : ¬ F bk) : Oth w' bk := h.block (hk.block bk h.lt hF)
theorem marks_zero_add (k n m : Nat) : marks k 0 n ++ marks k n m = marks k 0 (n + m) := by have := marks_add k 0 n m; rwa [Nat.zero_add] at this
/-- Behind growInts: the grown lists and the lists have their marks. -/
theorem gr_marked {w wr : World} {bk : Nat} {vi : Value} {ls : List Value} {zss : List (List Int)} {vo : Value} {os : List Value} (h : Gr w wr bk vi ls (allM zss) (allM zss).length vo os) : Mr wr vo (zss.map fun z => z.length + 96) ∧ Mr wr vi (zss.map List.length) := by
  have hal : (allM zss).length = zss.length := by unfold allM; rw [List.length_mapIdx]
  have hlo : os.length = zss.length := by have := h.row.1; rw [Nat.mul_one, hal] at this; exact this
  have hll : ls.length = zss.length := by have := h.ri.1; rw [Nat.mul_one, hal] at this; exact this
  have hD : ∀ (k n : Nat), (zss.map List.length)[k]? = some n → ∃ l o, ls[k]? = some l ∧ os[k]? = some o ∧ HasI wr l (marks k 0 n) ∧ HasI wr o (marks k 0 (n + 96)) := fun k n hk => by
    rw [List.getElem?_map] at hk
    obtain ⟨zs, hz, rfl⟩ := Option.map_eq_some_iff.1 hk
    have hkl := (List.getElem?_eq_some_iff.1 hz).1
    have hl : ls[k]? = some (ls[k]'(by omega)) := List.getElem?_eq_getElem _
    have ha : (allM zss)[k]? = some (marks k 0 zs.length) := by unfold allM; rw [List.getElem?_mapIdx, hz]; rfl
    obtain ⟨d1, o, d2, d3, _⟩ := h.done k _ _ (by omega) hl ha
    rw [marks_len, marks_zero_add] at d3
    exact ⟨_, o, hl, d2, d1, d3⟩
  constructor
  · obtain ⟨ao, co, hv⟩ := row_shape h.row
    refine ⟨ao, co, by rw [List.length_map, hv, hal], fun k n hk => ?_⟩
    rw [List.getElem?_map] at hk
    obtain ⟨zs, hz, rfl⟩ := Option.map_eq_some_iff.1 hk
    have hkl := (List.getElem?_eq_some_iff.1 hz).1
    obtain ⟨l, o, _, ho, _, hO⟩ := hD k zs.length (by rw [List.getElem?_map, hz]; rfl)
    obtain ⟨g, c, hf, _, _⟩ := h.row.form (by omega)
    rw [hv] at hf
    injection hf with e1 e2 e3
    subst e1; subst e3
    have hr := h.row
    rw [hv] at hr
    exact ⟨_, o, rfl, by rw [addz, hr.cellAt k (by omega), ho], hO⟩
  · obtain ⟨ao, co, hv⟩ := row_shape h.ri
    refine ⟨ao, co, by rw [List.length_map, hv, hal], fun k n hk => ?_⟩
    obtain ⟨l, o, hl, _, hL, _⟩ := hD k n hk
    rw [List.getElem?_map] at hk
    obtain ⟨zs, hz, rfl⟩ := Option.map_eq_some_iff.1 hk
    have hkl := (List.getElem?_eq_some_iff.1 hz).1
    obtain ⟨g, c, hf, _, _⟩ := h.ri.form (by omega)
    rw [hv] at hf
    injection hf with e1 e2 e3
    subst e1; subst e3
    have hr := h.ri
    rw [hv] at hr
    exact ⟨_, l, rfl, by rw [addz, hr.cellAt k (by omega), hl], hL⟩
set_option maxRecDepth 100000 in
set_option maxHeartbeats 16000000 in
theorem apartI_any (bk : Nat) (vi vw : Value) (ls ws : List Value) (zss : List (List Int)) (w : World) (h : Bs w bk vi vw ls ws zss) (ho : Oth w bk) :
    Calls Tryz.prog 16 #[.pointer (some ⟨bk, 0, none⟩)] w fun r w' => r = .returned (.bool true) ∧ Kept (LsF ls) w w' := by
  have hlen := h.p.len
  have hsz := h.p.sz
  have hbl : ¬ LsF ls bk := fun ⟨l, hl, e⟩ => h.p.ap.b l hl e
  have HB : Hid _ := And.intro h (And.intro ho (And.intro hlen (And.intro hsz hbl)))
  clear h ho hlen hsz hbl
  go_enter Tryz.func16, Tryz.ntmps16
  go_wp2_with (first
    | (go_at_call 34; refine (still_any bk vi vw ls ws zss _ HB.out.1).mono ?_; rintro r1 w1 ⟨rfl, hb1⟩; have H1 : Hid _ := And.intro (HB.out.1.p.below hb1) (And.intro (HB.out.2.1.below hb1) (Kept.of_below (F := LsF ls) hb1)); clear hb1)
    | (go_at_call 35; refine (stillTokens_nil bk _ H1.out.2.1.d1).mono ?_; rintro r9 w9 ⟨rfl, hw⟩; obtain rfl := hw.symm; clear hw)
    | (go_at_call 36; refine (stillTexts_nil bk _ H1.out.2.1.d2).mono ?_; rintro r9 w9 ⟨rfl, hw⟩; obtain rfl := hw.symm; clear hw)
    | (go_at_call 37; refine (stillBools_nil bk _ H1.out.2.1.d3).mono ?_; rintro r9 w9 ⟨rfl, hw⟩; obtain rfl := hw.symm; clear hw)
    | (go_at_call 38; refine (stillSteps_nil bk _ H1.out.2.1.d4).mono ?_; rintro r9 w9 ⟨rfl, hw⟩; obtain rfl := hw.symm; clear hw)
    | (go_at_call 39; refine (stillEdges_nil bk _ H1.out.2.1.d5).mono ?_; rintro r9 w9 ⟨rfl, hw⟩; obtain rfl := hw.symm; clear hw)
    | (go_at_call 40; refine (stillNodes_nil bk _ H1.out.2.1.d6).mono ?_; rintro r9 w9 ⟨rfl, hw⟩; obtain rfl := hw.symm; clear hw)
    | (go_at_call 41; refine (stillPairs_nil bk _ H1.out.2.1.d7).mono ?_; rintro r9 w9 ⟨rfl, hw⟩; obtain rfl := hw.symm; clear hw)
    | (go_at_call 42; refine (stillRows_nil bk _ H1.out.2.1.d8).mono ?_; rintro r9 w9 ⟨rfl, hw⟩; obtain rfl := hw.symm; clear hw)
    | (go_at_call 43; refine (stillLines_nil bk _ H1.out.2.1.d9).mono ?_; rintro r9 w9 ⟨rfl, hw⟩; obtain rfl := hw.symm; clear hw)
    | (go_at_call 44; refine (stillWalks_nil bk _ H1.out.2.1.d10).mono ?_; rintro r9 w9 ⟨rfl, hw⟩; obtain rfl := hw.symm; clear hw)
    | (go_at_call 45; refine (putI_any bk vi ls zss _ H1.out.1).mono ?_; rintro r2 w2 ⟨rfl, hp2, hk2⟩; have H2 : Hid _ := And.intro hp2 (And.intro (H1.out.2.1.kept hk2 HB.out.2.2.2.2) (H1.out.2.2.trans hk2)); clear hp2 hk2)
    | (go_at_call 46; refine (putTokens_nil bk _ H2.out.2.1.d1).mono ?_; rintro r9 w9 ⟨rfl, hw⟩; obtain rfl := hw.symm; clear hw)
    | (go_at_call 47; refine (putTexts_nil bk _ H2.out.2.1.d2).mono ?_; rintro r9 w9 ⟨rfl, hw⟩; obtain rfl := hw.symm; clear hw)
    | (go_at_call 48; refine (putBools_nil bk _ H2.out.2.1.d3).mono ?_; rintro r9 w9 ⟨rfl, hw⟩; obtain rfl := hw.symm; clear hw)
    | (go_at_call 49; refine (putSteps_nil bk _ H2.out.2.1.d4).mono ?_; rintro r9 w9 ⟨rfl, hw⟩; obtain rfl := hw.symm; clear hw)
    | (go_at_call 50; refine (putEdges_nil bk _ H2.out.2.1.d5).mono ?_; rintro r9 w9 ⟨rfl, hw⟩; obtain rfl := hw.symm; clear hw)
    | (go_at_call 51; refine (putNodes_nil bk _ H2.out.2.1.d6).mono ?_; rintro r9 w9 ⟨rfl, hw⟩; obtain rfl := hw.symm; clear hw)
    | (go_at_call 52; refine (putPairs_nil bk _ H2.out.2.1.d7).mono ?_; rintro r9 w9 ⟨rfl, hw⟩; obtain rfl := hw.symm; clear hw)
    | (go_at_call 53; refine (putRows_nil bk _ H2.out.2.1.d8).mono ?_; rintro r9 w9 ⟨rfl, hw⟩; obtain rfl := hw.symm; clear hw)
    | (go_at_call 54; refine (putLines_nil bk _ H2.out.2.1.d9).mono ?_; rintro r9 w9 ⟨rfl, hw⟩; obtain rfl := hw.symm; clear hw)
    | (go_at_call 55; refine (putWalks_nil bk _ H2.out.2.1.d10).mono ?_; rintro r9 w9 ⟨rfl, hw⟩; obtain rfl := hw.symm; clear hw)
    | (go_at_call 56; refine (growI_any bk vi ls (allM zss) _ H2.out.1).mono ?_; rintro r3 w3 ⟨vo, os, rfl, hG3⟩; have hM3 := gr_marked hG3; have hO3 := H2.out.2.1.kept hG3.kp HB.out.2.2.2.2; have c0 := hG3.c0; have H3 : Hid _ := And.intro hM3 (And.intro hO3 (H2.out.2.2.trans hG3.kp)); clear hM3 hO3 hG3)
    | (go_at_call 57; refine (growTokens_nil bk _ H3.out.2.1.d1).mono ?_; rintro r9 w9 ⟨rfl, hw⟩; obtain rfl := hw.symm; clear hw)
    | (go_at_call 58; refine (growTexts_nil bk _ H3.out.2.1.d2).mono ?_; rintro r9 w9 ⟨rfl, hw⟩; obtain rfl := hw.symm; clear hw)
    | (go_at_call 59; refine (growBools_nil bk _ H3.out.2.1.d3).mono ?_; rintro r9 w9 ⟨rfl, hw⟩; obtain rfl := hw.symm; clear hw)
    | (go_at_call 60; refine (growSteps_nil bk _ H3.out.2.1.d4).mono ?_; rintro r9 w9 ⟨rfl, hw⟩; obtain rfl := hw.symm; clear hw)
    | (go_at_call 61; refine (growEdges_nil bk _ H3.out.2.1.d5).mono ?_; rintro r9 w9 ⟨rfl, hw⟩; obtain rfl := hw.symm; clear hw)
    | (go_at_call 62; refine (growNodes_nil bk _ H3.out.2.1.d6).mono ?_; rintro r9 w9 ⟨rfl, hw⟩; obtain rfl := hw.symm; clear hw)
    | (go_at_call 63; refine (growPairs_nil bk _ H3.out.2.1.d7).mono ?_; rintro r9 w9 ⟨rfl, hw⟩; obtain rfl := hw.symm; clear hw)
    | (go_at_call 64; refine (growRows_nil bk _ H3.out.2.1.d8).mono ?_; rintro r9 w9 ⟨rfl, hw⟩; obtain rfl := hw.symm; clear hw)
    | (go_at_call 65; refine (growLines_nil bk _ H3.out.2.1.d9).mono ?_; rintro r9 w9 ⟨rfl, hw⟩; obtain rfl := hw.symm; clear hw)
    | (go_at_call 66; refine (growWalks_nil bk _ H3.out.2.1.d10).mono ?_; rintro r9 w9 ⟨rfl, hw⟩; obtain rfl := hw.symm; clear hw)
    | fail)
  refine (markedI_any vo (zss.map fun z => z.length + 96) _ H3.out.1.1 (by rw [List.length_map]; exact HB.out.2.2.1) (fun n hn => by obtain ⟨z, hz, rfl⟩ := List.mem_map.1 hn; have := HB.out.2.2.2.1 z hz; omega)).mono ?_
  rintro r4 w4 ⟨rfl, hb4⟩
  have c4 := cell_up c0 hb4
  have H4 : Hid _ := And.intro (H3.out.1.2.below hb4) (And.intro (H3.out.2.1.below hb4) (H3.out.2.2.trans (Kept.of_below hb4)))
  clear hb4 c0
  go_wp2_with fail
  refine (markedI_any vi (zss.map List.length) _ H4.out.1 (by rw [List.length_map]; exact HB.out.2.2.1) (fun n hn => by obtain ⟨z, hz, rfl⟩ := List.mem_map.1 hn; have := HB.out.2.2.2.1 z hz; omega)).mono ?_
  rintro r5 w5 ⟨rfl, hb5⟩
  obtain ⟨d1, d2, d3, d4, d5, d6, d7, d8, d9, d10⟩ := H4.out.2.1.below hb5
  have H5 : Hid _ := H4.out.2.2.trans (Kept.of_below hb5)
  clear hb5 c4
  go_wp2_with (first
    | (go_at_call 68; refine (markedTokens_nil _).mono ?_; rintro r9 w9 ⟨rfl, hw⟩; obtain rfl := hw.symm; clear hw)
    | (go_at_call 69; refine (markedTexts_nil _).mono ?_; rintro r9 w9 ⟨rfl, hw⟩; obtain rfl := hw.symm; clear hw)
    | (go_at_call 70; refine (markedBools_nil _).mono ?_; rintro r9 w9 ⟨rfl, hw⟩; obtain rfl := hw.symm; clear hw)
    | (go_at_call 71; refine (markedSteps_nil _).mono ?_; rintro r9 w9 ⟨rfl, hw⟩; obtain rfl := hw.symm; clear hw)
    | (go_at_call 72; refine (markedEdges_nil _).mono ?_; rintro r9 w9 ⟨rfl, hw⟩; obtain rfl := hw.symm; clear hw)
    | (go_at_call 73; refine (markedNodes_nil _).mono ?_; rintro r9 w9 ⟨rfl, hw⟩; obtain rfl := hw.symm; clear hw)
    | (go_at_call 74; refine (markedPairs_nil _).mono ?_; rintro r9 w9 ⟨rfl, hw⟩; obtain rfl := hw.symm; clear hw)
    | (go_at_call 75; refine (markedRows_nil _).mono ?_; rintro r9 w9 ⟨rfl, hw⟩; obtain rfl := hw.symm; clear hw)
    | (go_at_call 76; refine (markedLines_nil _).mono ?_; rintro r9 w9 ⟨rfl, hw⟩; obtain rfl := hw.symm; clear hw)
    | (go_at_call 77; refine (markedWalks_nil _).mono ?_; rintro r9 w9 ⟨rfl, hw⟩; obtain rfl := hw.symm; clear hw)
    | fail)
  go_ret
  exact ⟨rfl, H5.out⟩
end Go.Proofs.YthnenpncajpibaaGreatDoor
/- What stands in the second loop of the statement TermWeights. -/
namespace Go.Proofs.YthnenpncajpibaaGreatDoor
open Go.RowKit Go.Maps
/-- A book without a list, in new memory. -/
def bookZ : Array Value := Array.replicate 22 (.slice none 0 0)
theorem bs_new {w : World} {bk : Nat} (h : w.heap[bk]? = some (.cells bookZ 49 (0, 0))) : Bs w bk (.slice none 0 0) (.slice none 0 0) [] [] [] ∧ Oth w bk := by
  have hc : ∀ k, k < 22 → w.cell? ⟨bk, k, none⟩ = some (.slice none 0 0) := fun k hk => by
    have : bookZ[k]? = some (.slice none 0 0) := by unfold bookZ; rw [Array.getElem?_replicate, if_pos hk]
    simp [World.cell?, h, this]
  refine ⟨⟨⟨hc 0 (by omega), World.ownsRow_nil _ _ _ _, fun k l zs h1 => by simp at h1, ⟨fun l hl => by simp at hl, fun l hl => by simp at hl, by simp [Value.ownBlock], fun i j l m hl => by simp at hl⟩, by simp, fun zs h => by simp at h⟩, hc 1 (by omega), World.ownsRow_nil _ _ _ _, fun k l zs h1 => by simp at h1, ⟨_, h, by unfold bookZ; simp⟩, fun k hk => by simp [Value.ownBlock] at hk⟩, ?_⟩
  exact ⟨hc _ (by omega), hc _ (by omega), hc _ (by omega), hc _ (by omega), hc _ (by omega), hc _ (by omega), hc _ (by omega), hc _ (by omega), hc _ (by omega), hc _ (by omega)⟩
/-- A block of another type is none of those that turn when the book takes a list. -/
theorem Bs.far {w : World} {bk : Nat} {vi vw : Value} {ls ws : List Value} {zss : List (List Int)} (h : Bs w bk vi vw ls ws zss) {g : Nat} {cs : Array Value} {t : TypeId} (hg : w.heap[g]? = some (.cells cs t (0, 0))) (h1 : 49 ≠ t) (h2 : 29 ≠ t) : ¬ (g = bk ∨ vi.ownBlock = some g ∨ vw.ownBlock = some g) := fun hf => by
  rcases hf with rfl | hf | hf
  · obtain ⟨cs', hc, _⟩ := h.bt
    rw [hg] at hc
    injection hc with e
    injection e with _ e
    exact h1 e.symm
  · exact own_bk h.p.ri hg h2 hf
  · exact own_bk h.rw hg h2 hf
/-- The book at a round: made in the world wB, k lists in it; nothing that was there then has turned. -/
structure Wk (wB wr : World) (k : Nat) (vi vw : Value) (ls ws : List Value) (zss : List (List Int)) : Prop where
  bs : Bs wr wB.heap.size vi vw ls ws zss
  ot : Oth wr wB.heap.size
  len : zss.length = k
  bl : Below wB.heap.size wB wr
  rows : ∀ b, (vi.ownBlock = some b ∨ vw.ownBlock = some b) → wB.heap.size ≤ b
  lis : ∀ l ∈ ls, ∀ b, l.ownBlock = some b → wB.heap.size ≤ b
theorem wk_new (wB : World) : Wk wB (wB.alloc (.cells bookZ 49)) 0 (.slice none 0 0) (.slice none 0 0) [] [] [] := by
  have h := bs_new (MapKept.heap_alloc wB (.cells bookZ 49)).1
  exact ⟨h.1, h.2, rfl, (Below.refl _ _).alloc (Nat.le_refl _) _, fun b hb => by simp [Value.ownBlock] at hb, fun l hl => by simp at hl⟩
theorem Wk.below {wB wr w' : World} {k : Nat} {vi vw : Value} {ls ws : List Value} {zss : List (List Int)} (h : Wk wB wr k vi vw ls ws zss) (hb : Below wr.heap.size wr w') : Wk wB w' k vi vw ls ws zss :=
  ⟨h.bs.below hb, h.ot.below hb, h.len, h.bl.trans (hb.mono h.bl.size), h.rows, h.lis⟩
/-- One more list of the call's own. -/
theorem Wk.ints {wB wr : World} {k : Nat} {vi vw : Value} {ls ws : List Value} {zss : List (List Int)} (h : Wk wB wr k vi vw ls ws zss) (hk : k < 400) (v : Value) (cs : List Int) (B : Nat) (hO : OwnI wr B v cs) (hB : wB.heap.size ≤ B) (hap : ∀ l ∈ ls, ∀ q, l.ownBlock = some q → q < B) (hsz : cs.length ≤ 1000000) :
    Calls Tryz.prog 11 #[.pointer (some ⟨wB.heap.size, 0, none⟩), v] wr fun r w' => r = .returned (.tuple #[]) ∧ ∃ vi' vw' ws', Wk wB w' (k + 1) vi' vw' (ls ++ [v]) ws' (zss ++ [cs]) ∧ HasI w' v cs ∧ Kept (fun b => b = wB.heap.size ∨ vi.ownBlock = some b ∨ vw.ownBlock = some b) wr w' := by
  have hO0 : OwnI wr 0 v cs := row_base hO (Nat.zero_le _)
  refine (ints_any wB.heap.size vi vw v ls ws zss cs wr h.bs hO0 (fun l hl q hq e => ?_) (by rw [h.len]; exact hk) hsz).mono ?_
  · have h1 := hap l hl q hq
    have h2 := (hO.lt q e).1
    omega
  rintro r w' ⟨rfl, vi', vw', v1, hN⟩
  have hup : ∀ b, (b = wB.heap.size ∨ vi.ownBlock = some b ∨ vw.ownBlock = some b) → wB.heap.size ≤ b := fun b hb => by
    rcases hb with rfl | hb
    · exact Nat.le_refl _
    · exact h.rows b hb
  refine ⟨rfl, vi', vw', _, ⟨hN.b, ?_, by rw [List.length_append, h.len]; rfl, h.bl.trans (hN.k.below h.bl.size hup), fun b hb => ?_, fun l hl b hb => ?_⟩, ?_, hN.k⟩
  · exact ⟨(hN.o _ (by omega)).trans h.ot.d1, (hN.o _ (by omega)).trans h.ot.d2, (hN.o _ (by omega)).trans h.ot.d3, (hN.o _ (by omega)).trans h.ot.d4, (hN.o _ (by omega)).trans h.ot.d5, (hN.o _ (by omega)).trans h.ot.d6, (hN.o _ (by omega)).trans h.ot.d7, (hN.o _ (by omega)).trans h.ot.d8, (hN.o _ (by omega)).trans h.ot.d9, (hN.o _ (by omega)).trans h.ot.d10⟩
  · rcases hN.f b hb with e | e
    · exact h.rows b e
    · have := h.bl.size; omega
  · rcases List.mem_append.1 hl with hl | hl
    · exact h.lis l hl b hb
    · rw [List.mem_singleton.1 hl] at hb; have := (hO.lt b hb).1; omega
  · have hll := h.bs.p.ll
    refine (hN.b.p.li zss.length v cs ?_ ?_).has
    · rw [List.getElem?_append_right (by omega), hll, Nat.sub_self]; rfl
    · rw [List.getElem?_append_right (by omega), Nat.sub_self]; rfl
theorem Wk.ls_lt {wB wr : World} {k : Nat} {vi vw : Value} {ls ws : List Value} {zss : List (List Int)} (h : Wk wB wr k vi vw ls ws zss) : ∀ l ∈ ls, ∀ q, l.ownBlock = some q → q < wr.heap.size := fun l hl q hq => by
  obtain ⟨i, hi, rfl⟩ := List.getElem_of_mem hl
  have hz : i < zss.length := by have := h.bs.p.ll; omega
  exact ((h.bs.p.li i _ _ (List.getElem?_eq_getElem hi) (List.getElem?_eq_getElem hz)).lt q hq).2
end Go.Proofs.YthnenpncajpibaaGreatDoor
