/- Texts of this claim, joined: DiReck, DiNew, SyRep, RoDs0, RoDs, RoDSame, RoDNext0, RoRanks0, RoRanks. -/
import Derived.Test.YtgehimdkdeldaabGreatDoorPart0
import Derived.Test.YtgehimdkdeldaabGreatDoorPart5
import Derived.Test.YtgehimdkdeldaabGreatDoorPart1
import Derived.Laws.IdiomCopy
import Derived.Deep.LoopGhost
import Derived.WalkSmall
import Derived.Deep.DrawnRows
import Derived.Deep.AppendLies
import Derived.Maps.AppendAt
import Derived.RangeFuncBox
import Derived.BigQuiet
import Derived.Test.YtgehimdkdeldaabGreatDoorPart3
import Derived.Test.YtgehimdkdeldaabGreatDoorPart2
import Derived.Test.YtgehimdkdeldaabGreatDoorPart4
namespace Go.Proofs.YtgehimdkdeldaabGreatDoor
namespace Di
open Go.RowKit Go.Maps
attribute [local go_sem ↓] Go.wp_at_zero Go.wp_at_succ
theorem FAt.kept {c : Tk} {w : World} {F : Nat -> Prop} {told : List (Nat × Nat)} {L : List Fm} {X : Fm} {K : Nat × Nat -> Prop} {e : Nat} {r : Ending} {w' : World} (h : FAt c w F told L X K e r w') : Kept (FT F c.tm) w w' := by
 rcases h with ⟨_, _, _, _, _, h, _⟩ | ⟨_, _, _, _, h⟩ <;> exact h
def Shp (r : Ending) : Prop := ∃ (x : Int) (y : Value), r = .returned (.tuple #[.int .i64 x, y]) /\ (y = .nilIface \/ ∃ T u, y = .iface T u)
theorem FAt.shp {c : Tk} {w : World} {F : Nat -> Prop} {told : List (Nat × Nat)} {L : List Fm} {X : Fm} {K : Nat × Nat -> Prop} {e : Nat} {r : Ending} {w' : World} (h : FAt c w F told L X K e r w') : Shp r := by
 rcases h with ⟨_, _, h, _⟩ | ⟨_, e, h, hC, _⟩
 ·exact ⟨_, _, h, .inl rfl⟩
 ·exact ⟨_, _, h, .inr (chain_iface hC)⟩
theorem PutAt.shp {aL : Addr} {b : Nat} {L : List Fm} {F : Nat -> Prop} {x : Fm} {w : World} {r : Ending} {w' : World} (h : PutAt aL b L F x w r w') : Shp r := by
 rcases h with ⟨_, h, _⟩ | ⟨_, e, h, hC, _⟩
 ·exact ⟨_, _, h, .inl rfl⟩
 ·exact ⟨_, _, h, .inr (chain_iface hC)⟩
theorem fin_put {c : Tk} {w wa w5 w6 : World} {F : Nat -> Prop} {told told' : List (Nat × Nat)} {L R : List Fm} {Y : Fm} {K K' : Nat × Nat -> Prop} {e1 extra : Nat} {r : Ending} (hT : Tw c w F told L) (hb : Below w.heap.size w wa) (hT5 : Tw c w5 (Up F wa w5) told' (L ++ R)) (hk5 : Kept (FT F c.tm) wa w5) (hpot : c.pot told' (L ++ R) <= c.pot told L + e1)
 (hnew : ∀ x ∈ told', x ∈ told \/ K x) (hK : ∀ x, K x -> K' x) (h : PutAt c.aL c.b (L ++ R) (Up F wa w5) Y w5 r w6) (he : e1 + 1 <= extra) : FAt c w F told L Y K' extra r w6 := by
 have hk05 : Kept (FT F c.tm) w w5 := (Kept.of_below hb).trans hk5
 have hs5 : ∀ i, Up F wa w5 i -> Up F w w5 i := fun i hi => hi.imp id fun h => ⟨Nat.le_trans hb.size h.1, h.2⟩
 rcases h with ⟨_, h2, h3, h4⟩ | ⟨h1, e, h2, h3, h4⟩
 ·obtain ⟨r', hr, hrl⟩ := more_eq (L ++ R) Y
  have hmem := mem_more (L ++ R) Y
  rw [hr] at h2 h3 hmem
  have hT6 := hT5.put h3 h4 fun _ e => e
  have hk6 : Kept (FT F c.tm) w w6 := ft_trans (G := Up F wa w5) hk05 (kept_ft h4) hs5
  have hT7 := hT.mono hk6 hT6 fun i hi => by
   rcases hi with hi | hi
   ·exact (hs5 i hi).imp id fun h => ⟨h.1, Nat.lt_of_lt_of_le h.2 h4.size⟩
   ·exact .inr ⟨by have := hk05.size; omega, hi.2⟩
  rw [List.append_assoc] at h2 hmem hT7
  refine .inl ⟨told', R ++ r', h2, hmem, hT7, hk6, ?_, fun x hx => (hnew x hx).imp id (hK x)⟩
  unfold Tk.pot at hpot ⊢
  simp only [List.length_append] at hpot ⊢
  omega
 ·exact .inr ⟨h1, e, h2, h3, hk05.trans (.of_below h4)⟩
theorem up2 {α : Prop} (h : α) : Hid α := h
theorem PutAt.kept {aL : Addr} {b : Nat} {L : List Fm} {F : Nat -> Prop} {x : Fm} {w : World} {r : Ending} {w' : World} (h : PutAt aL b L F x w r w') : Kept F w w' := by
 rcases h with ⟨_, _, _, h⟩ | ⟨_, _, _, _, h⟩
 ·exact h
 ·exact .of_below h
theorem sr_of {wr : World} {a b6 : Nat} {p q l s : Int} (h6 : wr.heap[b6]? = some (.cells #[.int .i64 l, .int .i64 s] 111 (0, 0))) (hw : wr.heap[a]? = some (.cells #[.int .i64 p, .int .i64 q] 72 (0, 0))) :
 (wr.cell? ⟨a, 1, none⟩ = some (.int .i64 q) /\ wr.cell? ⟨b6, 0, none⟩ = some (.int .i64 l) /\ wr.cell? ⟨b6, 1, none⟩ = some (.int .i64 s)) /\ Hid (wr.heap[b6]? = some (.cells #[.int .i64 l, .int .i64 s] 111 (0, 0)) /\ wr.heap[a]? = some (.cells #[.int .i64 p, .int .i64 q] 72 (0, 0))) :=
 ⟨⟨(two_cellsD hw).2, (two_cellsD h6).1, (two_cellsD h6).2⟩, up2 ⟨h6, hw⟩⟩
theorem sh_eq {x : Int} {y : Value} (h : Shp (.returned (.tuple #[.int .i64 x, y]))) : y = .nilIface \/ ∃ T u, y = .iface T u := by
 obtain ⟨x', y', he, hy⟩ := h
 injection he with he
 simp only [Value.tuple.injEq, Array.mk.injEq, List.cons.injEq, and_true] at he
 rw [he.2]
 exact hy
theorem FAt.ok {c : Tk} {w : World} {F : Nat -> Prop} {told : List (Nat × Nat)} {L : List Fm} {X : Fm} {K : Nat × Nat -> Prop} {e : Nat} {x : Int} {w' : World} (h : FAt c w F told L X K e (.returned (.tuple #[.int .i64 x, .nilIface])) w') :
 ∃ told' R, x = ((num (L ++ R) X : Nat) : Int) /\ X ∈ L ++ R /\ Tw c w' (Up F w w') told' (L ++ R) /\ Kept (FT F c.tm) w w' /\ c.pot told' (L ++ R) <= c.pot told L + e /\ ∀ x ∈ told', x ∈ told \/ K x := by
 rcases h with ⟨told', R, h1, h2⟩ | ⟨_, e, h, hC, _⟩
 ·injection h1 with h1
  simp only [Value.tuple.injEq, Array.mk.injEq, List.cons.injEq, Value.int.injEq, and_true, true_and] at h1
  exact ⟨told', R, h1, h2⟩
 ·obtain ⟨T, u, rfl⟩ := chain_iface hC
  injection h with h
  simp only [Value.tuple.injEq, Array.mk.injEq, List.cons.injEq, reduceCtorEq, and_true, and_false] at h
theorem FAt.no {c : Tk} {w : World} {F : Nat -> Prop} {told : List (Nat × Nat)} {L : List Fm} {X : Fm} {K : Nat × Nat -> Prop} {e : Nat} {x : Int} {T : TypeId} {u : Value} {w' : World} (h : FAt c w F told L X K e (.returned (.tuple #[.int .i64 x, .iface T u])) w') :
 5000 < X.size /\ x = 0 /\ Chain w' 0 0 c.aL [disB] (.iface T u) /\ Kept (FT F c.tm) w w' := by
 rcases h with ⟨told', R, h, h2⟩ | ⟨h0, e, h, hC, hk⟩
 ·injection h with h
  simp only [Value.tuple.injEq, Array.mk.injEq, List.cons.injEq, reduceCtorEq, and_true, and_false] at h
 ·injection h with h
  simp only [Value.tuple.injEq, Array.mk.injEq, List.cons.injEq, Value.int.injEq, and_true, true_and] at h
  rw [h.2]
  exact ⟨h0, h.1, hC, hk⟩
set_option linter.unusedSimpArgs false in
set_option maxRecDepth 100000 in
set_option maxHeartbeats 16000000 in
theorem reck_of {c : Tk} {p q : Nat} (hTh : Th c.out c.rk c.m) (hRw : Rw c.m c.out) (hp : p < c.m) (hq : q < c.m) (hr : 1 <= c.rk p q) (ih : ∀ p' q', p' < c.m -> q' < c.m -> 1 <= c.rk p' q' -> c.mu (p', q') < c.mu (p, q) -> FOk c p' q') : ROk c p q := fun w F told L hT hno hpot => by
 obtain ⟨w1, hw1⟩ : ∃ w1, w1 = w.alloc (.cells #[.int .i64 (p : Int), .int .i64 (q : Int)] 72) := ⟨_, rfl⟩
 have hb1 : Below w.heap.size w w1 := by rw [hw1]; exact (Below.refl _ _).alloc (Nat.le_refl _) _
 have hg1 : w1.heap[w.heap.size]? = some (.cells #[.int .i64 (p : Int), .int .i64 (q : Int)] 72 (0, 0)) := by rw [hw1]; exact heap_alloc_new w _
 have hTl := telling_any hRw hTh.dst p q hp hq w1 (hT.below hb1).st.1
 have heq := hTh.eq hp hq hr
 have H : Hid _ := And.intro hw1 (And.intro hb1 (And.intro hg1 (And.intro hTl (And.intro hT (And.intro hpot heq)))))
 obtain ⟨x0, x1⟩ := two_cellsD hg1
 clear hw1 hb1 hg1 hTl hT hpot hno heq
 unfold prV
 go_enter Tryz.func42, Tryz.ntmps42
 go_upto_region 1 with fail
 rw [<- H.out.1]
 go_wp2_with fail
 refine Calls.mono H.out.2.2.2.1 ?_
 rintro r w2 ⟨hb2, (⟨z, hz, rfl⟩ | ⟨hz, rfl⟩)⟩
 ·obtain ⟨l, to'⟩ := z
  obtain ⟨hzm, _⟩ := tel_mem c.out c.rk hz
  have hzd := hTh.dst p hp _ hzm
  have hzl := hRw.lab p hp _ hzm
  obtain ⟨s, rfl⟩ : ∃ s : Nat, to' = (s : Int) := ⟨to'.toNat, by simp only at hzd; omega⟩
  simp only at hzd hzl
  have hs : s < c.m := by omega
  obtain ⟨w3, hw3⟩ : ∃ w3, w3 = w2.alloc (.cells #[.int .i64 l, .int .i64 (s : Int)] 111) := ⟨_, rfl⟩
  have hb23 : Below w2.heap.size w2 w3 := by rw [hw3]; exact (Below.refl _ _).alloc (Nat.le_refl _) _
  have hg3 : w3.heap[w2.heap.size]? = some (.cells #[.int .i64 l, .int .i64 (s : Int)] 111 (0, 0)) := by rw [hw3]; exact heap_alloc_new w2 _
  have hb13 := hb2.trans (hb23.mono hb2.size)
  have hp3 := (hb13.block _ (t_lt H.out.2.2.1)).trans H.out.2.2.1
  have hb3 : Below w.heap.size w w3 := H.out.2.1.trans (hb13.mono H.out.2.1.size)
  obtain ⟨b6, hb6⟩ : ∃ b6, b6 = w2.heap.size := ⟨_, rfl⟩
  have hT3 := H.out.2.2.2.2.1.below hb3
  obtain ⟨ys, hys⟩ : ∃ ys, ys = byl c.out q l := ⟨_, rfl⟩
  have hyl : ys.length <= 10000 := by rw [hys]; exact Nat.le_trans (List.length_filter_le _ _) (hRw.len q hq)
  obtain ⟨M, hM⟩ : ∃ M, M + 1 = c.mu (p, q) := by
   refine ⟨c.mu (p, q) - 1, ?_⟩
   have h1 : 2 <= c.mu (p, q) := by
    unfold Tk.mu Di.mu
    simp only
    split <;> omega
   omega
  have hyF : ∀ y ∈ ys, 0 <= y.2 /\ y.2 < (c.m : Int) /\ c.mu (s, y.2.toNat) <= M /\ FOk c s y.2.toNat := fun y hy => by
   rw [hys] at hy
   have d := hTh.dst q hq y (List.mem_filter.1 hy).1
   obtain ⟨g1, g2, g3, g4⟩ := hTh.part hp hq hz hy
   simp only [Int.toNat_natCast] at g1 g2 g3 g4
   have g5 : c.mu (s, y.2.toNat) < c.mu (p, q) := g4
   exact ⟨d.1, d.2, by omega, ih _ _ g1 g2 g3 g5⟩
  have hBy := fun W (hb : Below w3.heap.size w3 W) => by_any hRw q l W hq hzl ((hT3.below hb).st.1)
  rw [<- hys] at hBy
  have hPt := fun (W : World) (v : Value) (hb : Below w3.heap.size w3 W) (hv : ∀ W', c.St W' -> BSteps.Has W' v ys) => (part_of (c := c) (p' := s) (M := M) hyF hyl W F told L v (hT3.below hb) hv (by have := H.out.2.2.2.2.2.1; omega)).mono (R' := fun r w' => (∃ (x : Int) (y : Value), r = .returned (.tuple #[.int .i64 x, y])) /\ Hid (FAt c W F told L (jn (ys.map (c.G s))) (fun x => c.mu x <= M) (ys.length + 1) r w') /\ Hid (Shp r)) fun r w' h => by
   obtain ⟨x, y, h1, h2⟩ := h.shp
   exact ⟨⟨x, y, h1⟩, up2 h, up2 ⟨x, y, h1, h2⟩⟩
  have hX : c.F (p, q) = .may l (jn (ys.map (c.G s))) := by
   have h := H.out.2.2.2.2.2.2
   rw [hz] at h
   show FF c.out c.rk p q = _
   rw [h, hys]
   rfl
  have hRow := fun (W W' : World) (hb : Below w3.heap.size w3 W) (hW : c.St W') => c.rowSt (hT3.below hb).st hW hq
  rw [<- hb6] at hg3
  have hF3 : ∀ i, FT F c.tm i -> i ≠ w.heap.size /\ i ≠ b6 := fun i hi => by
   have h1 := H.out.2.2.2.2.1.lt hi
   have h2 := H.out.2.1.size
   have h3 := hb2.size
   omega
  have H3 : Hid _ := And.intro hw3 (And.intro hb3 (And.intro hg3 (And.intro hp3 (And.intro hT3 (And.intro hBy (And.intro hPt (And.intro hX (And.intro hRow (And.intro hF3 (And.intro hM (And.intro hyl (And.intro hzl hb6))))))))))))
  clear hz hzm hzd hb2 hb23 hb13 hyF hBy hPt hX hRow hF3 hM hT3 hys hyl hzl x0 x1
  go_upto_region 2 with fail
  rw [<- H3.out.1, <- hb6]
  obtain ⟨y0, y1⟩ := two_cellsD hg3
  obtain ⟨x0, x1⟩ := two_cellsD hp3
  clear hg3 hp3 hb3 hw3 hb6
  go_upto_region 7 with fail
  refine wp_region_held_drew (S := (fun w' => (w'.cell? ⟨w.heap.size, 1, none⟩ = some (.int .i64 (q : Int)) /\ w'.cell? ⟨b6, 0, none⟩ = some (.int .i64 l) /\ w'.cell? ⟨b6, 1, none⟩ = some (.int .i64 (s : Int))) /\ Hid (w'.heap[b6]? = some (.cells #[.int .i64 l, .int .i64 (s : Int)] 111 (0, 0)) /\ w'.heap[w.heap.size]? = some (.cells #[.int .i64 (p : Int), .int .i64 (q : Int)] 72 (0, 0))))) (by kernel_rfl) ?_ (fun hHeld => ?_)
  ·exact sr_of H3.out.2.2.1 H3.out.2.2.2.1
  refine tk8 0 rfl ?_; (try simp only [ty9, Act.put])
  refine tk8 1 rfl ?_; (try simp only [ty9, Act.put])
  refine tk8 2 rfl ?_; (try simp only [ty9, Act.put])
  refine tk8 3 rfl ?_; (try simp only [ty9, Act.put])
  refine tk8 4 rfl ?_; (try simp only [ty9, Act.put])
  refine tk8 5 rfl ?_; (try simp only [ty9, Act.put])
  refine tk8 6 rfl ?_; (try simp only [ty9, Act.put])
  refine tk8 7 rfl ?_; (try simp only [ty9, Act.put])
  refine wpAnyH_ready (rs := [8]) (by kernel_rfl) (by simp) ?_
  refine AllReadyH.cons (o := _) rfl (fun K hK => ?_) ?_
  ·(go_simp; go_at_call 62; refine Calls.mono (H3.out.2.2.2.2.2.1 _ ((Below.refl _ _).drew)) ?_; rintro r4 w4 ⟨av, cv, rfl, hAt, hb4⟩; have H4 : Hid _ := And.intro hAt hb4; clear hAt hb4)
   (try go_wp2_with fail)
   refine hK.out _ _ ?_ (fun hHeld => ?_)
   ·exact sr_of (((below_of_drew3 H4.out.2).block _ (t_lt H3.out.2.2.1)).trans H3.out.2.2.1) (((below_of_drew3 H4.out.2).block _ (t_lt H3.out.2.2.2.1)).trans H3.out.2.2.2.1)
   clear hK K
   (try simp only [ty9, Act.put])
   refine wpAnyH_ready (rs := [9]) (by kernel_rfl) (by simp) ?_
   refine AllReadyH.cons (o := _) rfl (fun K hK => ?_) ?_
   ·(go_simp; go_at_call 61; refine Calls.mono (H3.out.2.2.2.2.2.2.1 w4 _ (below_of_drew3 H4.out.2) (fun W' hW => H4.out.1 W' (H3.out.2.2.2.2.2.2.2.2.1 _ W' ((Below.refl _ _).drew) hW))) ?_; rintro r5 w5 ⟨⟨xx, yy, rfl⟩, hF5, hS5⟩)
    (try go_wp2_with fail)
    refine hK.out _ _ ?_ (fun hHeld => ?_)
    ·exact sr_of ((hF5.out.kept.block _ (t_lt (((below_of_drew3 H4.out.2).block _ (t_lt H3.out.2.2.1)).trans H3.out.2.2.1)) (fun h => (H3.out.2.2.2.2.2.2.2.2.2.1 _ h).2 rfl)).trans (((below_of_drew3 H4.out.2).block _ (t_lt H3.out.2.2.1)).trans H3.out.2.2.1)) ((hF5.out.kept.block _ (t_lt (((below_of_drew3 H4.out.2).block _ (t_lt H3.out.2.2.2.1)).trans H3.out.2.2.2.1)) (fun h => (H3.out.2.2.2.2.2.2.2.2.2.1 _ h).1 rfl)).trans (((below_of_drew3 H4.out.2).block _ (t_lt H3.out.2.2.2.1)).trans H3.out.2.2.2.1))
    clear hK K
    (try simp only [ty9, Act.put])
    refine tk8 10 rfl ?_; (try simp only [ty9, Act.put])
    refine tk8 11 rfl ?_; (try simp only [ty9, Act.put])
    refine tk8 12 rfl ?_; (try simp only [ty9, Act.put])
    refine tk8 13 rfl ?_; (try simp only [ty9, Act.put])
    refine tk8 14 rfl ?_; (try simp only [ty9, Act.put])
    refine wpAnyH_done (by kernel_rfl) ?_ _
    (try go_simp)
    have hS9 := hHeld.2.out
    clear hHeld x0 x1 y0 y1
    rcases sh_eq hS5.out with rfl | ⟨T, u, rfl⟩
    ·obtain ⟨told5, R, hxx, hJ, hT5, hk5, hp5, hn5⟩ := hF5.out.ok
     subst hxx
     have hb34 := (below_of_drew3 H4.out.2)
     have hb4 := H3.out.2.1.trans (hb34.mono H3.out.2.1.size)
     have hLR : (L ++ R).length < 100000000000 := by
      have h2 := H.out.2.2.2.2.2.1
      have h3 := H3.out.2.2.2.2.2.2.2.2.2.2.2.1
      unfold Tk.pot at hp5 h2
      omega
     have hMy := fun W (hb : Below w5.heap.size w5 W) => (may_any c.aL c.b (L ++ R) _ l _ W ((hT5.below hb).env) ((hT5.below hb).bf) hJ H3.out.2.2.2.2.2.2.2.2.2.2.2.2.1 hLR).mono (R' := fun r w' => (∃ (x : Int) (y : Value), r = .returned (.tuple #[.int .i64 x, y])) /\ Hid (PutAt c.aL c.b (L ++ R) (Up F w4 w5) (.may l (jn (ys.map (c.G s)))) W r w') /\ Hid (Shp r)) fun r w' h => by
      obtain ⟨x, y, h1, h2⟩ := h.shp
      exact ⟨⟨x, y, h1⟩, up2 h, up2 ⟨x, y, h1, h2⟩⟩
     obtain ⟨c0, c1, c2, c3⟩ := four_cellsD hT5.st.1.box
     obtain ⟨y0, y1⟩ := two_cellsD hS9.1
     have H5 : Hid _ := And.intro hJ (And.intro hT5 (And.intro hk5 (And.intro hp5 (And.intro hn5 (And.intro hb4 (And.intro hMy hS9))))))
     clear hJ hT5 hk5 hp5 hn5 hb34 hb4 hMy hLR hS9 hF5 hS5
     go_upto_region 10 with fail
     refine wp_region_held_drew (S := (fun w' => (w'.cell? ⟨c.t, 0, none⟩ = some (.pointer (some ⟨c.b, 0, none⟩)) /\ w'.cell? ⟨b6, 0, none⟩ = some (.int .i64 l)) /\ Hid True)) (by kernel_rfl) ?_ (fun hHeld => ?_)
     ·exact ⟨⟨c0, y0⟩, up2 trivial⟩
     refine tk8 0 rfl ?_; (try simp only [ty9, Act.put])
     refine tk8 1 rfl ?_; (try simp only [ty9, Act.put])
     refine tk8 2 rfl ?_; (try simp only [ty9, Act.put])
     refine tk8 3 rfl ?_; (try simp only [ty9, Act.put])
     refine tk8 4 rfl ?_; (try simp only [ty9, Act.put])
     refine tk8 5 rfl ?_; (try simp only [ty9, Act.put])
     refine tk8 6 rfl ?_; (try simp only [ty9, Act.put])
     refine wpAnyH_ready (rs := [7]) (by kernel_rfl) (by simp) ?_
     refine AllReadyH.cons (o := _) rfl (fun K hK => ?_) ?_
     ·(go_simp; go_at_call 63; refine Calls.mono (H5.out.2.2.2.2.2.2.1 _ ((Below.refl _ _).drew)) ?_; rintro r6 w6 ⟨⟨x6, y6, rfl⟩, hF6, hS6⟩)
      (try go_wp2_with fail)
      refine hK.out _ _ ?_ (fun hHeld => ?_)
      ·exact ⟨⟨(four_cellsD (H5.out.2.1.fix w6 (kept_ft ((Kept.of_below (Below.refl _ _).drew).trans hF6.out.kept))).1.box).1, (two_cellsD ((((Kept.of_below (Below.refl _ _).drew).trans hF6.out.kept).block _ (t_lt H5.out.2.2.2.2.2.2.2.1) (fun h => h.elim (fun h => (H3.out.2.2.2.2.2.2.2.2.2.1 _ (.inl h)).2 rfl) fun h => by have h1 := t_lt H3.out.2.2.1; have h2 := (below_of_drew3 H4.out.2).size; omega)).trans H5.out.2.2.2.2.2.2.2.1)).1⟩, up2 trivial⟩
      clear hK K
      (try simp only [ty9, Act.put])
      refine tk8 8 rfl ?_; (try simp only [ty9, Act.put])
      refine tk8 9 rfl ?_; (try simp only [ty9, Act.put])
      refine tk8 10 rfl ?_; (try simp only [ty9, Act.put])
      refine tk8 11 rfl ?_; (try simp only [ty9, Act.put])
      refine wpAnyH_done (by kernel_rfl) ?_ _
      (try go_simp)
      clear hHeld
      have hfin : Hid (FAt c w F told L (c.F (p, q)) (fun x => c.mu x < c.mu (p, q)) 10010 (.returned (.tuple #[.int .i64 x6, y6])) w6) := (by
       rw [H3.out.2.2.2.2.2.2.2.1]
       exact fin_put (w5 := w5.drew) H.out.2.2.2.2.1 H5.out.2.2.2.2.2.1 (H5.out.2.1.below (Below.refl _ _).drew) (H5.out.2.2.1.trans (.of_below (Below.refl _ _).drew)) H5.out.2.2.2.1 H5.out.2.2.2.2.1 (fun x (hx : c.mu x <= M) => by have := H3.out.2.2.2.2.2.2.2.2.2.2.1; omega) hF6.out (by have := H3.out.2.2.2.2.2.2.2.2.2.2.2.1; omega) : FAt c w F told L (c.F (p, q)) (fun x => c.mu x < c.mu (p, q)) 10010 (.returned (.tuple #[.int .i64 x6, y6])) w6)
      rcases sh_eq hS6.out with rfl | ⟨T, u, rfl⟩
      all_goals
       clear hF6 hS6 c0 c1 c2 c3 y0 y1
       go_wp2_with fail
       go_ret2
       exact hfin.out
     exact AllReadyH.nil
    ·obtain ⟨n1, n2, n3, n4⟩ := hF5.out.no
     subst n2
     have H5 : Hid _ := And.intro n1 (And.intro n3 n4)
     clear n1 n3 n4 hF5 hS5 hS9
     go_wp2_with fail
     go_ret2
     have hb34 := (below_of_drew3 H4.out.2)
     refine .inr ⟨?_, _, rfl, H5.out.2.1, (Kept.of_below (H3.out.2.1.trans (hb34.mono H3.out.2.1.size))).trans H5.out.2.2⟩
     rw [H3.out.2.2.2.2.2.2.2.1]
     have := H5.out.1
     unfold Fm.size
     omega
   exact AllReadyH.nil
  exact AllReadyH.nil
 ·obtain ⟨hmu, hr2, _⟩ := hTh.flip hp hq hr hz
  obtain ⟨w3, hw3⟩ : ∃ w3, w3 = w2.alloc (.cells #[.int .i64 0, .int .i64 0] 111) := ⟨_, rfl⟩
  have hb23 : Below w2.heap.size w2 w3 := by rw [hw3]; exact (Below.refl _ _).alloc (Nat.le_refl _) _
  have hb13 := hb2.trans (hb23.mono hb2.size)
  have hp3 := (hb13.block _ (t_lt H.out.2.2.1)).trans H.out.2.2.1
  have hb3 : Below w.heap.size w w3 := H.out.2.1.trans (hb13.mono H.out.2.1.size)
  have hT3 := H.out.2.2.2.2.1.below hb3
  have hmu2 : c.mu (q, p) < c.mu (p, q) := hmu
  have hFm := ih q p hq hp hr2 hmu2 w3 F told L hT3 (by have := H.out.2.2.2.2.2.1; omega)
  have hX : c.F (p, q) = .neg (c.F (q, p)) := by
   have h := H.out.2.2.2.2.2.2
   rw [hz] at h
   exact h
  unfold prV at hFm
  have hFm := hFm.mono (R' := fun r w' => (∃ (x : Int) (y : Value), r = .returned (.tuple #[.int .i64 x, y])) /\ Hid (FAt c w3 F told L (c.F (q, p)) (fun x => c.mu x <= c.mu (q, p)) 0 r w') /\ Hid (Shp r)) fun r w' h => by
   obtain ⟨x, y, h1, h2⟩ := h.shp
   exact ⟨⟨x, y, h1⟩, up2 h, up2 ⟨x, y, h1, h2⟩⟩
  have H3 : Hid _ := And.intro hw3 (And.intro hb3 (And.intro hT3 (And.intro hmu2 (And.intro hFm hX))))
  clear hz hmu hr2 hb2 hb23 hb13 hT3 hmu2 hFm hX x0 x1
  go_upto_region 2 with fail
  rw [<- H3.out.1]
  obtain ⟨x0, x1⟩ := two_cellsD hp3
  clear hp3 hb3 hw3
  go_wp2_with fail
  refine Calls.mono H3.out.2.2.2.2.1 ?_
  rintro r w5 ⟨⟨xx, yy, rfl⟩, hF5, hS5⟩
  clear x0 x1
  rcases sh_eq hS5.out with rfl | ⟨T, u, rfl⟩
  ·obtain ⟨told5, R, hxx, hJ, hT5, hk5, hp5, hn5⟩ := hF5.out.ok
   subst hxx
   have hLR : (L ++ R).length < 100000000000 := by
    have h2 := H.out.2.2.2.2.2.1
    unfold Tk.pot at hp5 h2
    omega
   have hNt := fun W (hb : Below w5.heap.size w5 W) => (not_any c.aL c.b (L ++ R) _ (c.F (q, p)) W ((hT5.below hb).env) ((hT5.below hb).bf) hJ hLR).mono (R' := fun r w' => (∃ (x : Int) (y : Value), r = .returned (.tuple #[.int .i64 x, y])) /\ Hid (PutAt c.aL c.b (L ++ R) (Up F w3 w5) (.neg (c.F (q, p))) W r w') /\ Hid (Shp r)) fun r w' h => by
    obtain ⟨x, y, h1, h2⟩ := h.shp
    exact ⟨⟨x, y, h1⟩, up2 h, up2 ⟨x, y, h1, h2⟩⟩
   obtain ⟨c0, c1, c2, c3⟩ := four_cellsD hT5.st.1.box
   have H5 : Hid _ := And.intro hT5 (And.intro hk5 (And.intro hp5 (And.intro hn5 hNt)))
   clear hJ hT5 hk5 hp5 hn5 hNt hLR hF5 hS5
   go_wp2_with fail
   refine Calls.mono (H5.out.2.2.2.2 _ (Below.refl _ _)) ?_
   rintro r w6 ⟨⟨x6, y6, rfl⟩, hF6, hS6⟩
   have hfin : Hid (FAt c w F told L (c.F (p, q)) (fun x => c.mu x < c.mu (p, q)) 10010 (.returned (.tuple #[.int .i64 x6, y6])) w6) := (by
    rw [H3.out.2.2.2.2.2]
    exact fin_put H.out.2.2.2.2.1 H3.out.2.1 H5.out.1 H5.out.2.1 H5.out.2.2.1 H5.out.2.2.2.1 (fun x (hx : c.mu x <= c.mu (q, p)) => Nat.lt_of_le_of_lt hx H3.out.2.2.2.1) hF6.out (by omega) : FAt c w F told L (c.F (p, q)) (fun x => c.mu x < c.mu (p, q)) 10010 (.returned (.tuple #[.int .i64 x6, y6])) w6)
   rcases sh_eq hS6.out with rfl | ⟨T, u, rfl⟩
   all_goals
    clear hF6 hS6 c0 c1 c2 c3
    go_wp2_with fail
    go_ret2
    exact hfin.out
  ·obtain ⟨n1, n2, n3, n4⟩ := hF5.out.no
   subst n2
   have H5 : Hid _ := And.intro n1 (And.intro n3 n4)
   clear n1 n3 n4 hF5 hS5
   go_wp2_with fail
   go_ret2
   refine .inr ⟨?_, _, rfl, H5.out.2.1, (Kept.of_below H3.out.2.1).trans H5.out.2.2⟩
   rw [H3.out.2.2.2.2.2]
   have := H5.out.1
   unfold Fm.size
   omega
end Di
namespace Di
open Go.RowKit Go.Maps
attribute [local go_sem ↓] Go.wp_at_zero Go.wp_at_succ
theorem form_all {c : Tk} (hTh : Th c.out c.rk c.m) (hRw : Rw c.m c.out) (hm : c.m <= 1000) : ∀ (n p q : Nat), c.mu (p, q) <= n -> p < c.m -> q < c.m -> 1 <= c.rk p q -> FOk c p q := fun n => by
 induction n with
 | zero =>
   intro p q hn hp hq hr
   exact form_of hp hq hm (reck_of hTh hRw hp hq hr fun p' q' _ _ _ h => absurd h (by omega))
 | succ n ih =>
   intro p q hn hp hq hr
   exact form_of hp hq hm (reck_of hTh hRw hp hq hr fun p' q' hp' hq' hr' h => ih p' q' (by omega) hp' hq' hr')
theorem form_any {c : Tk} (hTh : Th c.out c.rk c.m) (hRw : Rw c.m c.out) (hm : c.m <= 1000) {p q : Nat} (hp : p < c.m) (hq : q < c.m) (hr : 1 <= c.rk p q) : FOk c p q := form_all hTh hRw hm _ p q (Nat.le_refl _) hp hq hr
theorem fault_sent (a : Addr) (w : World) (hg : w.cell? ⟨4, 0, none⟩ = some (.iface 113 (.agg #[.pointer (some ⟨10, 32, none⟩)]))) : Calls Tryz.prog 19 #[.iface 269 (.pointer (some a))] w fun r w' => ∃ x, r = .returned x /\ Chain w' 0 0 a [disB] x /\ Below w.heap.size w w' := fault_lim a w hg
set_option maxRecDepth 100000 in
set_option maxHeartbeats 4000000 in
theorem apart_none {c : Tk} (aN : Addr) {p q : Nat} (hp : p < c.m) (hq : q < c.m) (hr : c.rk p q = -1) (w : World) (hS : c.St w) (hN : Sent w 1 aN) :
 Calls Tryz.prog 11 #[.pointer (some ⟨c.t, 0, none⟩), .int .i64 (p : Int), .int .i64 (q : Int)] w fun r w' => ∃ x, r = .returned (.tuple #[.int .i64 0, x]) /\ Chain w' 0 0 aN [disB] x /\ Below w.heap.size w w' := by
 obtain ⟨c0, c1, c2, c3⟩ := four_cellsD hS.1.box
 have e1 := hS.1.rks.tab p hp
 have e2 := hS.1.rks.cell hp hq
 rw [hr] at e2
 have q0 : (0 : Int) <= (p : Int) := by omega
 have q1 : (p : Int) < (c.m : Int) := by omega
 have q2 : (0 : Int) <= (q : Int) := by omega
 have q3 : (q : Int) < (c.m : Int) := by omega
 have hg := hN.1
 have hF := fun W (hb : Below w.heap.size w W) => fault_sent aN W ((hS.2.2.below hb).et)
 have H : Hid _ := hF
 clear hS hr hN hF
 go_enter Tryz.func11, Tryz.ntmps11
 go_wp2_with fail
 refine Calls.mono (H.out _ (by repeat (first | exact Below.refl _ _ | assumption | refine Below.drew ?_ | refine Below.setCell ?_ (by simp) _ | refine Below.alloc ?_ (by simp) _))) ?_
 rintro r w2 ⟨x, rfl, hC, hb⟩
 have H2 : Hid _ := And.intro hC hb
 obtain ⟨T, u, rfl⟩ := chain_iface hC
 clear hC hb
 go_wp2_with fail
 go_ret2
 exact ⟨_, rfl, H2.out.1, H2.out.2⟩
set_option maxRecDepth 100000 in
set_option maxHeartbeats 4000000 in
theorem apart_some {c : Tk} (hTh : Th c.out c.rk c.m) (hRw : Rw c.m c.out) (hm : c.m <= 1000) {p q : Nat} (hp : p < c.m) (hq : q < c.m) (hr : 1 <= c.rk p q) (w : World) (F : Nat -> Prop) (told : List (Nat × Nat)) (L : List Fm) (hT : Tw c w F told L) (hpot : c.pot told L + 10010 * c.mu (p, q) <= 10000000000) :
 Calls Tryz.prog 11 #[.pointer (some ⟨c.t, 0, none⟩), .int .i64 (p : Int), .int .i64 (q : Int)] w (FAt c w F told L (c.F (p, q)) (fun x => c.mu x <= c.mu (p, q)) 0) := by
 have hS := hT.st
 obtain ⟨c0, c1, c2, c3⟩ := four_cellsD hS.1.box
 have e1 := hS.1.rks.tab p hp
 have e2 := hS.1.rks.cell hp hq
 have hne : ¬ (c.rk p q = -1) := by omega
 have q0 : (0 : Int) <= (p : Int) := by omega
 have q1 : (p : Int) < (c.m : Int) := by omega
 have q2 : (0 : Int) <= (q : Int) := by omega
 have q3 : (q : Int) < (c.m : Int) := by omega
 have hFm := form_any hTh hRw hm hp hq hr w F told L hT hpot
 unfold prV at hFm
 have hFm := hFm.mono (R' := fun r w' => (∃ (x : Int) (y : Value), r = .returned (.tuple #[.int .i64 x, y])) /\ Hid (FAt c w F told L (c.F (p, q)) (fun x => c.mu x <= c.mu (p, q)) 0 r w') /\ Hid (Shp r)) fun r w' h => by
  obtain ⟨x, y, h1, h2⟩ := h.shp
  exact ⟨⟨x, y, h1⟩, up2 h, up2 ⟨x, y, h1, h2⟩⟩
 have H : Hid _ := hFm
 clear hFm hT hS hTh hRw hr hpot
 go_enter Tryz.func11, Tryz.ntmps11
 go_wp2_with fail
 refine Calls.mono H.out ?_
 rintro r w2 ⟨⟨x, y, rfl⟩, hF, hS⟩
 clear c0 c1 c2 c3 e1 e2
 rcases sh_eq hS.out with rfl | ⟨T, u, rfl⟩
 all_goals
  clear hS
  go_wp2_with fail
  go_ret2
  exact hF.out
theorem book_new {w4 : World} {B nm ge gs b : Nat} (hm : w4.ownsMap (H := Unit) Tryz.prog 108 (plainElem Tryz.prog 3) nm 0 (.map [])) (he : w4.heap[ge]? = some (.cells #[.int .i64 0, .int .i64 0, .int .i64 0, .int .i64 0] 108 (0, 0))) (hs : w4.heap[gs]? = some (.cells #[.int .i64 0] 3 (0, 0)))
 (hb : w4.heap[b]? = some (.cells #[.map (some nm), .slice (some ⟨ge, 0, none⟩) 1 1, .slice (some ⟨gs, 0, none⟩) 1 1] 77 (0, 0))) (h1 : B <= nm) (h2 : B <= ge) (h3 : B <= gs) (h4 : B <= b) : ∃ F, Bf w4 b [] F /\ ∀ i, F i -> B <= i := by
 have hS : BkS w4 b nm (.slice (some ⟨ge, 0, none⟩) 1 1) (.slice (some ⟨gs, 0, none⟩) 1 1) [] [0] := by
  refine ⟨hb, ⟨rfl, .inr ⟨ge, 1, _, rfl, Nat.zero_le _, he, by simp, by simp [maxLen], rfl, rfl⟩⟩, ?_, ⟨_, hm, MapE.nil⟩, rfl, fun e h => by simp at h, by simp, fun z hz => ?_⟩
  ·exact ⟨rfl, .inr ⟨gs, 1, _, rfl, Nat.zero_le _, hs, by simp, by simp [maxLen], rfl, rfl⟩⟩
  ·rw [List.mem_singleton.1 hz]; decide
 refine ⟨Foot b nm (.slice (some ⟨ge, 0, none⟩) 1 1) (.slice (some ⟨gs, 0, none⟩) 1 1), ⟨⟨⟨nm, _, _, hS, fun i hi => hi⟩, fun i hi => hS.foot_lt hi⟩, fun x hx => by simp at hx⟩, fun i hi => ?_⟩
 rcases hi with rfl | rfl | hi | hi
 ·exact h4
 ·exact h1
 ·exact (Option.some.inj hi) ▸ h2
 ·exact (Option.some.inj hi) ▸ h3
theorem new_book (w : World) : Calls Tryz.prog 21 #[] w fun r w' => ∃ (b : Nat) (F : Nat -> Prop), r = .returned (.pointer (some ⟨b, 0, none⟩)) /\ Bf w' b [] F /\ (∀ i, F i -> w.heap.size <= i) /\ Below w.heap.size w w' := by
 have hmm := @run_makeMap Tryz.prog
 go_enter Tryz.func21, Tryz.ntmps21
 go_wp2_with fail
 go_ret
 obtain ⟨w1, hw1⟩ : ∃ w1, w1 = w.alloc (.map #[] 0) := ⟨_, rfl⟩
 have s1 : w1.heap.size = w.heap.size + 1 := by rw [hw1]; simp
 have o1 := World.ownsMap_made (H := Unit) w Tryz.prog 108 (plainElem Tryz.prog 3)
 rw [<- hw1] at o1 ⊢
 obtain ⟨w2, hw2⟩ : ∃ w2, w2 = w1.alloc (.cells #[.int .i64 0, .int .i64 0, .int .i64 0, .int .i64 0] 108) := ⟨_, rfl⟩
 have s2 : w2.heap.size = w1.heap.size + 1 := by rw [hw2]; simp
 have h2 : w2.heap[w1.heap.size]? = some (.cells #[.int .i64 0, .int .i64 0, .int .i64 0, .int .i64 0] 108 (0, 0)) := by rw [hw2]; exact heap_alloc_new w1 _
 have b2 : Below w1.heap.size w1 w2 := by rw [hw2]; exact (Below.refl _ _).alloc (Nat.le_refl _) _
 rw [<- hw2]
 obtain ⟨w3, hw3⟩ : ∃ w3, w3 = w2.alloc (.cells #[.int .i64 0] 3) := ⟨_, rfl⟩
 have s3 : w3.heap.size = w2.heap.size + 1 := by rw [hw3]; simp
 have h3 : w3.heap[w2.heap.size]? = some (.cells #[.int .i64 0] 3 (0, 0)) := by rw [hw3]; exact heap_alloc_new w2 _
 have b3 : Below w2.heap.size w2 w3 := by rw [hw3]; exact (Below.refl _ _).alloc (Nat.le_refl _) _
 rw [<- hw3]
 have e1 : w.heap.size + 1 = w1.heap.size := s1.symm
 have e2 : w1.heap.size + 1 = w2.heap.size := s2.symm
 have e3 : w2.heap.size + 1 = w3.heap.size := s3.symm
 rw [e1, e2, e3]
 obtain ⟨w4, hw4⟩ : ∃ w4, w4 = w3.alloc (.cells #[.map (some w.heap.size), .slice (some ⟨w1.heap.size, 0, none⟩) 1 1, .slice (some ⟨w2.heap.size, 0, none⟩) 1 1] 77) := ⟨_, rfl⟩
 have h4 : w4.heap[w3.heap.size]? = some (.cells #[.map (some w.heap.size), .slice (some ⟨w1.heap.size, 0, none⟩) 1 1, .slice (some ⟨w2.heap.size, 0, none⟩) 1 1] 77 (0, 0)) := by rw [hw4]; exact heap_alloc_new w3 _
 have b4 : Below w3.heap.size w3 w4 := by rw [hw4]; exact (Below.refl _ _).alloc (Nat.le_refl _) _
 have b1 : Below w.heap.size w w1 := by rw [hw1]; exact (Below.refl _ _).alloc (Nat.le_refl _) _
 rw [<- hw4]
 have k3 := (b4.block _ (t_lt h3)).trans h3
 have k2 := (b4.block _ (by omega)).trans ((b3.block _ (t_lt h2)).trans h2)
 have k1 := map_at o1 ((b4.block _ (by omega)).trans ((b3.block _ (by omega)).trans (b2.block _ o1.lt)))
 obtain ⟨F, g1, g2⟩ := book_new (B := w.heap.size) k1 k2 k3 h4 (Nat.le_refl _) (by omega) (by omega) (by omega)
 exact ⟨w3.heap.size, F, rfl, g1, g2, ((b1.trans (b2.mono b1.size)).trans (b3.mono (by omega))).trans (b4.mono (by omega))⟩
end Di
section
open Go.RowKit Go.Maps
attribute [local go_sem ↓] Go.wp_at_zero Go.wp_at_succ
def repV (n c : Nat) : List Value := List.replicate c (.int .i64 (-1)) ++ List.replicate (n - c) (.int .i64 0)
theorem repV_len {n c : Nat} (h : c <= n) : (repV n c).length = n := by simp [repV]; omega
theorem repV_at {n c j : Nat} (h : j < c) : (repV n c)[j]? = some (.int .i64 (-1)) := by
 unfold repV
 rw [List.getElem?_append_left (by simpa using h), List.getElem?_replicate, if_pos h]
theorem arr_setCells {ty : TypeId} {w : World} {g : Nat} : ∀ (zs vs : List Value) (o : Nat) (wr : World), Arr ty w wr g vs -> Arr ty w (wr.setCells g o zs) g ((List.range zs.length).foldl (fun l j => l.set (o + j) ((zs[j]?).getD (.int .i64 0))) vs) := by
 intro zs
 induction zs with
 | nil => intro vs o wr h; exact h
 | cons z r ih =>
   intro vs o wr h
   have h1 := ih (vs.set o z) (o + 1) (wr.setCell ⟨g, o, none⟩ z) (h.set o z)
   show Arr ty w ((wr.setCell ⟨g, o, none⟩ z).setCells g (o + 1) r) g _
   rw [List.length_cons, List.range_succ_eq_map, List.foldl_cons, List.foldl_map]
   have e : (fun (l : List Value) (j : Nat) => l.set (o + (j + 1)) (((z :: r)[j + 1]?).getD (.int .i64 0))) = fun l j => l.set (o + 1 + j) ((r[j]?).getD (.int .i64 0)) := by
    funext l j
    rw [show o + (j + 1) = o + 1 + j by omega]
    rfl
   rw [show (fun (l : List Value) (j : Nat) => l.set (o + j.succ) (((z :: r)[j.succ]?).getD (.int .i64 0))) = _ from e]
   simpa using h1
theorem repV_fill (n c : Nat) : ∀ d, c + d <= n -> (List.range d).foldl (fun l j => l.set (c + j) (((List.replicate d (Value.int .i64 (-1)))[j]?).getD (.int .i64 0))) (repV n c) = repV n (c + d) := by
 intro d hd
 suffices h : ∀ q, q <= d -> (List.range q).foldl (fun l j => l.set (c + j) (((List.replicate d (Value.int .i64 (-1)))[j]?).getD (.int .i64 0))) (repV n c) = repV n (c + q) from h d (Nat.le_refl _)
 intro q
 induction q with
 | zero => intro _; rfl
 | succ q ih =>
   intro hq
   rw [List.range_succ, List.foldl_append, ih (by omega), List.foldl_cons, List.foldl_nil, List.getElem?_replicate, if_pos (by omega)]
   apply List.ext_getElem?
   intro j
   rw [List.getElem?_set]
   unfold repV
   simp only [Option.getD_some]
   by_cases hj : c + q = j
   ·subst hj
    rw [if_pos rfl, if_pos (by simp; omega), List.getElem?_append_left (by simp), List.getElem?_replicate, if_pos (by omega)]
   ·rw [if_neg hj]
    by_cases h1 : j < c + q
    ·rw [List.getElem?_append_left (by simpa using h1), List.getElem?_append_left (by simp; omega), List.getElem?_replicate, List.getElem?_replicate, if_pos h1, if_pos (by omega)]
    ·rw [List.getElem?_append_right (by simp; omega), List.getElem?_append_right (by simp; omega), List.getElem?_replicate, List.getElem?_replicate]
     simp only [List.length_replicate]
     by_cases h2 : j < n
     ·rw [if_pos (by omega), if_pos (by omega)]
     ·rw [if_neg (by omega), if_neg (by omega)]
theorem Arr.rep {w wr : World} {g n c : Nat} (h : Arr 3 w wr g (repV n c)) (d : Nat) (hd : c + d <= n) : Arr 3 w (wr.setCells g c (List.replicate d (.int .i64 (-1)))) g (repV n (c + d)) := by
 have h1 := arr_setCells (List.replicate d (.int .i64 (-1))) _ c wr h
 rw [List.length_replicate, repV_fill n c d hd] at h1
 exact h1
theorem Tryz.inI : (Tryz.prog.info? 3).map (·.size) = some 1 := by kernel_rfl
set_option maxRecDepth 100000 in
set_option maxHeartbeats 4000000 in
theorem repeat_any (g0 n : Nat) (w : World) (hn : n <= 1000000) (h0 : w.cell? ⟨g0, 0, none⟩ = some (.int .i64 (-1))) :
 Calls Tryz.prog 38 #[.slice (some ⟨g0, 0, none⟩) 1 1, .int .i64 n] w fun r w' => ∃ g, r = .returned (.slice (some ⟨g, 0, none⟩) n n) /\ Arr 3 w w' g (List.replicate n (.int .i64 (-1))) := by
 have hMul : ∀ W, Calls Tryz.prog 57 #[.int .u64 1, .int .u64 n] W fun e w' => e = .returned (.tuple #[.int .u64 0, .int .u64 n]) /\ w' = W := fun W => by
  have h := Tryz.bits_Mul 1 n (by omega) (by omega) W
  have e1 : 1 * n / 18446744073709551616 = 0 := by omega
  have e2 : 1 * n % 18446744073709551616 = n := by omega
  rw [e1, e2] at h
  exact h
 have hmk := makeI n hn w
 obtain ⟨w1, hw1⟩ : ∃ w1, w1 = w.alloc (.cells (madeV (.int .i64 0) n) 3) := ⟨_, rfl⟩
 have hA1 := arr_new 3 (.int .i64 0) rfl n w
 rw [<- hw1] at hmk hA1
 have hA1 : Arr 3 w w1 w.heap.size (repV n 0) := by unfold repV; simpa using hA1
 have h1 := cell_up h0 hA1.bl
 obtain ⟨w2, hc2, hA2⟩ : ∃ w2, (∀ ty, (Builtin.copy_ #[39, 39] ty #[.slice (some ⟨w.heap.size, 0, none⟩) n n, .slice (some ⟨g0, 0, none⟩) 1 1]).run Tryz.prog w1 = .ok (.int .i64 ((min n 1 : Nat) : Int)) w2) /\ Arr 3 w w2 w.heap.size (repV n (min n 1)) := by
  by_cases hz : n = 0
  ·subst hz
   exact ⟨w1, fun ty => run_copy_none (P := Tryz.prog) w1 _ _ ty 3 _ _ 0 0 1 1 Tryz.underlying39 Tryz.inI (by decide), hA1⟩
  ·have e1 : min n 1 = 1 := by omega
   rw [e1]
   refine ⟨w1.setCells w.heap.size 0 (List.replicate 1 (.int .i64 (-1))), fun ty => ?_, by have := hA1.rep 1 (by omega); simpa using this⟩
   have h := run_copy_cells (P := Tryz.prog) w1 39 39 ty 3 w.heap.size 0 n n ⟨g0, 0, none⟩ 1 1 (List.replicate 1 (.int .i64 (-1))) Tryz.underlying39 Tryz.inI (by show 1 = Nat.min 1 n; exact (Nat.min_eq_left (by omega)).symm) (fun j x hx => by
    have hj : j = 0 := by have := (List.getElem?_eq_some_iff.1 hx).1; simpa using this
    subst hj
    have hx2 : x = .int .i64 (-1) := by simpa using hx.symm
    rw [hx2]; exact h1) (fun j hj => by
    have hj0 : j = 0 := by simpa using hj
    subst hj0
    obtain ⟨x, hx⟩ : ∃ x, (repV n 0)[0]? = some x := ⟨_, List.getElem?_eq_getElem (by rw [repV_len (Nat.zero_le _)]; omega)⟩
    rw [hA1.cell hx]; rfl) (fun j _ => hA1.free _) (fun v hv => by rw [List.eq_of_mem_replicate hv]; rfl)
   exact h
 have u1 : IntKind.u64.wrap (n : Int) = (n : Int) := by rw [IntKind.wrap_u64]; omega
 have u2 : IntKind.i64.wrap (n : Int) = (n : Int) := by rw [IntKind.wrap_i64]; omega
 have q1 : ¬ (n : Int) < 0 := by omega
 have q2 : ¬ (9223372036854775807 : Int) < (n : Int) := by omega
 have HM : Hid _ := And.intro hMul (And.intro hA2 hw1)
 clear hMul hA1 hA2 hw1 h0 h1
 go_enter Tryz.func38, Tryz.ntmps38
 go_wp2_with (go_at_call 57; refine Calls.mono (HM.out.1 _) ?_; rintro r w9 ⟨rfl, hw9⟩; obtain rfl := hw9.symm; clear hw9)
 go_loopg [8] (n - min n 1) (fun q cv wr => ∃ c : Nat, q = n - c /\ c <= n /\ (n = 0 \/ 0 < c) /\ cv = .int .i64 c /\ Arr 3 w wr w.heap.size (repV n c))
 case atStart => exact ⟨min n 1, rfl, Nat.min_le_left _ _, by omega, rfl, HM.out.2.1⟩
 case round =>
  obtain ⟨c, rfl, hcn, hpos, rfl, hA⟩ := hrel
  clear hmk hc2
  by_cases hlt : c < n
  ·obtain ⟨d, hd⟩ : ∃ d, d = min c (n - c) := ⟨_, rfl⟩
   have hd1 : d <= n - c := by omega
   have hd2 : 0 < d := by omega
   have hd3 : d <= c := by omega
   have hAd : Arr 3 w wr.drew w.heap.size (repV n c) := hA.below (Below.refl _ _).drew
   have hcp : ∀ ty, (Builtin.copy_ #[39, 39] ty #[.slice (some ⟨w.heap.size, c, none⟩) (n - c) (n - c), .slice (some ⟨w.heap.size, 0, none⟩) c n]).run Tryz.prog wr.drew = .ok (.int .i64 ((d : Nat) : Int)) (wr.drew.setCells w.heap.size c (List.replicate d (.int .i64 (-1)))) := fun ty => by
    have h := run_copy_cells (P := Tryz.prog) wr.drew 39 39 ty 3 w.heap.size c (n - c) (n - c) ⟨w.heap.size, 0, none⟩ c n (List.replicate d (.int .i64 (-1))) Tryz.underlying39 Tryz.inI (by rw [List.length_replicate, hd]) (fun j x hx => by
     have hj : j < d := by have := (List.getElem?_eq_some_iff.1 hx).1; simpa using this
     have hx2 : x = .int .i64 (-1) := by rw [List.getElem?_replicate, if_pos hj] at hx; exact (Option.some.inj hx).symm
     rw [hx2, addz]
     exact hAd.cell (repV_at (by omega))) (fun j hj => by
     rw [List.length_replicate] at hj
     obtain ⟨x, hx⟩ : ∃ x, (repV n c)[c + j]? = some x := ⟨_, List.getElem?_eq_getElem (by rw [repV_len hcn]; omega)⟩
     rw [hAd.cell hx]; rfl) (fun j _ => hAd.free _) (fun v hv => by rw [List.eq_of_mem_replicate hv]; rfl)
    rw [List.length_replicate] at h
    exact h
   have hA3 := hAd.rep d (by omega)
   have p0 : (0 : Int) <= (c : Int) := by omega
   have p1 : (c : Int) < (n : Int) := by omega
   have p2 : (c : Int) <= (n : Int) := by omega
   have p3 : ¬ n = c := by omega
   have H3 : Hid _ := hA3
   clear hA hAd hA3 hd
   go_wp2_with fail
   go_region
   all_goals go_wp2_with fail
   all_goals
    go_roundg (n - (c + d))
    case measure => omega
    case rel => exact ⟨c + d, rfl, by omega, by omega, by go_num, by first | exact H3.out | exact H3.out.below (Below.refl _ _).drew⟩
  ·obtain rfl : c = n := by omega
   have p1 : ¬ (c : Int) < (c : Int) := by omega
   have H3 : Hid _ := hA
   clear hA
   go_wp2_with fail
   go_ret
   refine ⟨_, rfl, ?_⟩
   have h9 := H3.out
   unfold repV at h9
   simpa using h9
end
section
open Go.RowKit Go.Maps
def Ro.putAt (O : List Int) (k : Nat) (v : Int) : List Int := O.take k ++ v :: O.drop k
end
section
open Go.RowKit Go.Maps
attribute [local go_sem ↓] Go.wp_at_zero Go.wp_at_succ
end
section
open Go.RowKit Go.Maps
end
section
open Go.RowKit Go.Maps
def Ro.keys (n : Nat) (out : Nat -> List Ro.St) (c : List Nat) : List (Int × List Int) := (List.range n).map (Ro.key out c)
def Ro.sgn (out : Nat -> List Ro.St) (c : List Nat) (j : Nat) : List Int := Ro.sd (Ro.ends 1001 c (out j))
theorem makeRI (n : Nat) (hn : n <= 1000000) (w : World) : (Instr.makeSlice 52 (.int .i64 (n : Int)) (.int .i64 (n : Int))).run Tryz.prog w = .ok (.slice (some ⟨w.heap.size, 0, none⟩) n n) (w.alloc (.cells (madeV (.slice none 0 0) n) 39)) := make_of _ _ _ 24 Tryz.underlying52 Tryz.infoRI n hn (by decide) w
structure NxAt (w wr : World) (n i r : Nat) (out : Nat -> List Ro.St) (c : List Nat) (fv : Value) (Fn : List Nat) : Prop where
 cls : Arr 3 w wr w.heap.size (natC (Ro.num ((Ro.keys n out c).take i)) ++ List.replicate (n - i) (.int .i64 0))
 sg : ∃ vs, Arr 39 w wr (w.heap.size + 1) vs /\ vs.length = n /\ ∀ j, j < r -> ∃ u, vs[j]? = some u /\ OwnI wr (w.heap.size + 2) u (Ro.sgn out c j) /\ ∀ b, u.ownBlock = some b -> fv.ownBlock ≠ some b
 fst : OwnI wr (w.heap.size + 2) fv (natI Fn)
structure FsAt (n i : Nat) (out : Nat -> List Ro.St) (c : List Nat) (Fn : List Nat) : Prop where
 fe : Ro.dd ((Ro.keys n out c).take i) = Fn.map (Ro.key out c)
 fl : ∀ f ∈ Fn, f < i
end
section
open Go.RowKit Go.Maps Go.Shelf
structure RrAt (w2 wr : World) (m i : Nat) (us : List Value) (rb : Nat -> Nat) : Prop where
 arr : Arr 39 w2 wr w2.heap.size us
 len : us.length = m
 tab : ∀ p, p < i -> us[p]? = some (.slice (some ⟨rb p, 0, none⟩) m m)
 row : ∀ p, p < i -> ∃ cs : Array Value, wr.heap[rb p]? = some (.cells cs 3 (0, 0)) /\ cs.toList = (List.range m).map fun _ => Value.int .i64 (-1)
 ne : ∀ p q, p < i -> q < i -> rb p = rb q -> p = q
 lo : ∀ p, p < i -> w2.heap.size + 2 <= rb p
theorem RrAt.step {w2 w4 w5 w6 : World} {m i g : Nat} {us : List Value} {rb : Nat -> Nat} (h : RrAt w2 w4 m i us rb) (hi : i < m) (hbig : w2.heap.size + 2 <= w4.heap.size) (hb : Below w4.heap.size w4 w5) (hA : Arr 3 w5 w6 g (List.replicate m (.int .i64 (-1)))) : RrAt w2 (w6.setCell ⟨w2.heap.size, i, none⟩ (.slice (some ⟨g, 0, none⟩) m m)) m (i + 1) (us.set i (.slice (some ⟨g, 0, none⟩) m m)) (fun p => if p = i then g else rb p) := by
 have hb46 := bel6 hA.bl hb
 have hgl := Nat.le_trans hb.size hA.gu
 have hr : ∀ p, p < i -> rb p < w4.heap.size := fun p hp => by obtain ⟨cs, h1, _⟩ := h.row p hp; exact t_lt h1
 refine ⟨(h.arr.below hb46).set i _, by simp [h.len], fun p hp => ?_, fun p hp => ?_, fun p q hp hq => ?_, fun p hp => ?_⟩
 ·by_cases e : p = i
  ·rw [if_pos e, e, List.getElem?_set_self (by rw [h.len]; omega)]
  ·rw [if_neg e, List.getElem?_set_ne (fun e2 => e e2.symm)]
   exact h.tab p (by omega)
 ·by_cases e : p = i
  ·rw [if_pos e]
   obtain ⟨cs, h1, h2⟩ := hA.ids
   refine ⟨cs, (set_other _ _ _ _ _ (by omega)).trans h1, ?_⟩
   rw [h2]
   apply List.ext_getElem?
   intro j
   by_cases hj : j < m <;> simp [hj]
  ·rw [if_neg e]
   obtain ⟨cs, h1, h2⟩ := h.row p (by omega)
   have := h.lo p (by omega)
   exact ⟨cs, (set_other _ _ _ _ _ (by omega)).trans (res_up6 hb46 h1), h2⟩
 ·by_cases e : p = i <;> by_cases e2 : q = i
  ·intro _; omega
  ·rw [if_pos e, if_neg e2]; intro h3; have := hr q (by omega); omega
  ·rw [if_neg e, if_pos e2]; intro h3; have := hr p (by omega); omega
  ·rw [if_neg e, if_neg e2]; exact h.ne p q (by omega) (by omega)
 ·by_cases e : p = i
  ·rw [if_pos e]; omega
  ·rw [if_neg e]; exact h.lo p (by omega)
theorem RrAt.done {w2 wr : World} {m : Nat} {us : List Value} {rb : Nat -> Nat} (h : RrAt w2 wr m m us rb) (out : Nat -> List Ro.St) : RkAt wr w2.heap.size m rb (rkT m out 0) :=
 ⟨fun p hp => h.arr.cell (h.tab p hp), fun p hp => h.row p hp, h.ne, fun p hp => by have := h.lo p hp; omega⟩
end
section
open Go.RowKit Go.Maps Go.Shelf
attribute [local go_sem] Oper.semAt_some
attribute [local go_sem ↓] Go.wp_at_zero Go.wp_at_succ
theorem blk_own (b : Nat) (cs : Array Value) (t : TypeId) (fr : Nat × Nat) : Own (fun (_ : List Rd) W => W.heap[b]? = some (.cells cs t fr)) := fun s W W' row hs hg hr => by
 have h1 : some b ≠ row := fun e => by
  obtain ⟨o, ho, hoc⟩ := hr b e.symm
  rw [hs] at ho
  cases ho
  cases hoc
 exact (hg.block b (t_lt hs) h1).trans hs
theorem callsIn_round {l n : Nat} {P : Program} {f : FuncId} {args : Array Value} {w : World} {R : Ending -> World -> Prop} (h : Calls P f args w R) : CallsIn (Fence.wide.inRound l) n P f args w R := (callsIn_wide (n := n)).2 h
def strictM (Q : Exit -> Act -> World -> Prop) : Exit -> Act -> World -> Prop
 | .normal, a, w => Q .normal a w
 | .ret, a, w => Q .ret a w
 | _, _, _ => False
theorem strictM_of {Q : Exit -> Act -> World -> Prop} : ∀ e a w, strictM Q e a w -> Q e a w := fun e a w h => by
 cases e <;> first | exact h | exact h.elim
set_option linter.unusedSimpArgs false in
set_option maxRecDepth 100000 in
set_option maxHeartbeats 8000000 in
theorem ranks_ok2 (hS : SortOk 1000000) (m : Nat) (k s : Int) (v : Value) (es : List Sy.Ed) (a : Addr) (w : World) (hA : Sent w 5 a) (hP : Pow w) (hv : BEdges.Has w v es) (hm : es.length <= 100000) (hq : Sy.right m k s es = true) (hm3 : m <= 300) :
 Calls Tryz.prog 20 #[sysV m k s v] w fun r w' => ∃ T rb R, r = .returned (.tuple #[.slice (some ⟨T, 0, none⟩) m m, .nilIface]) /\ Ro.Last m (outOf m es) R /\ RkAt w' T m rb (rkT m (outOf m es) (R + 1)) /\ Below w.heap.size w w' /\ (∃ cs : Array Value, w'.heap[T]? = some (.cells cs 39 (0, 0)) /\ cs.size = m) /\ w.heap.size <= T /\ ∀ p, p < m -> w.heap.size <= rb p := by
 have hv0 := hv
 obtain ⟨ao, cap, rfl, _⟩ := hv0
 obtain ⟨L, hL⟩ : ∃ L, L = es.length := ⟨_, rfl⟩
 obtain ⟨w1, hw1⟩ : ∃ w1, w1 = w.alloc (.cells #[.int .i64 m, .int .i64 k, .int .i64 s, .slice ao L cap] 27) := ⟨_, rfl⟩
 have hb1 : Below w.heap.size w w1 := by rw [hw1]; exact (Below.refl _ _).alloc (Nat.le_refl _) _
 have hg1 : w1.heap[w.heap.size]? = some (.cells #[.int .i64 m, .int .i64 k, .int .i64 s, .slice ao L cap] 27 (0, 0)) := by rw [hw1]; exact heap_alloc_new w _
 have hN := roundsOf_ok hS m k s _ es a w1 (hA.below hb1) (hv.below hb1) hm hq
 rw [<- hL] at hN ⊢
 unfold sysV at hN ⊢
 have hF := steps_fit hq
 obtain ⟨out, hout⟩ : ∃ out, out = outOf m es := ⟨_, rfl⟩
 have H1 : Hid _ := And.intro hw1 (And.intro hb1 (And.intro hN (And.intro hP (And.intro hF (And.intro hout hg1)))))
 obtain ⟨x0, x1, x2, x3⟩ := four_cells hg1
 clear hA hv hm hq hw1 hb1 hg1 hN hL hP hF hout
 refine (callsIn_wide (n := 3)).1 ?_
 refine callsIn_of_wp_marks Tryz.func20 rfl trivial ?_ rfl
 simp only [Tryz.ntmps20, List.size_toArray, List.length_cons, List.length_nil, Nat.reduceAdd, Nat.reduceSub, Array.replicate_succ, Array.replicate_zero, List.push_toArray, List.append_toArray, List.nil_append, List.cons_append]
 refine wpIn_wide.2 (Code.wp_mono strictM_of ?_)
 go_upto_region 1 with fail
 rw [<- H1.out.1]
 go_wp2_with fail
 refine Calls.mono H1.out.2.2.1 ?_
 rintro r w2 ⟨b1, b2, gs, rfl, hO2⟩
 unfold roundsV
 have hP2 := H1.out.2.2.2.1.below (bel6 hO2.bl H1.out.2.1)
 have hRd := Reads.of hO2 hP2
 have hb02 := bel6 hO2.bl H1.out.2.1
 have hg2 := res_up6 hO2.bl H1.out.2.2.2.2.2.2
 have y0 : w2.cell? ⟨w.heap.size, 0, none⟩ = some (.int .i64 m) := cell0_of hg2 rfl
 have H2 : Hid _ := And.intro hRd (And.intro hb02 hg2)
 have g3 : decide ((300 : Int) < (m : Int)) = false := decide_eq_false (by omega)
 have g4 : ¬ (300 : Int) < (m : Int) := by omega
 have hmk := makeRI m (by omega) w2
 obtain ⟨w3, hw3⟩ : ∃ w3, w3 = (w2.alloc (.cells (madeV (.slice none 0 0) m) 39)).alloc (.cells #[.slice (some ⟨w2.heap.size, 0, none⟩) m m] 52) := ⟨_, rfl⟩
 have hb3 : Below w2.heap.size w2 w3 := by rw [hw3]; exact ((Below.refl _ _).alloc (Nat.le_refl _) _).alloc (by simp) _
 have hbx : w3.heap[w2.heap.size + 1]? = some (.cells #[.slice (some ⟨w2.heap.size, 0, none⟩) m m] 52 (0, 0)) := by
  rw [hw3]
  have h := heap_alloc_new (w2.alloc (.cells (madeV (.slice none 0 0) m) 39)) (.cells #[.slice (some ⟨w2.heap.size, 0, none⟩) m m] 52)
  rw [World.size_alloc] at h
  exact h
 have hA3 : Arr 39 w2 w3 w2.heap.size (List.replicate m (.slice none 0 0)) := by
  rw [hw3]
  exact (arr_new 39 (.slice none 0 0) rfl m w2).below ((Below.refl _ _).alloc (Nat.le_refl _) _)
 have H3 : Hid _ := And.intro hw3 (And.intro hbx hA3)
 have e1 : (w2.alloc (.cells (madeV (.slice none 0 0) m) 39)).heap.size = w2.heap.size + 1 := by simp
 clear hO2 hP2 hRd hb02 hg2 x0 x1 x2 x3 hw3 hb3 hbx hA3
 go_upto_region 7 with fail
 rw [<- H3.out.1]
 have z0 : w3.cell? ⟨w2.heap.size + 1, 0, none⟩ = some (.slice (some ⟨w2.heap.size, 0, none⟩) m m) := cell0_of H3.out.2.1 rfl
 clear hmk y0 e1
 go_wp2_with fail
 clear z0
 go_loopg [31] m (fun q iv wr => ∃ (i : Nat) (us : List Value) (rb : Nat -> Nat), q = m - i /\ i <= m /\ iv = .int .i64 i /\ RrAt w2 wr m i us rb /\ wr.heap[w2.heap.size + 1]? = some (.cells #[.slice (some ⟨w2.heap.size, 0, none⟩) m m] 52 (0, 0)))
 case atStart => exact ⟨0, _, fun _ => 0, rfl, Nat.zero_le _, rfl, ⟨H3.out.2.2, by simp, fun j hj => by omega, fun j hj => by omega, fun j _ hj => by omega, fun j hj => by omega⟩, H3.out.2.1⟩
 case round =>
  obtain ⟨i, us, rb, rfl, hi, rfl, hT, hbx⟩ := hrel
  obtain ⟨w4, rfl⟩ : ∃ w4, w4 = wr := ⟨_, rfl⟩
  by_cases hlt : i < m
  ·have p0 : (0 : Int) <= (i : Int) := by omega
   have p1 : (i : Int) < (m : Int) := by omega
   have y0 : w4.cell? ⟨w2.heap.size + 1, 0, none⟩ = some (.slice (some ⟨w2.heap.size, 0, none⟩) m m) := cell0_of hbx rfl
   have hgs := res_up6 hT.arr.bl H2.out.2.2
   have y1 : w4.cell? ⟨w.heap.size, 0, none⟩ = some (.int .i64 m) := cell0_of hgs rfl
   have hbig : w2.heap.size + 2 <= w4.heap.size := by have := t_lt hbx; omega
   have hws : w.heap.size < w2.heap.size := t_lt H2.out.2.2
   obtain ⟨ux, hux⟩ : ∃ ux, us[i]? = some ux := ⟨us[i]'(by have := hT.len; omega), List.getElem?_eq_getElem _⟩
   obtain ⟨w5, hw5⟩ : ∃ w5, w5 = (w4.alloc (.cells #[.int .i64 (-1)] 3)).drew := ⟨_, rfl⟩
   have hb5 : Below w4.heap.size w4 w5 := by rw [hw5]; exact ((Below.refl _ _).alloc (Nat.le_refl _) _).drew
   have hRp := repeat_any w4.heap.size m w5 (by omega) (by rw [hw5]; exact cell0_of (heap_alloc_new w4 _) rfl)
   have HT : Hid _ := And.intro hT (And.intro hbx (And.intro hRp (And.intro hux (And.intro hb5 (And.intro hbig (And.intro hgs hw5))))))
   clear hT hbx hRp hux hb5 hgs hbig hw5
   go_upto_region 10 with fail
   refine wp_region_held_drew (S := (fun w' => (w'.cell? ⟨w2.heap.size + 1, 0, none⟩ = some (.slice (some ⟨w2.heap.size, 0, none⟩) m m) /\ w'.cell? ⟨w.heap.size, 0, none⟩ = some (.int .i64 m)) /\ Hid (w'.heap[w2.heap.size + 1]? = some (.cells #[.slice (some ⟨w2.heap.size, 0, none⟩) m m] 52 (0, 0))))) (by kernel_rfl) ?_ (fun hHeld => ?_)
   ·exact ⟨⟨y0, y1⟩, HT.out.2.1⟩
   refine tk8 0 rfl ?_; (try simp only [ty9, Act.put])
   refine tk8 1 rfl ?_; (try simp only [ty9, Act.put])
   refine tk8 3 rfl ?_; (try simp only [ty9, Act.put])
   refine tk8 4 rfl ?_; (try simp only [ty9, Act.put])
   refine wpAnyH_ready (rs := [2]) (by kernel_rfl) (by simp) ?_
   refine AllReadyH.cons (o := _) rfl (fun K hK => ?_) ?_
   ·(go_simp; rw [<- HT.out.2.2.2.2.2.2.2])
    (try go_wp2_with fail)
    refine hK.out _ _ ?_ (fun hHeld => ?_)
    ·exact ⟨⟨cell_up y0 HT.out.2.2.2.2.1, cell_up y1 HT.out.2.2.2.2.1⟩, res_up6 HT.out.2.2.2.2.1 HT.out.2.1⟩
    clear hK K
    (try simp only [ty9, Act.put])
    refine wpAnyH_ready (rs := [5]) (by kernel_rfl) (by simp) ?_
    refine AllReadyH.cons (o := _) rfl (fun K hK => ?_) ?_
    ·(go_simp; go_at_call 38; refine Calls.mono HT.out.2.2.1 ?_; rintro r w6 ⟨g6, rfl, hA6⟩; have hb46 := bel6 hA6.bl HT.out.2.2.2.2.1; have H6 : Hid _ := And.intro hA6 (And.intro hb46 (HT.out.1.arr.below hb46)); clear hA6; have cx := H6.out.2.2.cell HT.out.2.2.2.1; have cf := H6.out.2.2.free i)
     (try go_wp2_with fail)
     refine hK.out _ _ ?_ (fun hHeld => ?_)
     ·exact ⟨⟨cell_up y0 hb46, cell_up y1 hb46⟩, res_up6 hb46 HT.out.2.1⟩
     clear hK K
     (try simp only [ty9, Act.put])
     clear hb46
     refine tk8 6 rfl ?_; (try simp only [ty9, Act.put])
     refine wpAnyH_ready (rs := [7]) (by kernel_rfl) (by simp) ?_
     refine AllReadyH.cons (o := _) rfl (fun K hK => ?_) ?_
     ·(go_simp)
      (try go_wp2_with fail)
      refine hK.out _ _ ?_ (fun hHeld => ?_)
      ·exact ⟨⟨(cell_block (setCell_other _ (show w2.heap.size + 1 ≠ w2.heap.size by omega))).trans hHeld.1.1, (cell_block (setCell_other _ (show w.heap.size ≠ w2.heap.size by omega))).trans hHeld.1.2⟩, (setCell_other _ (show w2.heap.size + 1 ≠ w2.heap.size by omega)).trans hHeld.2.out⟩
      clear hK K
      (try simp only [ty9, Act.put])
      refine wpAnyH_done (by kernel_rfl) ?_ _
      (try go_simp)
      have H7 : Hid _ := hHeld.2.out
      go_wp2_with fail
      go_roundg (m - (i + 1))
      case measure => omega
      case rel => exact ⟨i + 1, _, _, rfl, by omega, by go_num, HT.out.1.step hlt HT.out.2.2.2.2.2.1 HT.out.2.2.2.2.1 H6.out.1, H7.out⟩
     exact AllReadyH.nil
    exact AllReadyH.nil
   exact AllReadyH.nil
  ·obtain rfl : i = m := by omega
   have p1 : ¬ (i : Int) < (i : Int) := by omega
   have HT : Hid _ := And.intro hT hbx
   clear hT hbx
   go_wp2_with fail
   have hF := H1.out.2.2.2.2.1
   have hR := H2.out.1
   rw [<- H1.out.2.2.2.2.2.1] at hF hR
   have hb24 := HT.out.1.arr.bl
   have hrb : ∀ p, p < i -> rb p < w4.heap.size := fun p hp => by obtain ⟨cs, h1, _⟩ := HT.out.1.row p hp; exact t_lt h1
   have hsz : w2.heap.size <= w4.heap.size := hb24.size
   obtain ⟨ct, hct, hctl⟩ := HT.out.1.arr.ids
   refine (wpIn_wide (n := 3)).1 ?_
   refine loop_tells rfl (by omega) (gf := 54) (lb := #[.pointer (some ⟨b1, 0, none⟩), .pointer (some ⟨b2, 0, none⟩)]) rfl trivial (enters_of Tryz.func54 (by kernel_rfl) rfl)
    (rounds_tell 2 w2.heap.size b1 b2 gs i out w4 hsz (by omega) hF (hR.on hb24)) (fun h k => h.trans k) (kpr_put hsz) (fun pre x W l o o' _ hl ho h => good_put pre x W l o o' hl ho h) (Below.refl _ _) (fun _ => rfl)
    (fun pre W => (RkAt W w2.heap.size i rb (rkT i out pre.length) /\ ∃ cs t fr, W.heap[w2.heap.size]? = some (.cells cs t fr)) /\ W.heap[w2.heap.size + 1]? = some (.cells #[.slice (some ⟨w2.heap.size, 0, none⟩) i i] 52 (0, 0)) /\ W.heap[w2.heap.size]? = some (.cells ct 39 (0, 0)) /\ Below w2.heap.size w2 W)
    (fun _ _ _ => False)
    (OwnFrom.and (Own.from (rk_own w2.heap.size i rb (fun pre => rkT i out pre.length)) _) (OwnFrom.and (Own.from (blk_own _ _ _ _) _) (OwnFrom.and (Own.from (blk_own _ _ _ _) _) (ownFrom_below (Nat.le_refl _) hsz))))
    (fun _ _ _ _ _ hs _ _ => hs)
    ⟨⟨HT.out.1.done out, by obtain ⟨cs, h1, _⟩ := HT.out.1.arr.ids; exact ⟨cs, _, _, h1⟩⟩, HT.out.2, hct, hb24⟩
    ?fr ?assign ?body ?done ?stop
   case assign =>
    intro l x W K hK
    unfold rdV
    gi_wp2
    exact hK
   case body =>
    rintro l pre x W ⟨⟨hRk, hTc⟩, hbx, hct', hB⟩ hG
    have c1 : W.cell? ⟨w2.heap.size + 1, 0, none⟩ = some (.slice (some ⟨w2.heap.size, 0, none⟩) i i) := cell0_of hbx rfl
    obtain ⟨cs, hcs, hcl⟩ := hG.blk
    have hNt := note_any w2.heap.size i x.2 x.1 rb _ (Ro.rnd i out x.1) cs W (by omega) (Ro.rnd_len _ _ _) hRk hcs hcl (fun p hp e => by have := hrb p hp; have := hG.gu; omega)
    have HN : Hid _ := And.intro hNt (And.intro hTc (And.intro hbx (And.intro hB (And.intro hG (And.intro hRk hct')))))
    clear hRk hTc hbx hB hG hcs hcl hNt hct'
    gi_wp2
    refine ⟨trivial, (callsIn_round HN.out.1).mono ?_⟩
    rintro r W6 ⟨⟨vr, rfl⟩, hNt⟩
    have H6 : Hid _ := And.intro hNt.tb hNt.kp
    clear hNt
    gi_wp2
    have hlo : ∀ p, p < i -> w2.heap.size + 2 <= rb p := HT.out.1.lo
    have hkp := H6.out.2
    have far : ∀ (b : Nat) (o : Obj), W.heap[b]? = some o -> (∀ p, p < i -> b ≠ rb p) -> W6.heap[b]? = some o := fun b o ho hne => (hkp.block b (t_lt ho) fun ⟨p, hp, e⟩ => hne p hp e).trans ho
    have hbl : Below w2.heap.size W W6 := hkp.below HN.out.2.2.2.1.size fun b ⟨p, hp, e⟩ => by have := hlo p hp; omega
    refine ⟨⟨hkp.size, fun b o _ ho hc => far b o ho fun p hp e => ?_⟩, ⟨hbl, fun b cs hb hc => far b _ hc fun p hp e => by have := hrb p hp; omega⟩, ⟨⟨H6.out.1.congr fun p q _ _ => ?_, ?_⟩, ?_, ?_, HN.out.2.2.2.1.trans hbl⟩⟩
    ·obtain ⟨cs, h1, _⟩ := HN.out.2.2.2.2.2.1.row p hp
     rw [e, h1] at ho
     cases ho
     cases hc
    ·rw [HN.out.2.2.2.2.1.num, rkT_succ]
     simp
    ·obtain ⟨ct, tt, fr, h1⟩ := HN.out.2.1
     exact ⟨ct, tt, fr, far _ _ h1 fun p hp e => by have := hlo p hp; omega⟩
    ·exact far _ _ HN.out.2.2.1 fun p hp e => by have := hlo p hp; omega
    ·exact far _ _ HN.out.2.2.2.2.2.2 fun p hp e => by have := hlo p hp; omega
   case done =>
    rintro D xs W hD ⟨R, hRl, hxl⟩ ⟨⟨hRk, _⟩, hbx, hct', hB⟩ hK
    have c1 : W.cell? ⟨w2.heap.size + 1, 0, none⟩ = some (.slice (some ⟨w2.heap.size, 0, none⟩) i i) := cell0_of hbx rfl
    have HD : Hid _ := And.intro hRk (And.intro hB (And.intro hRl (And.intro hxl hct')))
    clear hRk hB hRl hxl hbx hct'
    go_wp2_with fail
    show bodyPostM _ _ _ _ _ Exit.ret _ _
    refine ⟨by simp, .inl ⟨_, _, rfl, run_takeDeferred hK, ?_⟩⟩
    refine ⟨_, results_tmp2 rfl _ _ _, w2.heap.size, rb, R, rfl, by rw [<- H1.out.2.2.2.2.2.1]; exact HD.out.2.2.1, ?_, ?_, ⟨ct, ?_, ?_⟩, ?_, fun p hp => ?_⟩
    ·have h1 := HD.out.1
     rw [HD.out.2.2.2.1, H1.out.2.2.2.2.2.1] at h1
     refine ⟨fun p hp => ?_, fun p hp => ?_, h1.ne, h1.tn⟩
     ·exact cell_kept (h1.tab p hp) (grownBy_putObj' _ D (.deferred none)) (fun r e => by cases e; exact ⟨_, hK, rfl⟩)
     ·obtain ⟨cs, h2, h3⟩ := h1.row p hp
      have hne : rb p ≠ D := fun e => by rw [e, hK] at h2; cases h2
      exact ⟨cs, (World.putObj_heap_other hne).trans h2, h3⟩
    ·exact bel6 (HD.out.2.1.trans (belowK_b (w := w2) (Nat.le_refl _) W D _ _ (by omega) hK rfl rfl)) H2.out.2.1
    ·have h9 := HD.out.2.2.2.2
     have hne : w2.heap.size ≠ D := fun e => by rw [e, hK] at h9; cases h9
     exact (World.putObj_heap_other hne).trans h9
    ·rw [<- Array.length_toList, hctl]; exact HT.out.1.len
    ·exact H2.out.2.1.size
    ·have h9 := HT.out.1.lo p hp
     have h8 := H2.out.2.1.size
     omega
   case stop =>
    rintro D c pre W _ _ h _
    exact h.elim
end
end Go.Proofs.YtgehimdkdeldaabGreatDoor
