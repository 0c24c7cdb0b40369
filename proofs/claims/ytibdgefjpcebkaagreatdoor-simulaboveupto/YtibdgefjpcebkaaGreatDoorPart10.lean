/- Texts of this claim, joined: SmBel, SmLea, SyOne0, SyNum, BSame, SyEq, SyCls, SmCls, SmAl, SmLw0, SmLw1, SmBad, SmIdx, HaSml, SmGd, BookInts1. -/
import Derived.Test.YtibdgefjpcebkaaGreatDoorPart9
import Derived.Test.YtibdgefjpcebkaaGreatDoorPart7
import Derived.Sort.CutIn
import Derived.Test.YtibdgefjpcebkaaGreatDoorPart5
import Derived.Maps.OwnSet
import Derived.WalkSmall
import Derived.Test.YtibdgefjpcebkaaGreatDoorPart0
import Derived.Deep.QuietTactic
import Derived.BigQuiet
import Derived.Deep.LoopGhost
import Derived.Test.YtibdgefjpcebkaaGreatDoorPart2
import Derived.Test.YtibdgefjpcebkaaGreatDoorPart1
namespace Go.Proofs.YtibdgefjpcebkaaGreatDoor
section
open Go.RowKit Go.Maps
attribute [local go_sem ↓] Go.wp_at_zero Go.wp_at_succ
set_option linter.unusedSimpArgs false in
set_option maxRecDepth 100000 in
set_option maxHeartbeats 4000000 in
theorem mbelow_ok (hS : SortOk 1000000) (m kk p q : Nat) (s : Int) (v : Value) (es : List Sy.Ed) (a : Addr) (w : World) (hA : Sent w 14 a) (hT : TabW w) (hv : BEdges.Has w v es) (hm : es.length ≤ 100000) (hq : Sy.right m kk s es = true) (hn : m ≤ 300) (hp : p < m) (hqm : q < m) :
    Calls Tryz.prog 18 #[sysV m kk s v, .int .i64 p, .int .i64 q] w fun r w' => ∃ b, r = .returned (.tuple #[.bool b, .nilIface]) ∧ (b = true ↔ Sm.Sims (EE es) p q) ∧ Below w.heap.size w w' := by
  have hv0 := hv
  obtain ⟨ao, cap, rfl, _⟩ := hv0
  obtain ⟨L, hL⟩ : ∃ L, L = es.length := ⟨_, rfl⟩
  obtain ⟨w1, hw1⟩ : ∃ w1, w1 = w.alloc (.cells #[.int .i64 m, .int .i64 kk, .int .i64 s, .slice ao L cap] 24) := ⟨_, rfl⟩
  have hb1 : Below w.heap.size w w1 := by rw [hw1]; exact (Below.refl _ _).alloc (Nat.le_refl _) _
  have hg1 : w1.heap[w.heap.size]? = some (.cells #[.int .i64 m, .int .i64 kk, .int .i64 s, .slice ao L cap] 24 (0, 0)) := by rw [hw1]; exact heap_alloc_new w _
  have hN := aboveOf_ok hS m kk s _ es a w1 (hA.below hb1) (hT.below hT.lt hb1) (hv.below hb1) hm hq hn
  rw [← hL] at hN ⊢
  unfold sysV at hN ⊢
  obtain ⟨x0, x1, x2, x3⟩ := four_cells9 hg1
  have H1 : Hid _ := And.intro hN (And.intro hb1 hw1)
  have g5 : ¬ min (p : Int) (q : Int) < 0 := by omega
  have g6 : ¬ (m : Int) ≤ max (p : Int) (q : Int) := by omega
  have g7 : (0 : Int) ≤ (p : Int) := by omega
  have g8 : (p : Int) < (m : Int) := by omega
  clear hA hT hv hm hq hN hb1 hw1 hL
  go_enter Tryz.func18, Tryz.ntmps18
  go_upto_region 1 with fail
  rw [← H1.out.2.2]
  go_wp2_with (go_at_call 25; refine Calls.mono H1.out.1 ?_; rintro r2 w2 ⟨ga, ra, A, rfl, hAb⟩; have H2 : Hid (AbAt w1 w2 m (Br.wds m) es ga ra A) := hAb; have y0 := cell_up x0 hAb.bl; have y1 := hAb.r.lst.cell hp; unfold Lc.v rowV at y1; have hHs := hasRow_any (ra p).b (ra p).o (Br.wds m) (ra p).c q (A p) w2 (by unfold Br.wds; omega) (by unfold Br.wds; omega) (hAb.r.row p hp); unfold rowV at hHs; have H3 : Hid _ := hHs; clear hAb hHs)
  refine Calls.mono H3.out ?_
  rintro r3 w3 ⟨rfl, hw3⟩
  obtain rfl := hw3.symm
  clear hw3
  go_wp2_with fail
  go_ret2
  exact ⟨_, rfl, H2.out.sim p q hp hqm, H1.out.2.1.trans (H2.out.bl.mono H1.out.2.1.size)⟩
end
section
open Go.RowKit Go.Maps Go.Shelf
attribute [local go_sem] Oper.semAt_some
def leaS (A : Nat → Nat → Bool) (n p : Nat) : Nat := ((Br.els (A p) n).find? fun q => A q p).getD p
theorem lea_hit {A : Nat → Nat → Bool} {n p x : Nat} (hx : x < n) (hs : A p x = true) (ha : A x p = true) (hno : ∀ z ∈ Br.els (A p) x, A z p = false) : leaS A n p = x := by
  unfold leaS
  have e : ∃ r, Br.els (A p) n = Br.els (A p) x ++ x :: r := by
    obtain ⟨k, rfl⟩ : ∃ k, n = x + 1 + k := ⟨n - x - 1, by omega⟩
    clear hx
    induction k with
    | zero => exact ⟨[], by rw [Nat.add_zero, Br.els_next (Nat.le_refl x) (fun z h1 h2 => by omega) hs]⟩
    | succ k ih =>
      obtain ⟨r, hr⟩ := ih
      cases h : A p (x + 1 + k) with
      | true => exact ⟨r ++ [x + 1 + k], by rw [show x + 1 + (k + 1) = x + 1 + k + 1 by omega, Br.els_next (Nat.le_refl _) (fun z h1 h2 => by omega) h, hr]; simp⟩
      | false => exact ⟨r, by rw [show x + 1 + (k + 1) = x + 1 + k + 1 by omega, Br.els_skip (k := x + 1 + k) (by omega) (fun z h1 h2 => by obtain rfl : x + 1 + k = z := (by omega); exact h), hr]⟩
  obtain ⟨r, hr⟩ := e
  rw [hr, List.find?_append, List.find?_eq_none.2 (fun z hz => by rw [hno z hz]; simp)]
  simp [ha]
theorem lea_none {A : Nat → Nat → Bool} {n p : Nat} (hno : ∀ z ∈ Br.els (A p) n, A z p = false) : leaS A n p = p := by
  unfold leaS
  rw [List.find?_eq_none.2 (fun z hz => by rw [hno z hz]; simp)]
  rfl
set_option linter.unusedSimpArgs false in
set_option maxRecDepth 100000 in
set_option maxHeartbeats 8000000 in
theorem leastOf_any {w0 w : World} {n d ga p : Nat} {es : List Sy.Ed} {ra : Nat → Lc} {A : Nat → Nat → Bool} (hd : d = Br.wds n) (hn : n ≤ 1000) (h : AbAt w0 w n d es ga ra A) (hT : TabW w) (hp : p < n) :
    Calls Tryz.prog 29 #[.slice (some ⟨ga, 0, none⟩) n n, .int .i64 p] w fun r w' => r = .returned (.int .i64 (leaS A n p : Nat)) ∧ Below w.heap.size w w' := by
  have hdd : d ≤ 10000 := by rw [hd]; unfold Br.wds; omega
  have hn64 : n ≤ 64 * d := by rw [hd]; unfold Br.wds; omega
  have c0 := h.r.lst.cell hp
  have H0 : Hid (AbAt w0 w n d es ga ra A ∧ TabW w) := ⟨h, hT⟩
  have q0 : (0 : Int) ≤ (p : Int) := by omega
  have q1 : (p : Int) < (n : Int) := by omega
  clear h hT hd
  unfold Lc.v rowV at c0
  refine (callsIn_wide (n := 3)).1 ?_
  refine callsIn_of_wp_marks Tryz.func29 rfl trivial ?_ rfl
  simp only [Tryz.ntmps29, List.size_toArray, List.length_cons, List.length_nil, Nat.reduceAdd, Nat.reduceSub, Array.replicate_succ, Array.replicate_zero, List.push_toArray, List.append_toArray, List.nil_append, List.cons_append]
  gi_upto_region 1 with fail
  obtain ⟨w3, hw3⟩ : ∃ w3, w3 = ((w.alloc (.cells #[.slice (some ⟨ga, 0, none⟩) n n] 70)).alloc (.cells #[.int .i64 p] 3)).alloc (.cells #[.int .i64 0] 3) := ⟨_, rfl⟩
  have hz3 : w3.heap.size = w.heap.size + 3 := by rw [hw3]; simp
  have hb3 : Below w.heap.size w w3 := by rw [hw3]; exact (((Below.refl _ w).alloc (Nat.le_refl _) _).alloc (by simp) _).alloc (by simp; omega) _
  have hx2 : Boxed w3 w.heap.size 70 (.slice (some ⟨ga, 0, none⟩) n n) := by rw [hw3]; exact ((Boxed.new w _ _).alloc _).alloc _
  have hx3 : Boxed w3 (w.heap.size + 1) 3 (.int .i64 p) := by
    rw [hw3]
    have := Boxed.new (w.alloc (.cells #[.slice (some ⟨ga, 0, none⟩) n n] 70)) 3 (.int .i64 p)
    rw [World.size_alloc] at this
    exact this.alloc _
  have hx4 : Boxed w3 (w.heap.size + 1 + 1) 3 (.int .i64 0) := by
    rw [hw3]
    have := Boxed.new ((w.alloc (.cells #[.slice (some ⟨ga, 0, none⟩) n n] 70)).alloc (.cells #[.int .i64 p] 3)) 3 (.int .i64 0)
    rw [World.size_alloc, World.size_alloc] at this
    exact this
  rw [← hw3]
  have c0 := cell_up c0 hb3
  have d2 := hx2.cell
  have d3 := hx3.cell
  have hA := allRow_any (ra p).b (ra p).o d (ra p).c w3
  unfold rowV allV at hA
  rw [hz3] at hA
  have H3 : Hid (Boxed w3 w.heap.size 70 (.slice (some ⟨ga, 0, none⟩) n n) ∧ Boxed w3 (w.heap.size + 1) 3 (.int .i64 p) ∧ Boxed w3 (w.heap.size + 1 + 1) 3 (.int .i64 0) ∧ Below w.heap.size w w3) := ⟨hx2, hx3, hx4, hb3⟩
  have HA : Hid _ := hA
  clear hw3 hx2 hx3 hx4 hb3 hA
  gi_wp2
  refine ⟨trivial, (callsIn_wide.2 HA.out).mono ?_⟩
  rintro e w6 ⟨rfl, hw6⟩
  have hz6 : w6.heap.size = w.heap.size + 4 := by rw [hw6]; simp; omega
  have hb36 : Below w3.heap.size w3 w6 := by rw [hw6]; exact (Below.refl _ _).alloc (Nat.le_refl _) _
  have hxb : w6.cell? ⟨w.heap.size + 3, 0, none⟩ = some (rowV (ra p).b (ra p).o d (ra p).c) := by
    rw [hw6]
    have := (Boxed.new w3 75 (.slice (some ⟨(ra p).b, (ra p).o, none⟩) d (ra p).c)).cell
    rw [hz3] at this
    exact this
  have hb6 : Below w.heap.size w w6 := H3.out.2.2.2.trans (hb36.mono H3.out.2.2.2.size)
  have lbl := (H0.out.1.r.row p hp).lt
  have ltb := H0.out.2.lt
  have hb4 : Boxed w6 (w.heap.size + 1 + 1) 3 (.int .i64 0) := by
    have h1 : w3.heap[w.heap.size + 1 + 1]? = some (.cells #[.int .i64 0] 3 (0, 0)) := H3.out.2.2.1
    exact (hb36.block _ (t_lt h1)).trans h1
  have H6 : Hid (Below w.heap.size w w6 ∧ (w6.cell? ⟨w.heap.size, 0, none⟩ = some (.slice (some ⟨ga, 0, none⟩) n n) ∧ w6.cell? ⟨w.heap.size + 1, 0, none⟩ = some (.int .i64 p) ∧ Boxed w6 (w.heap.size + 1 + 1) 3 (.int .i64 0)) ∧ w6.cell? ⟨w.heap.size + 3, 0, none⟩ = some (rowV (ra p).b (ra p).o d (ra p).c)) :=
    ⟨hb6, ⟨cell_up H3.out.1.cell hb36, cell_up H3.out.2.1.cell hb36, hb4⟩, hxb⟩
  clear hw6 hb36 hxb hb6 HA H3 hb4 c0 d2 d3
  gi_wp2
  refine loop_tells rfl (by omega) (gf := 87) (lb := #[.pointer (some ⟨w.heap.size + 3, 0, none⟩)]) rfl trivial (enters_of Tryz.func87 (by kernel_rfl) rfl)
    (row_tells 2 (ra p).b (ra p).o d (ra p).c (w.heap.size + 3) (A p) w6 hdd H6.out.2.2 ((H0.out.1.r.row p hp).below H6.out.1) (H0.out.2.below H0.out.2.lt H6.out.1)) (fun h k => h.trans k) (fun W l o o' hl _ _ _ => KpB.put (B := w.heap.size + 4) (by omega) (by omega) (by omega) W l o' (by omega)) (fun pre x W l o o' _ hl ho h => h) (Below.refl _ _) (fun _ => rfl)
    (fun pre W => (∀ z ∈ pre, A z p = false) ∧ Below w6.heap.size w6 W)
    (fun c pre W => (c = .ret ∧ W.cell? ⟨w.heap.size + 1 + 1, 0, none⟩ = some (.int .i64 (leaS A n p : Nat))) ∧ Below w.heap.size w W)
    (fun s A B row hs hg hr => ⟨hs.1, ownFrom_below (β := Unit) (Nat.le_refl _) (Nat.le_refl _) () A B row hs.2 hg hr⟩)
    (fun c s A B row hs hg hr => ⟨⟨hs.1.1, cell_kept hs.1.2 hg (fun r e => (hr r e).2)⟩, ownFrom_below (β := Unit) (Nat.le_refl _) H6.out.1.size () A B row hs.2 hg hr⟩)
    ⟨fun z hz => by simp at hz, Below.refl _ _⟩
    (fun x => { tmps := #[.slice (some ⟨ga, 0, none⟩) n n, .int .i64 p, (.pointer (some ⟨w.heap.size, 0, none⟩)), (.pointer (some ⟨w.heap.size + 1, 0, none⟩)), (.pointer (some ⟨w.heap.size + 1 + 1, 0, none⟩)), .int .i64 x, .slice (some ⟨ga, 0, none⟩) n n, .int .i64 p, (.pointer (some ⟨ga, p, none⟩)), .slice (some ⟨(ra p).b, (ra p).o, none⟩) d (ra p).c, (.func (.func 87) #[] #[.pointer (some ⟨w.heap.size + 3, 0, none⟩)]), .int .i64 x, undef, undef, undef, undef, undef, undef, undef, undef], defers := [] }) ?assign ?body ?done ?stop
  case assign =>
    intro l x W K hK
    gi_wp2
    exact hK
  case body =>
    rintro l pre x W ⟨hpre, hB⟩ ⟨hG, hx, hxs⟩
    have hxn := H0.out.1.bd p x hxs
    have hBw : Below w.heap.size w W := H6.out.1.trans (hB.mono (by omega))
    have hAW := H0.out.1.below hBw
    have c2 := cell_up H6.out.2.1.1 hB
    have c3 := cell_up H6.out.2.1.2.1 hB
    have h4 : Boxed W (w.heap.size + 1 + 1) 3 (.int .i64 0) := by
      have h1 : w6.heap[w.heap.size + 1 + 1]? = some (.cells #[.int .i64 0] 3 (0, 0)) := H6.out.2.1.2.2
      exact (hB.block _ (t_lt h1)).trans h1
    have c4 := h4.cell
    have f4 := h4.frozen
    have c1 := hAW.r.lst.cell hxn
    have hHs := fun W' (hb : Below W.heap.size W W') => hasRow_any (ra x).b (ra x).o d (ra x).c p (A x) W' hdd (by omega) ((hAW.r.row x hxn).below hb)
    obtain ⟨bl, hbl⟩ : ∃ bl, bl = A x p := ⟨_, rfl⟩
    rw [← hbl] at hHs
    have HW : Hid _ := And.intro hHs (And.intro hbl (And.intro hpre (And.intro hB (And.intro hBw (And.intro hG (And.intro hxs h4))))))
    have q2 : (0 : Int) ≤ (x : Int) := by omega
    have q3 : (x : Int) < (n : Int) := by omega
    clear hHs hbl hpre hB hBw hG hxs h4 hAW
    unfold Lc.v rowV at c1
    unfold rowV at HW
    gi_wp2
    refine region_held_round (S := (fun w' => (w'.cell? ⟨w.heap.size, 0, none⟩ = some (.slice (some ⟨ga, 0, none⟩) n n) ∧ w'.cell? ⟨w.heap.size + 1, 0, none⟩ = some (.int .i64 p) ∧ w'.cell? ⟨ga, x, none⟩ = some (.slice (some ⟨(ra x).b, (ra x).o, none⟩) d (ra x).c)) ∧ Hid True)) (by kernel_rfl) (by kernel_rfl) (by rintro ⟨a9, w9, h9⟩; exact h9) ?_ (fun hHeld => ?_)
    · exact ⟨⟨c2, c3, c1⟩, trivial⟩
    refine wpAnyH_take (i := 0) (oi := _) (v := ?_) rfl (by kernel_rfl) (by kernel_rfl) (by kernel_rfl) (fun _ _ _ h => h) (Or.inl ⟨by rfl, ?_⟩) (by assumption) ?_; rotate_left; (focus (intro w hSw; (try dsimp only at hSw); go_simp; (try with_reducible rfl))); (try simp only [List.getElem_toArray, List.getElem_cons_succ, List.getElem_cons_zero, Act.put, List.setIfInBounds_toArray, List.set_cons_zero, List.set_cons_succ])
    refine wpAnyH_take (i := 1) (oi := _) (v := ?_) rfl (by kernel_rfl) (by kernel_rfl) (by kernel_rfl) (fun _ _ _ h => h) (Or.inl ⟨by rfl, ?_⟩) (by assumption) ?_; rotate_left; (focus (intro w hSw; (try dsimp only at hSw); go_simp; (try with_reducible rfl))); (try simp only [List.getElem_toArray, List.getElem_cons_succ, List.getElem_cons_zero, Act.put, List.setIfInBounds_toArray, List.set_cons_zero, List.set_cons_succ])
    refine wpAnyH_take (i := 2) (oi := _) (v := ?_) rfl (by kernel_rfl) (by kernel_rfl) (by kernel_rfl) (fun _ _ _ h => h) (Or.inl ⟨by rfl, ?_⟩) (by assumption) ?_; rotate_left; (focus (intro w hSw; (try dsimp only at hSw); go_simp; (try with_reducible rfl))); (try simp only [List.getElem_toArray, List.getElem_cons_succ, List.getElem_cons_zero, Act.put, List.setIfInBounds_toArray, List.set_cons_zero, List.set_cons_succ])
    refine wpAnyH_take (i := 3) (oi := _) (v := ?_) rfl (by kernel_rfl) (by kernel_rfl) (by kernel_rfl) (fun _ _ _ h => h) (Or.inl ⟨by rfl, ?_⟩) (by assumption) ?_; rotate_left; (focus (intro w hSw; (try dsimp only at hSw); go_simp; (try with_reducible rfl))); (try simp only [List.getElem_toArray, List.getElem_cons_succ, List.getElem_cons_zero, Act.put, List.setIfInBounds_toArray, List.set_cons_zero, List.set_cons_succ])
    refine wpAnyH_take (i := 4) (oi := _) (v := ?_) rfl (by kernel_rfl) (by kernel_rfl) (by kernel_rfl) (fun _ _ _ h => h) (Or.inl ⟨by rfl, ?_⟩) (by assumption) ?_; rotate_left; (focus (intro w hSw; (try dsimp only at hSw); go_simp; (try with_reducible rfl))); (try simp only [List.getElem_toArray, List.getElem_cons_succ, List.getElem_cons_zero, Act.put, List.setIfInBounds_toArray, List.set_cons_zero, List.set_cons_succ])
    refine wpAnyH_ready (rs := [5]) (by kernel_rfl) (by simp) ?_
    refine AllReadyH.cons (o := _) rfl (fun K hK => ?_) ?_
    · (go_simp; go_at_call 35; refine Calls.mono (HW.out.1 _ (Below.refl _ _).drew) ?_; rintro r3 w3 ⟨rfl, hw3⟩; obtain rfl := hw3.symm; clear hw3)
      (try go_wp2_with fail)
      refine hK.out _ _ ?_ (fun hHeld => ?_)
      · exact ⟨⟨c2, c3, c1⟩, trivial⟩
      clear hK K
      (try simp only [List.getElem_toArray, List.getElem_cons_succ, List.getElem_cons_zero, Act.put, List.setIfInBounds_toArray, List.set_cons_zero, List.set_cons_succ])
      refine wpAnyH_done (by kernel_rfl) ?_ _
      (try go_simp)
      clear hHeld
      cases bl
      · gi_wp2
        refine ⟨(KeepsFrom.of_below (Below.refl _ _).drew), fun g hg i v hv => hv, ⟨fun z hz => ?_, HW.out.2.2.2.1.trans ((Below.refl _ _).drew.mono (HW.out.2.2.2.1.size))⟩⟩
        rcases List.mem_append.1 hz with h1 | h1
        · exact HW.out.2.2.1 z h1
        · rw [List.mem_singleton.1 h1]; exact HW.out.2.1.symm
      · gi_wp2
        refine ⟨?_, ⟨rfl, ?_⟩, ?_⟩
        · exact ((KeepsOthers.drew _).trans (KeepsOthers.setCell _ _ _)).from _
        · rw [lea_hit hxn HW.out.2.2.2.2.2.2.1 HW.out.2.1.symm (fun z hz => HW.out.2.2.1 z (by rw [HW.out.2.2.2.2.2.1]; exact hz))]
          exact World.cell?_setCell_same' _ _ _ (by show (W.cell? _).isSome = true; rw [c4]; rfl)
        · exact (HW.out.2.2.2.2.1.drew).setCell (p := ⟨w.heap.size + 1 + 1, 0, none⟩) (by simp; omega) _
    exact AllReadyH.nil
  case done =>
    rintro D xs W hD rfl ⟨hno, hB⟩ hKD
    have c3 := cell_up H6.out.2.1.2.1 hB
    have h4 : Boxed W (w.heap.size + 1 + 1) 3 (.int .i64 0) := by
      have h1 : w6.heap[w.heap.size + 1 + 1]? = some (.cells #[.int .i64 0] 3 (0, 0)) := H6.out.2.1.2.2
      exact (hB.block _ (t_lt h1)).trans h1
    have c4 := h4.cell
    have f4 := h4.frozen
    have HW : Hid _ := And.intro hno (And.intro hB h4)
    clear hno hB h4
    gi_wp2
    obtain ⟨W9, hW9⟩ : ∃ W9, W9 = W.setCell ⟨w.heap.size + 1 + 1, 0, none⟩ (.int .i64 p) := ⟨_, rfl⟩
    have hK9 : W9.heap[D]? = some (.deferred (some [])) := by
      rw [hW9]
      exact (KeepsOthers.setCell _ _ _).same D _ hKD rfl
    have k5 : W9.cell? ⟨w.heap.size + 1 + 1, 0, none⟩ = some (.int .i64 p) := by
      rw [hW9]
      exact World.cell?_setCell_same' _ _ _ (by rw [c4]; rfl)
    have hB9 : Below w.heap.size w W9 := by
      rw [hW9]
      exact (H6.out.1.trans (HW.out.2.1.mono (by omega))).setCell (p := ⟨w.heap.size + 1 + 1, 0, none⟩) (by simp; omega) _
    rw [← hW9]
    refine ⟨by simp, .inl ⟨_, _, rfl, run_takeDeferred hK9, ?_⟩⟩
    have k5' := cell_kept k5 (grownBy_putObj' _ D (.deferred none)) (fun r e => by cases e; exact ⟨_, hK9, rfl⟩)
    refine ⟨.int .i64 p, ?_, ?_, ?_⟩
    · simp [results, Tryz.f29, go_sem, k5']
    · rw [lea_none (fun z hz => HW.out.1 z (by rw [H0.out.1.els hn64]; exact hz))]
    · exact hB9.trans (belowK_b (w := w) (Nat.le_refl _) W9 D _ _ (by omega) hK9 rfl rfl)
  case stop =>
    rintro D c pre W hD _ ⟨⟨rfl, k5⟩, hB⟩ hKD
    gi_wp2
    refine ⟨by simp, .inl ⟨_, _, rfl, run_takeDeferred hKD, ?_⟩⟩
    have k5' := cell_kept k5 (grownBy_putObj' _ D (.deferred none)) (fun r e => by cases e; exact ⟨_, hKD, rfl⟩)
    refine ⟨.int .i64 (leaS A n p : Nat), ?_, rfl, ?_⟩
    · simp [results, Tryz.f29, go_sem, k5']
    · exact hB.trans (belowK_b (w := w) (Nat.le_refl _) W D _ _ (by omega) hKD rfl rfl)
end
namespace Sy
theorem place_at {c : Int} {l : List Int} (h : c ∈ l) : l[place c l]? = some c := by
  induction l with
  | nil => simp at h
  | cons a r ih =>
    unfold place
    by_cases h1 : a = c
    · simp [h1]
    · rw [if_neg h1, List.getElem?_cons_succ]
      exact ih ((List.mem_cons.1 h).elim (fun e => absurd e.symm h1) id)
def more (c : Int) (seen : List Int) : List Int := if place c seen < seen.length then seen else seen ++ [c]
end Sy
section
open Go.RowKit Go.Maps
attribute [local go_sem ↓] Go.wp_at_zero Go.wp_at_succ
structure MapI (D : DataW Unit) (ns : List Int) : Prop where
  yes : ∀ (i : Nat) (z : Int), ns[i]? = some z → Maps.has D (.int .i64 z) = true ∧ D.atKey (.int .i64 z) (.lit (.int .i64 0)) = .lit (.int .i64 i)
  no : ∀ z : Int, z ∉ ns → Maps.has D (.int .i64 z) = false
  size : Maps.size D = ns.length
theorem MapI.nil : MapI (.map []) [] := ⟨fun i s h => by simp at h, fun s _ => rfl, rfl⟩
theorem ikey_inj {a b : Int} (h : Lit.int .i64 a = Lit.int .i64 b) : a = b := by injection h
theorem MapI.snoc {D : DataW Unit} {ns : List Int} (h : MapI D ns) (hD : IsMap D) (hT : Tidy D) (s : Int) (hs : s ∉ ns) : MapI (D.put (.int .i64 s) (.lit (.int .i64 ns.length))) (ns ++ [s]) := by
  refine ⟨fun i t ht => ?_, fun t ht => ?_, ?_⟩
  · rcases Nat.lt_or_ge i ns.length with hi | hi
    · rw [List.getElem?_append_left hi] at ht
      have hne : Lit.int .i64 t ≠ Lit.int .i64 s := fun e => hs (ikey_inj e ▸ List.mem_of_getElem? ht)
      rw [has_put_other hne, atKey_put_other hne]
      exact h.yes i t ht
    · rw [List.getElem?_append_right hi] at ht
      have hi0 : i - ns.length = 0 := by
        have := (List.getElem?_eq_some_iff.1 ht).1
        simp at this; omega
      rw [hi0] at ht
      simp at ht
      subst ht
      have : i = ns.length := by omega
      subst this
      have hk : WideAt.IsKeyLit (.int .i64 s) := trivial
      exact ⟨has_put_same hD hk _, atKey_put_same hD hk _ _⟩
  · have hne : Lit.int .i64 t ≠ Lit.int .i64 s := fun e => ht (by rw [ikey_inj e]; simp)
    rw [has_put_other hne]
    exact h.no t fun hm => ht (by simp [hm])
  · rw [size_put hT, h.no s hs]
    simp [h.size]
theorem Sy.place_mem {z : Int} {l : List Int} : Sy.place z l < l.length ↔ z ∈ l := by
  induction l with
  | nil => simp [Sy.place]
  | cons a r ih =>
    unfold Sy.place
    by_cases h : a = z
    · simp [h]
    · have h2 : z ≠ a := fun e => h e.symm
      simp [h, h2, ← ih]
theorem Sy.place_no {z : Int} {l : List Int} (h : z ∉ l) : Sy.place z l = l.length := by
  have h1 := Sy.place_le z l
  have h2 : ¬ Sy.place z l < l.length := fun e => h (Sy.place_mem.1 e)
  omega
theorem Tryz.lawI7 : Keyed Tryz.prog 3 := int_keyed Tryz.underlying3
theorem Tryz.zeroI7 (w : World) : (zeroValue 3).run Tryz.prog w = .ok (.int .i64 0) w := by kernel_rfl
structure NumAt (w wr : World) (zs : List Int) (n i : Nat) (D : DataW Unit) (seen : List Int) : Prop where
  arr : Arr 3 w wr (w.heap.size + 1) (natC (Sy.canonG [] (zs.take i)) ++ List.replicate (n - i) (.int .i64 0))
  own : wr.ownsMap (H := Unit) Tryz.prog 3 (plainElem Tryz.prog 3) w.heap.size seen.length D
  map : MapI D seen
theorem Sy.top_canonG (l : List Int) : ∀ seen : List Int, max seen.length (Sy.top (Sy.canonG seen l)) = (Sy.seenG seen l).length := by
  induction l with
  | nil => intro seen; simp [Sy.canonG, Sy.top, Sy.seenG]
  | cons c r ih =>
    intro seen
    simp only [Sy.canonG, Sy.top, Sy.seenG]
    rw [← ih]
    have h1 := Sy.place_le c seen
    split <;> (try simp) <;> omega
theorem Sy.together_eq (zs : List Int) : Sy.together zs = (Sy.seenG [] zs).length := by
  rw [← Sy.top_canonG zs []]
  simp [Sy.together, Sy.canon]
theorem arr_mapTurn {w wr w3 : World} {gi : Nat} {vs : List Value} {bm : Nat} (h : Arr 3 w wr gi vs) (hg : wr.grownBy w3 (some bm)) (hb : w.heap.size ≤ bm) (hne : bm ≠ gi) : Arr 3 w w3 gi vs :=
  h.kept (Kept.of_grown hg) fun b e => by injection e with e; subst e; exact ⟨hb, hne⟩
theorem num_step {w w3 w4 : World} {zs : List Int} {n i k : Nat} {D2 : DataW Unit} {seen s2 : List Int} {z : Int} (hz : zs[i]? = some z) (hi : i < n) (hn : n = zs.length) (hs : seen = Sy.seenG [] (zs.take i)) (hA : Arr 3 w w3 (w.heap.size + 1) (natC (Sy.canonG [] (zs.take i)) ++ List.replicate (n - i) (.int .i64 0)))
    (hk : k = Sy.place z seen) (h4 : w4 = w3.setCell ⟨w.heap.size + 1, i, none⟩ (.int .i64 (k : Int))) (ho : w3.ownsMap (H := Unit) Tryz.prog 3 (plainElem Tryz.prog 3) w.heap.size s2.length D2) (hm : MapI D2 s2) :
    NumAt w w4 zs n (i + 1) D2 s2 := by
  subst h4
  have hC : (Sy.canonG [] (zs.take i)).length = i := by rw [Sy.canonG_len, List.length_take]; omega
  have hAs := hA.set i (.int .i64 (k : Int))
  rw [natC_step _ n i k hC hi] at hAs
  refine ⟨?_, ho.setCell (by simp) _, hm⟩
  rw [Sy.canon_step hz, ← hs, ← hk]
  exact hAs
set_option maxRecDepth 100000 in
set_option maxHeartbeats 8000000 in
theorem numbered_any (v : Value) (zs : List Int) (w : World) (hv : HasI w v zs) (hn : zs.length ≤ 100000) (hw : I64s zs) :
    Calls Tryz.prog 89 #[v] w fun e w' => ∃ u, e = .returned (.tuple #[u, .int .i64 (Sy.together zs : Nat)]) ∧ OwnI w' w.heap.size u (natI (Sy.canon zs)) ∧ Below w.heap.size w w' := by
  obtain ⟨ao, cap, rfl, hcs⟩ := hv
  obtain ⟨n, hN⟩ : ∃ n, n = zs.length := ⟨_, rfl⟩
  have HH : Hid _ := And.intro hcs (And.intro hN hw)
  rw [← hN] at hn ⊢
  clear hcs hN hw
  have hmm := @run_makeMap Tryz.prog
  have hmk := makeI n (by omega) (w.alloc (.map #[] 0))
  go_enter Tryz.func89, Tryz.ntmps89
  go_wp2_with fail
  clear hmk hmm
  go_loopg [16] n (fun q iv wr => ∃ (i : Nat) (D : DataW Unit) (seen : List Int), q = n - i ∧ i ≤ n ∧ iv = .int .i64 i ∧ seen = Sy.seenG [] (zs.take i) ∧ NumAt w wr zs n i D seen)
  case atStart =>
    refine ⟨0, .map [], [], rfl, Nat.zero_le _, rfl, by simp [Sy.seenG], ?_, ?_, MapI.nil⟩
    · have h1 := arr_new 3 (.int .i64 0) rfl n (w.alloc (.map #[] 0))
      have h2 := h1.back ((Below.refl _ w).alloc (Nat.le_refl _) _)
      simpa [Sy.canonG, natC] using h2
    · have := World.ownsMap_made (H := Unit) w Tryz.prog 3 (plainElem Tryz.prog 3)
      exact this.alloc _
  case round =>
    obtain ⟨i, D, seen, rfl, hi, rfl, hseen, hM⟩ := hrel
    by_cases hlt : i < n
    · obtain ⟨z, hz⟩ : ∃ z, zs[i]? = some z := ⟨zs[i]'(by have := HH.out.2.1; omega), List.getElem?_eq_getElem _⟩
      obtain ⟨a, rfl, c0⟩ := HH.out.1 i z hz
      have cz : wr.cell? (a.add i) = some (.int .i64 z) := (hM.arr.bl.cell (World.block_lt_of_cell? w _ c0)).trans c0
      have hzw : (Lit.int .i64 z).wf = true := HH.out.2.2 z (List.mem_of_getElem? hz)
      have hkey : keyOf Tryz.prog 3 (.int .i64 z) = some (.int .i64 z) := keyOf_int_mk Tryz.underlying3 hzw
      have q0 : (0 : Int) ≤ (i : Int) := by omega
      have q1 : (i : Int) < (n : Int) := by omega
      have hsl : seen.length ≤ i := by
        have := Sy.seenG_len (zs.take i) []
        rw [← hseen, List.length_take] at this
        simp at this; omega
      have hix : (natC (Sy.canonG [] (zs.take i)) ++ List.replicate (n - i) (Value.int .i64 0))[i]? = some (.int .i64 0) := by
        rw [List.getElem?_append_right (by rw [natC_len, Sy.canonG_len, List.length_take]; omega), natC_len, Sy.canonG_len, List.length_take, List.getElem?_replicate, if_pos (by have := HH.out.2.1; omega)]
      have hst := Sy.seen_step hz
      rw [← hseen] at hst
      by_cases hin : z ∈ seen
      · obtain ⟨hy1, hy2⟩ := hM.map.yes _ z (Sy.place_at hin)
        have cx := hM.arr.cell hix
        have cf := hM.arr.free i
        rw [if_pos (Sy.place_mem.2 hin)] at hst
        have HO : Hid (wr.ownsMap (H := Unit) Tryz.prog 3 (plainElem Tryz.prog 3) w.heap.size seen.length D) := hM.own
        have HY : Hid (D.atKey (.int .i64 z) (.lit (.int .i64 0)) = .lit (.int .i64 (Sy.place z seen : Nat))) := hy2
        have HM : Hid _ := And.intro hM (And.intro hseen (And.intro hz hst))
        clear hM hseen hz hst hy2 hix c0 hin hzw
        obtain ⟨k, hk⟩ : ∃ k, k = Sy.place z seen := ⟨_, rfl⟩
        rw [← hk] at HY
        have HK : Hid (k = Sy.place z seen) := hk
        clear hk
        go_wp2_with (at_lookup; refine wpList_lookup_own_ok_int _ rfl _ _ 179 rfl 3 3 .i64 Tryz.lawI7 Tryz.underlying179 Tryz.underlying3 (Tryz.zeroI7 _) w.heap.size seen.length D rfl HO.out _ _ rfl hkey ?_; rw [hy1]; intro c hat hwc; obtain rfl : c = (k : Int) := (by rw [HY.out] at hat; injection hat with hat; injection hat with _ hat; exact hat.symm); clear hat hwc)
        go_roundg (n - (i + 1))
        case measure => omega
        case rel =>
          exact ⟨i + 1, D, seen, rfl, by omega, by go_num, HM.out.2.2.2.symm, num_step HM.out.2.2.1 hlt HH.out.2.1 HM.out.2.1 HM.out.1.arr HK.out rfl HO.out HM.out.1.map⟩
      · have hy1 := hM.map.no z hin
        rw [if_neg fun e => hin (Sy.place_mem.1 e)] at hst
        have HO : Hid (wr.ownsMap (H := Unit) Tryz.prog 3 (plainElem Tryz.prog 3) w.heap.size seen.length D) := hM.own
        have hml : seen.length < maxLen := by unfold maxLen; omega
        have hsz : Maps.size D = seen.length := hM.map.size
        obtain ⟨m, hm⟩ : ∃ m, m = seen.length := ⟨_, rfl⟩
        have HM : Hid _ := And.intro hM (And.intro hseen (And.intro hz (And.intro hst (And.intro hin (And.intro hix hm)))))
        rw [← hm] at HO hml hsz hsl
        have hwf : (Lit.int .i64 (m : Int)).wf = true := WalkArith.wf_i64 (by omega)
        have HS : Hid _ := hsz
        clear hM hseen hz hst hix c0 hin hzw hm hsz
        go_wp2_with (first
          | (at_lookup; refine wpList_lookup_own_ok_int _ rfl _ _ 179 rfl 3 3 .i64 Tryz.lawI7 Tryz.underlying179 Tryz.underlying3 (Tryz.zeroI7 _) w.heap.size m D rfl HO.out _ _ rfl hkey ?_; rw [hy1]; intro c hat hwc; clear hat hwc)
          | (at_len; refine wpList_len_own _ rfl _ 179 rfl 3 3 Tryz.underlying179 _ w.heap.size m D rfl HO.out ?_; rw [HS.out])
          | (at_mapUpdate; refine wpList_mapUpdate_own _ rfl _ _ _ 179 rfl 3 3 Tryz.lawI7 Tryz.underlying179 _ w.heap.size m D rfl HO.out hml _ _ _ rfl rfl hkey _ [] (plainElem_int Tryz.underlying3 hwf) ?_; intro w3 hown3 hgrow3; have hA3 := arr_mapTurn HM.out.1.arr hgrow3 (Nat.le_refl _) (by omega); have cx := hA3.cell HM.out.2.2.2.2.2.1; have cf := hA3.free i; have H3 : Hid _ := And.intro hA3 hown3; clear hA3 hown3 hgrow3))
        go_roundg (n - (i + 1))
        case measure => omega
        case rel =>
          have hm := HM.out.2.2.2.2.2.2
          have h3 := H3.out.2
          have hmp := HM.out.1.map.snoc HM.out.1.own.isMap (HM.out.1.own.tidy Tryz.lawI7) z HM.out.2.2.2.2.1
          rw [← hm] at hmp
          have el : m + 1 = (seen ++ [z]).length := by simp [hm]
          rw [el] at h3
          exact ⟨i + 1, _, seen ++ [z], rfl, by omega, by go_num, HM.out.2.2.2.1.symm, num_step HM.out.2.2.1 hlt HH.out.2.1 HM.out.2.1 H3.out.1 (by rw [Sy.place_no HM.out.2.2.2.2.1, hm]) rfl h3 hmp⟩
    · obtain rfl : i = n := by omega
      have hsz : Maps.size D = seen.length := hM.map.size
      have HO : Hid (wr.ownsMap (H := Unit) Tryz.prog 3 (plainElem Tryz.prog 3) w.heap.size seen.length D) := hM.own
      have HM : Hid _ := And.intro hM (And.intro hseen hsz)
      obtain ⟨m, hm⟩ : ∃ m, m = seen.length := ⟨_, rfl⟩
      rw [← hm] at HO
      have HS : Hid (Maps.size D = m) := hsz.trans hm.symm
      have HN : Hid _ := hm
      clear hM hseen hsz hm
      go_wp2_with (at_len; refine wpList_len_own _ rfl _ 179 rfl 3 3 Tryz.underlying179 _ w.heap.size m D rfl HO.out ?_; rw [HS.out])
      go_ret2
      have hA := HM.out.1.arr
      have hl : i = zs.length := HH.out.2.1
      rw [hl, Nat.sub_self, List.replicate_zero, List.append_nil, List.take_length] at hA
      have how := (hA.own (by rw [natC_len, Sy.canonG_len]; unfold maxLen; omega))
      rw [natC_len, Sy.canonG_len] at how
      refine ⟨.slice (some ⟨w.heap.size + 1, 0, none⟩) zs.length zs.length, by rw [HN.out, HM.out.2.1, hl, List.take_length, ← Sy.together_eq]; rfl, ?_, HM.out.1.arr.bl⟩
      unfold OwnI
      rw [iC_nat, show (natI (Sy.canon zs)).length = zs.length by simp [natI, Sy.canon, Sy.canonG_len]]
      exact how
end
section
open Go.RowKit Go.Maps
theorem take_both {α : Type} {a b : List α} {j : Nat} {x : α} (ha : a[j]? = some x) (hb : b[j]? = some x) (h : a.take j = b.take j) : a.take (j + 1) = b.take (j + 1) := by
  rw [take_succ_of ha, take_succ_of hb, h]
theorem eq_len {α : Type} {a b : List α} {n : Nat} (ha : a.length = n) (hb : b.length = n) (h : a.take n = b.take n) : a = b := by
  rw [List.take_of_length_le (by omega), List.take_of_length_le (by omega)] at h
  exact h
set_option maxRecDepth 100000 in
set_option maxHeartbeats 1000000 in
theorem sameInts_b (va vb : Value) (za zb : List Int) (w : World) (hn : za.length ≤ 1000000000000000) (hm : zb.length ≤ 1000000000000000) (hA : HasI w va za) (hB : HasI w vb zb) :
    Calls Tryz.prog 13 #[va, vb] w fun e w' => e = .returned (.bool (za == zb)) ∧ Below w.heap.size w w' := by
  obtain ⟨ao, cap, rfl, hcA⟩ := hA
  obtain ⟨ao', cap', rfl, hcB⟩ := hB
  by_cases hlen : za.length = zb.length
  · obtain ⟨n, hN⟩ : ∃ n, n = za.length := ⟨_, rfl⟩
    have HH : Hid _ := And.intro hcA (And.intro hcB (And.intro hN (hN.trans hlen)))
    rw [← hlen, ← hN]
    rw [← hN] at hn
    clear hcA hcB hN hlen hm
    have q : ((n : Int) != (n : Int)) = false := by simp
    go_enter Tryz.func13, Tryz.ntmps13
    go_wp2
    go_loopg [5] n (fun g i wr => ∃ j m : Nat, g = n - j ∧ j ≤ n ∧ i = .int .i64 j ∧ za.take j = zb.take j ∧ wr = w.drewN m)
    case atStart => exact ⟨0, 0, rfl, Nat.zero_le _, rfl, rfl, rfl⟩
    case round =>
      obtain ⟨j, m, rfl, hj, rfl, heq, rfl⟩ := hrel
      have HQ : Hid _ := heq
      clear heq
      by_cases hlt : j < n
      · obtain ⟨x, hx⟩ : ∃ z, za[j]? = some z := ⟨za[j]'(by have := HH.out.2.2.1; omega), List.getElem?_eq_getElem _⟩
        obtain ⟨y, hy⟩ : ∃ z, zb[j]? = some z := ⟨zb[j]'(by have := HH.out.2.2.2; omega), List.getElem?_eq_getElem _⟩
        obtain ⟨a, rfl, c0⟩ := HH.out.1 j x hx
        obtain ⟨b, rfl, d0⟩ := HH.out.2.1 j y hy
        have q0 : (0 : Int) ≤ (j : Int) := by omega
        have q1 : (j : Int) < (n : Int) := by omega
        by_cases hxy : x = y
        · subst hxy
          have HT : Hid _ := take_both hx hy HQ.out
          clear hx hy
          go_wp2_with fail
          go_quiet (fail)
          go_wp2
          go_roundg (n - (j + 1))
          case measure => omega
          case rel => exact ⟨j + 1, _, rfl, by omega, by go_num, HT.out, by first | rfl | exact World.drewN_drewN _ _ _⟩
        · have e1 : (x == y) = false := by simpa using hxy
          have HF : Hid ((za == zb) = false) := (by
            rw [beq_eq_false_iff_ne]
            rintro rfl
            rw [hx] at hy
            exact hxy (Option.some.inj hy) : (za == zb) = false)
          clear hx hy hxy
          go_wp2_with fail
          go_quiet (fail)
          go_wp2
          go_ret
          exact ⟨by rw [HF.out]; rfl, by first | exact below_drewN (below_drewN (Below.refl _ _) _) _ | exact below_drewN (Below.refl _ _) _⟩
      · obtain rfl : j = n := by omega
        have q1 : ¬ (j : Int) < (j : Int) := by omega
        have HF : Hid ((za == zb) = true) := (by
          rw [beq_iff_eq]
          exact eq_len HH.out.2.2.1.symm HH.out.2.2.2.symm HQ.out : (za == zb) = true)
        go_wp2
        go_ret
        exact ⟨by rw [HF.out]; rfl, below_drewN (Below.refl _ _) _⟩
  · have q : ((za.length : Int) != (zb.length : Int)) = true := by rw [bne_iff_ne]; omega
    have HF : Hid ((za == zb) = false) := (by rw [beq_eq_false_iff_ne]; rintro rfl; exact hlen rfl : (za == zb) = false)
    clear hcA hcB hlen
    go_enter Tryz.func13, Tryz.ntmps13
    go_wp2
    go_ret
    exact ⟨by rw [HF.out]; rfl, Below.refl _ _⟩
end
section
open Go.RowKit Go.Maps
end
section
open Go.RowKit Go.Maps
namespace Sy
end Sy
set_option maxRecDepth 100000 in
theorem pCanon : PCanon := fun v zs W hv hn hw => by
  have hC := numbered_any v zs W hv hn hw
  go_enter Tryz.func30, Tryz.ntmps30
  go_wp2_with (go_at_call 89; refine hC.mono ?_; rintro r w1 ⟨u, rfl, hO, hb⟩; have HO : Hid _ := And.intro hO hb; clear hO hb)
  go_ret
  exact ⟨u, rfl, HO.out.1, HO.out.2⟩
end
section
open Go.RowKit Go.Maps
attribute [local go_sem ↓] Go.wp_at_zero Go.wp_at_succ
theorem lea_spec {A : Nat → Nat → Bool} {n p : Nat} (hp : p < n) (hpp : A p p = true) : leaS A n p < n ∧ A p (leaS A n p) = true ∧ A (leaS A n p) p = true ∧ ∀ z, z < leaS A n p → ¬ (A p z = true ∧ A z p = true) := by
  cases h : (Br.els (A p) n).find? fun q => A q p with
  | none =>
    have := List.find?_eq_none.1 h p (Br.els_mem.2 ⟨hp, hpp⟩)
    exact absurd hpp this
  | some x =>
    have e : leaS A n p = x := by unfold leaS; rw [h]; rfl
    rw [e]
    have h1 := List.find?_some h
    have h2 := Br.els_mem.1 (List.mem_of_find?_eq_some h)
    refine ⟨h2.1, h2.2, h1, fun z hz h3 => ?_⟩
    obtain ⟨xs, ys, h4, h5⟩ := List.find?_eq_some_iff_append.1 h |>.2
    have h6 : z ∈ Br.els (A p) n := Br.els_mem.2 ⟨by omega, h3.1⟩
    have hsrt : (Br.els (A p) n).Pairwise fun a b => a < b := by
      unfold Br.els
      exact List.Pairwise.filter _ (List.pairwise_lt_range)
    rw [h4] at h6 hsrt
    rcases List.mem_append.1 h6 with h7 | h7
    · have := h5 z h7
      rw [h3.2] at this
      simp at this
    · rcases List.mem_cons.1 h7 with rfl | h8
      · omega
      · have h9 := (List.pairwise_append.1 hsrt).2.1
        have := (List.pairwise_cons.1 h9).1 z h8
        omega
theorem lea_lt {A : Nat → Nat → Bool} {n p : Nat} (hp : p < n) : leaS A n p < n := by
  cases h : (Br.els (A p) n).find? fun q => A q p with
  | none => unfold leaS; rw [h]; exact hp
  | some x => unfold leaS; rw [h]; exact (Br.els_mem.1 (List.mem_of_find?_eq_some h)).1
theorem lea_iff {E : Nat → Nat → Nat → Prop} {A : Nat → Nat → Bool} {n p q : Nat} (hA : ∀ p q, p < n → q < n → (A p q = true ↔ Sm.Sims E p q)) (hp : p < n) (hq : q < n) : leaS A n p = leaS A n q ↔ Sm.Sims E p q ∧ Sm.Sims E q p := by
  have rf : ∀ x, x < n → A x x = true := fun x hx => (hA x x hx hx).2 (Sm.sims_refl E x)
  obtain ⟨p1, p2, p3, p4⟩ := lea_spec hp (rf p hp)
  obtain ⟨q1, q2, q3, q4⟩ := lea_spec hq (rf q hq)
  constructor
  · intro e
    rw [← e] at q1 q2 q3
    have a1 := (hA _ _ hp p1).1 p2
    have a2 := (hA _ _ p1 hp).1 p3
    have b1 := (hA _ _ hq q1).1 q2
    have b2 := (hA _ _ q1 hq).1 q3
    exact ⟨Sm.sims_trans a1 b2, Sm.sims_trans b1 a2⟩
  · rintro ⟨h1, h2⟩
    have a1 := (hA _ _ hp p1).1 p2
    have a2 := (hA _ _ p1 hp).1 p3
    have b1 := (hA _ _ hq q1).1 q2
    have b2 := (hA _ _ q1 hq).1 q3
    rcases Nat.lt_trichotomy (leaS A n p) (leaS A n q) with h | h | h
    · exact absurd ⟨(hA _ _ hq p1).2 (Sm.sims_trans h2 a1), (hA _ _ p1 hq).2 (Sm.sims_trans a2 h1)⟩ (q4 _ h)
    · exact h
    · exact absurd ⟨(hA _ _ hp q1).2 (Sm.sims_trans h1 b1), (hA _ _ q1 hp).2 (Sm.sims_trans b2 h2)⟩ (p4 _ h)
def leaL (A : Nat → Nat → Bool) (n : Nat) : List Int := (List.range n).map fun p => ((leaS A n p : Nat) : Int)
theorem leaL_len (A : Nat → Nat → Bool) (n : Nat) : (leaL A n).length = n := by simp [leaL]
theorem leaL_at {A : Nat → Nat → Bool} {n p : Nat} (hp : p < n) : (leaL A n)[p]? = some ((leaS A n p : Nat) : Int) := by
  unfold leaL
  rw [List.getElem?_map, List.getElem?_range hp]
  rfl
theorem AbAt.other9 {ty : TypeId} {w w5 : World} {n d g m p : Nat} {es : List Sy.Ed} {ga : Nat} {ra : Nat → Lc} {A : Nat → Nat → Bool} {f : Nat → Value} {u : Value} (h : AbAt w w5 n d es ga ra A) (k : ListAt ty w5 g m f) (t1 : ty ≠ 125) (t2 : ty ≠ 75) (hg : w.heap.size ≤ g) : AbAt w (w5.setCell ⟨g, p, none⟩ u) n d es ga ra A :=
  ⟨h.r.other k t1 (list_list_ne h.r.lst k t2), h.sim, h.bd, h.bl.trans ((Kept.setCell w5 g p u).below h.bl.size fun i hi => by omega)⟩
set_option linter.unusedSimpArgs false in
set_option maxRecDepth 100000 in
set_option maxHeartbeats 8000000 in
theorem mclasses_ok (hS : SortOk 1000000) (m kk : Nat) (s : Int) (v : Value) (es : List Sy.Ed) (a : Addr) (w : World) (hA : Sent w 14 a) (hT : TabW w) (hv : BEdges.Has w v es) (hm : es.length ≤ 100000) (hq : Sy.right m kk s es = true) (hn : m ≤ 300) :
    Calls Tryz.prog 10 #[sysV m kk s v] w fun r w' => ∃ u A, r = .returned (.tuple #[u, .nilIface]) ∧ OwnI w' w.heap.size u (natI (Sy.canon (leaL A m))) ∧ (∀ p q, p < m → q < m → (A p q = true ↔ Sm.Sims (EE es) p q)) ∧ Below w.heap.size w w' := by
  have hv0 := hv
  obtain ⟨ao, cap, rfl, _⟩ := hv0
  obtain ⟨L, hL⟩ : ∃ L, L = es.length := ⟨_, rfl⟩
  obtain ⟨w1, hw1⟩ : ∃ w1, w1 = w.alloc (.cells #[.int .i64 m, .int .i64 kk, .int .i64 s, .slice ao L cap] 24) := ⟨_, rfl⟩
  have hb1 : Below w.heap.size w w1 := by rw [hw1]; exact (Below.refl _ _).alloc (Nat.le_refl _) _
  have hg1 : w1.heap[w.heap.size]? = some (.cells #[.int .i64 m, .int .i64 kk, .int .i64 s, .slice ao L cap] 24 (0, 0)) := by rw [hw1]; exact heap_alloc_new w _
  have hN := aboveOf_ok hS m kk s _ es a w1 (hA.below hb1) (hT.below hT.lt hb1) (hv.below hb1) hm hq hn
  rw [← hL] at hN ⊢
  unfold sysV at hN ⊢
  obtain ⟨x0, x1, x2, x3⟩ := four_cells9 hg1
  have H1 : Hid _ := And.intro hN (And.intro hb1 (And.intro hw1 hT))
  have mk := fun W => makeI m (by omega) W
  clear hA hT hv hm hq hN hb1 hw1 hL
  go_enter Tryz.func10, Tryz.ntmps10
  go_upto_region 1 with fail
  rw [← H1.out.2.2.1]
  go_upto_region 5 with (go_at_call 25; refine Calls.mono H1.out.1 ?_; rintro r2 w2 ⟨ga, ra, A, rfl, hAb⟩; have H2 : Hid (AbAt w1 w2 m (Br.wds m) es ga ra A) := hAb; have y0 := cell_up x0 hAb.bl; clear hAb)
  clear mk x0 x1 x2 x3 hg1 y0
  obtain ⟨w3, hw3⟩ : ∃ w3, w3 = w2.alloc (.cells (madeV (.int .i64 0) m) 3) := ⟨_, rfl⟩
  have hb3 : Below w2.heap.size w2 w3 := by rw [hw3]; exact (Below.refl _ _).alloc (Nat.le_refl _) _
  have hb02 := H1.out.2.1.trans (H2.out.bl.mono H1.out.2.1.size)
  rw [← hw3]
  have H3 : Hid (ListAt 3 w3 w2.heap.size m (fun _ => .int .i64 0) ∧ AbAt w1 w3 m (Br.wds m) es ga ra A ∧ Below w.heap.size w w3 ∧ Below w.heap.size w w2) := ⟨by rw [hw3]; exact listAt_new 3 (.int .i64 0) rfl w2 m, H2.out.below hb3, hb02.trans (hb3.mono hb02.size), hb02⟩
  clear hw3 hb3 hb02
  go_wp2_with fail
  go_loopg [22] m (fun q iv wr => ∃ p : Nat, q = m - p ∧ p ≤ m ∧ iv = .int .i64 p ∧ ListAt 3 wr w2.heap.size m (fun i => .int .i64 (if i < p then ((leaS A m i : Nat) : Int) else 0)) ∧ AbAt w1 wr m (Br.wds m) es ga ra A ∧ Below w.heap.size w wr)
  case atStart => exact ⟨0, rfl, Nat.zero_le _, rfl, H3.out.1.congr fun i _ => by simp, H3.out.2.1, H3.out.2.2.1⟩
  case round =>
    obtain ⟨p, rfl, hp, rfl, hL, hB, hb⟩ := hrel
    obtain ⟨wo, rfl⟩ : ∃ wo, wo = wr := ⟨_, rfl⟩
    by_cases hlt : p < m
    · have q0 : (0 : Int) ≤ (p : Int) := by omega
      have q1 : (p : Int) < (m : Int) := by omega
      have hLe := leastOf_any rfl (by omega) hB (H1.out.2.2.2.below H1.out.2.2.2.lt hb) hlt
      have HP : Hid _ := And.intro hLe (And.intro hL (And.intro hB hb))
      clear hLe hL hB hb
      go_wp2_with (go_at_call 29; refine Calls.mono HP.out.1 ?_; rintro r3 w4 ⟨rfl, hb4⟩; have d0 := (HP.out.2.1.below hb4).cell hlt; have d1 := (HP.out.2.1.below hb4).free p; have H4 : Hid _ := hb4; clear hb4)
      have hl4 := HP.out.2.1.below H4.out
      have hg2 : w1.heap.size ≤ w2.heap.size := H2.out.bl.size
      have hn := (HP.out.2.2.1.below H4.out).other9 (p := p) (u := .int .i64 (leaS A m p : Nat)) hl4 (by decide) (by decide) hg2
      have hl5 : ListAt 3 (w4.setCell ⟨w2.heap.size, p, none⟩ (.int .i64 (leaS A m p : Nat))) w2.heap.size m (fun i => .int .i64 (if i < p + 1 then ((leaS A m i : Nat) : Int) else 0)) := (hl4.put _).congr fun i _ => by
        by_cases e : i = p
        · subst e; rw [if_pos rfl, if_pos (by omega)]
        · rw [if_neg e]
          by_cases e2 : i < p
          · rw [if_pos e2, if_pos (by omega)]
          · rw [if_neg e2, if_neg (by omega)]
      have hb5 := (HP.out.2.2.2.trans (H4.out.mono HP.out.2.2.2.size)).trans ((Kept.setCell w4 w2.heap.size p (.int .i64 (leaS A m p : Nat))).below (Nat.le_trans HP.out.2.2.2.size H4.out.size) fun i hi => by have := H3.out.2.2.2.size; omega)
      have HF : Hid _ := And.intro hl5 (And.intro hn hb5)
      clear hl4 hn hl5 hb5
      go_roundg (m - (p + 1))
      case measure => omega
      case rel => exact ⟨p + 1, rfl, by omega, by go_num, HF.out.1, HF.out.2.1, HF.out.2.2⟩
    · obtain rfl : m = p := by omega
      have q1 : ¬ (m : Int) < (m : Int) := by omega
      have hH : HasI wo (.slice (some ⟨w2.heap.size, 0, none⟩) m m) (leaL A m) := ⟨_, m, by rw [leaL_len], fun i z hz => ⟨_, rfl, by
        have hl := (List.getElem?_eq_some_iff.1 hz).1
        rw [leaL_len] at hl
        rw [leaL_at hl] at hz
        injection hz with hz
        subst hz
        rw [addz]
        have := hL.cell hl
        rw [if_pos hl] at this
        exact this⟩⟩
      have hCa := pCanon _ _ wo hH (by rw [leaL_len]; omega) (fun z hz => by
        unfold leaL at hz
        obtain ⟨x, hx, rfl⟩ := List.mem_map.1 hz
        have := lea_lt (A := A) (List.mem_range.1 hx)
        simp only [Lit.wf, IntKind.min, IntKind.max, IntKind.signed, IntKind.bits]
        simp
        omega)
      have HP : Hid _ := And.intro hCa (And.intro hB hb)
      clear hCa hL hB hb hH
      go_wp2_with (go_at_call 30; refine Calls.mono HP.out.1 ?_; rintro r4 w4 ⟨u, rfl, hO, hb4⟩; obtain ⟨au, cu, hu⟩ := row_shape hO; subst hu; have H4 : Hid _ := And.intro hO hb4; clear hO hb4)
      go_ret2
      exact ⟨_, A, rfl, row_base H4.out.1 HP.out.2.2.size, fun p q hp hq => HP.out.2.1.sim p q hp hq, HP.out.2.2.trans (H4.out.2.mono HP.out.2.2.size)⟩
end
section
open Go.RowKit Go.Maps
attribute [local go_sem ↓] Go.wp_at_zero Go.wp_at_succ
def esT17 : List Sy.Ed := [(0, 1, 1)]
theorem esT17_right : Sy.right ((3 : Nat) : Int) ((2 : Nat) : Int) 0 esT17 = true := by decide
theorem esT17_ee (p a t : Nat) : EE esT17 p a t ↔ p = 0 ∧ a = 1 ∧ t = 1 := by
  unfold EE esT17
  simp only [List.mem_singleton, Prod.mk.injEq]
  omega
theorem esT17_10 : Sm.Sims (EE esT17) 1 0 := (Sm.sims_iff _ 1 0).2 fun a t h => by
  have := (esT17_ee 1 a t).1 h
  omega
theorem esT17_01 : ¬ Sm.Sims (EE esT17) 0 1 := fun h => by
  obtain ⟨u, hu, _⟩ := (Sm.sims_iff _ 0 1).1 h 1 1 ((esT17_ee 0 1 1).2 ⟨rfl, rfl, rfl⟩)
  have := (esT17_ee 1 1 u).1 hu
  omega
theorem esT17_12 : Sm.Sims (EE esT17) 1 2 ∧ Sm.Sims (EE esT17) 2 1 := by
  refine ⟨(Sm.sims_iff _ 1 2).2 fun a t h => ?_, (Sm.sims_iff _ 2 1).2 fun a t h => ?_⟩
  · have := (esT17_ee 1 a t).1 h; omega
  · have := (esT17_ee 2 a t).1 h; omega
theorem esT17_cls {A : Nat → Nat → Bool} (hA : ∀ p q, p < 3 → q < 3 → (A p q = true ↔ Sm.Sims (EE esT17) p q)) : natI (Sy.canon (leaL A 3)) = [0, 1, 1] := by
  have h01 : leaS A 3 0 ≠ leaS A 3 1 := fun e => esT17_01 ((lea_iff hA (by decide) (by decide)).1 e).1
  have h12 : leaS A 3 1 = leaS A 3 2 := (lea_iff hA (by decide) (by decide)).2 esT17_12
  have e : leaL A 3 = [((leaS A 3 0 : Nat) : Int), ((leaS A 3 1 : Nat) : Int), ((leaS A 3 1 : Nat) : Int)] := by
    unfold leaL
    rw [show List.range 3 = [0, 1, 2] from rfl]
    simp only [List.map_cons, List.map_nil, ← h12]
  rw [e]
  generalize leaS A 3 0 = x at h01
  generalize leaS A 3 1 = y at h01
  have h : ¬ (x : Int) = (y : Int) := by omega
  simp [natI, Sy.canon, Sy.canonG, Sy.place, h]
theorem esT17_has (w : World) : BEdges.Has (w.alloc (.cells #[.int .i64 0, .int .i64 1, .int .i64 1] 66)) (.slice (some ⟨w.heap.size, 0, none⟩) 1 1) esT17 := by
  refine ⟨some ⟨w.heap.size, 0, none⟩, 1, rfl, fun j u hj => ⟨_, rfl, ?_⟩⟩
  rw [addz]
  refine cell0_of (heap_alloc_new w _) ?_
  rw [← Array.getElem?_toList]
  exact hj
structure EnvM (w : World) (aS : Addr) : Prop where
  sy : Sent w 14 aS
  tab : TabW w
theorem EnvM.below {w w' : World} {aS : Addr} (h : EnvM w aS) (hb : Below w.heap.size w w') : EnvM w' aS := ⟨h.sy.below hb, h.tab.below h.tab.lt hb⟩
set_option maxRecDepth 100000 in
set_option maxHeartbeats 4000000 in
theorem alive17_any (hS : SortOk 1000000) (aS : Addr) (W : World) (hE : EnvM W aS) : Calls Tryz.prog 5 #[] W fun r w' => r = .returned (.bool true) ∧ Below W.heap.size W w' := by
  obtain ⟨w1, hw1⟩ : ∃ w1, w1 = W.alloc (.cells #[.int .i64 0, .int .i64 1, .int .i64 1] 66) := ⟨_, rfl⟩
  have hb1 : Below W.heap.size W w1 := by rw [hw1]; exact (Below.refl _ _).alloc (Nat.le_refl _) _
  have hv := esT17_has W
  rw [← hw1] at hv
  obtain ⟨w2, hw2⟩ : ∃ w2, w2 = w1.alloc (.cells #[.int .i64 3, .int .i64 2, .int .i64 0, .slice (some ⟨W.heap.size, 0, none⟩) 1 1] 24) := ⟨_, rfl⟩
  have hb2 : Below w1.heap.size w1 w2 := by rw [hw2]; exact (Below.refl _ _).alloc (Nat.le_refl _) _
  have hg2 : w2.heap[w1.heap.size]? = some (.cells #[.int .i64 3, .int .i64 2, .int .i64 0, .slice (some ⟨W.heap.size, 0, none⟩) 1 1] 24 (0, 0)) := by rw [hw2]; exact heap_alloc_new w1 _
  have hbW : Below W.heap.size W w2 := hb1.trans (hb2.mono hb1.size)
  have hBl := fun W4 (p q : Nat) (hp : p < 3) (hq : q < 3) (h4 : Below w2.heap.size w2 W4) => mbelow_ok hS 3 2 p q 0 (.slice (some ⟨W.heap.size, 0, none⟩) 1 1) esT17 aS W4 ((hE.below hbW).below h4).sy ((hE.below hbW).below h4).tab ((hv.below hb2).below h4) (by decide) esT17_right (by decide) hp hq
  have hCl := fun W4 (h4 : Below w2.heap.size w2 W4) => mclasses_ok hS 3 2 0 (.slice (some ⟨W.heap.size, 0, none⟩) 1 1) esT17 aS W4 ((hE.below hbW).below h4).sy ((hE.below hbW).below h4).tab ((hv.below hb2).below h4) (by decide) esT17_right (by decide)
  unfold sysV at hCl hBl
  have hsz : w1.heap.size = W.heap.size + 1 := by rw [hw1]; simp
  have h10 := hBl w2 1 0 (by decide) (by decide) (Below.refl _ _)
  have H1 : Hid _ := And.intro hw2 (And.intro hw1 (And.intro hg2 (And.intro hCl (And.intro hbW (And.intro hBl h10)))))
  obtain ⟨x0, x1, x2, x3⟩ := four_cells9 hg2
  clear hw1 hb1 hv hw2 hb2 hg2 hbW hCl hE hBl h10
  go_enter Tryz.func5, Tryz.ntmps5
  go_upto_region 2 with fail
  rw [← H1.out.2.1, ← H1.out.1]
  rw [hsz] at x0 x1 x2 x3
  go_upto_region 3 with (go_at_call 18; refine Calls.mono H1.out.2.2.2.2.2.2 ?_; rintro r w3 ⟨b3, rfl, hb3, hbl3⟩; obtain rfl : true = b3 := (hb3.2 esT17_10).symm; have H3 : Hid _ := hbl3; clear hb3 hbl3)
  have hg3 := (H3.out.block _ (t_lt H1.out.2.2.1)).trans H1.out.2.2.1
  rw [hsz] at hg3
  have h01 := H1.out.2.2.2.2.2.1 w3 0 1 (by decide) (by decide) H3.out
  have H01 : Hid _ := h01
  clear x0 x1 x2 x3 h01
  obtain ⟨x0, x1, x2, x3⟩ := four_cells9 hg3
  go_upto_region 4 with (go_at_call 18; refine Calls.mono H01.out ?_; rintro r w4 ⟨b4, rfl, hb4, hbl4⟩; obtain rfl : false = b4 := (by cases b4 with | false => rfl | true => exact absurd (hb4.1 rfl) esT17_01); have H4 : Hid _ := hbl4; clear hb4 hbl4)
  have hg4 := (H4.out.block _ (t_lt hg3)).trans hg3
  have hcl := H1.out.2.2.2.1 w4 (H3.out.trans (H4.out.mono H3.out.size))
  have HC : Hid _ := hcl
  clear x0 x1 x2 x3 hcl hg3
  obtain ⟨x0, x1, x2, x3⟩ := four_cells9 hg4
  clear hg4
  go_upto_region 5 with (go_at_call 10; refine Calls.mono HC.out ?_; rintro r w5 ⟨u5, A5, rfl, hO5, hA5, hb5⟩; rw [esT17_cls hA5] at hO5; obtain ⟨a5, c5, hu5⟩ := row_shape hO5; simp only [List.length_cons, List.length_nil] at hu5; subst hu5; obtain ⟨gs5, hga5, hl5⟩ := own_num hO5 (j := 2) (z := 1) rfl; subst hga5; have H5 : Hid _ := hb5; clear hO5 hA5 hb5)
  clear x0 x1 x2 x3
  go_wp2_with fail
  go_ret
  have h6 : Below W.heap.size W w3 := H1.out.2.2.2.2.1.trans (H3.out.mono H1.out.2.2.2.2.1.size)
  have h7 := h6.trans (H4.out.mono h6.size)
  exact ⟨rfl, h7.trans (H5.out.mono h7.size)⟩
end
section
open Go.RowKit Go.Maps
attribute [local go_sem ↓] Go.wp_at_zero Go.wp_at_succ
def smallB (n k s : Int) (es : List Sy.Ed) : Bool := decide (n ≤ 25) && decide (es.length ≤ 150) && Sy.right n k s es
open Classical in
noncomputable def simB (E : Nat → Nat → Nat → Prop) (p q : Nat) : Bool := decide (Sm.Sims E p q)
theorem simB_iff (E : Nat → Nat → Nat → Prop) (p q : Nat) : simB E p q = true ↔ Sm.Sims E p q := by simp [simB]
end
section
open Go.RowKit Go.Maps
attribute [local go_sem ↓] Go.wp_at_zero Go.wp_at_succ
structure MxAt (w w' : World) (n g : Nat) (b : Nat → Nat) (X : Nat → Nat → Bool) (i : Nat) : Prop where
  lst : ListAt 57 w' g n fun p => if p < i then .slice (some ⟨b p, 0, none⟩) n n else .slice none 0 0
  row : ∀ p, p < i → ListAt 4 w' (b p) n fun q => .bool (X p q)
  ug : w.heap.size ≤ g
  ur : ∀ p, p < i → w.heap.size ≤ b p
  inj : ∀ p q, p < i → q < i → p ≠ q → b p ≠ b q
  bl : Below w.heap.size w w'
theorem MxAt.below {w w' w2 : World} {n g : Nat} {b : Nat → Nat} {X : Nat → Nat → Bool} {i : Nat} (h : MxAt w w' n g b X i) (hb : Below w'.heap.size w' w2) : MxAt w w2 n g b X i := ⟨h.lst.below hb, fun p hp => (h.row p hp).below hb, h.ug, h.ur, h.inj, h.bl.trans (hb.mono h.bl.size)⟩
theorem MxAt.congr {w w' : World} {n g : Nat} {b : Nat → Nat} {X Y : Nat → Nat → Bool} {i : Nat} (h : MxAt w w' n g b X i) (hX : ∀ p q, p < i → q < n → X p q = Y p q) : MxAt w w' n g b Y i := ⟨h.lst, fun p hp => (h.row p hp).congr fun q hq => by rw [hX p q hp hq], h.ug, h.ur, h.inj, h.bl⟩
theorem Tryz.infoBB : (Tryz.prog.info? 57).map (fun i => (i.zero, i.size, i.bytes)) = some (some (.slice none 0 0), 1, 24) := by kernel_rfl
end
section
open Go.RowKit Go.Maps
attribute [local go_sem ↓] Go.wp_at_zero Go.wp_at_succ
def smlB : ByteArray := ⟨#[115, 105, 109, 117, 108]⟩
set_option maxRecDepth 100000 in
set_option maxHeartbeats 4000000 in
theorem mfault_any (T : TypeId) (u : Value) (w : World) (a : Addr) (ls : List ByteArray) (h : Chain w 0 0 a ls (.iface T u)) : Calls Tryz.prog 26 #[.iface T u] w fun r w' => ∃ b, r = .returned (.iface 83 (.pointer (some ⟨b, 0, none⟩))) ∧ Chain w' 0 0 a (smlB :: ls) (.iface 83 (.pointer (some ⟨b, 0, none⟩))) ∧ Below w.heap.size w w' := by
  have HC : Hid (Chain w 0 0 a ls (.iface T u)) := h
  clear h
  go_enter Tryz.func26, Tryz.ntmps26
  go_wp2
  go_ret
  have hb : Below w.heap.size w (w.alloc (.cells #[.string smlB, .int .i64 0, .int .i64 0, .iface T u] 86)) := (Below.refl _ _).alloc (Nat.le_refl _) _
  exact ⟨_, rfl, ⟨_, _, rfl, heap_alloc_new w _, HC.out.below hb⟩, hb⟩
def AbBad (n k s : Int) (v : Value) (aE : Addr) (ls : List ByteArray) (w : World) : Prop := ∀ W, Below w.heap.size w W → Calls Tryz.prog 25 #[sysV n k s v] W fun r w' => ∃ T u, r = .returned (.tuple #[.slice none 0 0, .iface T u]) ∧ Chain w' 0 0 aE ls (.iface T u) ∧ Below W.heap.size W w'
set_option linter.unusedSimpArgs false in
set_option maxRecDepth 100000 in
set_option maxHeartbeats 4000000 in
theorem aboveOf_bad (hS : SortOk 1000000) (n k s : Int) (v : Value) (es : List Sy.Ed) (a : Addr) (w0 : World) (hA0 : Sent w0 14 a) (hv0 : BEdges.Has w0 v es) (hm : es.length ≤ 100000) (hq : Sy.right n k s es = false) : AbBad n k s v a [sysB] w0 := by
  intro w hb0
  have hA := hA0.below hb0
  have hv := hv0.below hb0
  clear hA0 hv0 hb0
  have hv0 := hv
  obtain ⟨ao, cap, rfl, _⟩ := hv0
  obtain ⟨L, hL⟩ : ∃ L, L = es.length := ⟨_, rfl⟩
  obtain ⟨w1, hw1⟩ : ∃ w1, w1 = w.alloc (.cells #[.int .i64 n, .int .i64 k, .int .i64 s, .slice ao L cap] 24) := ⟨_, rfl⟩
  have hb1 : Below w.heap.size w w1 := by rw [hw1]; exact (Below.refl _ _).alloc (Nat.le_refl _) _
  have hg1 : w1.heap[w.heap.size]? = some (.cells #[.int .i64 n, .int .i64 k, .int .i64 s, .slice ao L cap] 24 (0, 0)) := by rw [hw1]; exact heap_alloc_new w _
  obtain ⟨x0, x1, x2, x3⟩ := four_cells9 hg1
  have hN := new_bad hS n k s _ es a w1 (hA.below hb1) (hv.below hb1) (by omega) hm hq
  rw [← hL] at hN ⊢
  unfold sysV at hN ⊢
  have H1 : Hid _ := And.intro hN (And.intro hb1 hw1)
  clear hA hv hm hq hN hb1 hw1 hL hg1
  go_enter Tryz.func25, Tryz.ntmps25
  go_upto_region 1 with fail
  rw [← H1.out.2.2]
  go_wp2_with (go_at_call 83; refine Calls.mono H1.out.1 ?_; rintro r2 w2 ⟨x, rfl, hx, hb2⟩; have hx0 := hx; obtain ⟨b, u, rfl, _, _⟩ := hx0; have H2 : Hid _ := And.intro hx hb2; clear hx hb2)
  go_ret2
  exact ⟨_, _, rfl, H2.out.1, H1.out.2.1.trans (H2.out.2.mono H1.out.2.1.size)⟩
set_option linter.unusedSimpArgs false in
set_option maxRecDepth 100000 in
set_option maxHeartbeats 4000000 in
theorem aboveOf_long (hS : SortOk 1000000) (m kk : Nat) (s : Int) (v : Value) (es : List Sy.Ed) (a aL : Addr) (w0 : World) (hA0 : Sent w0 14 a) (hL0 : Sent w0 1 aL) (hv0 : BEdges.Has w0 v es) (hm : es.length ≤ 100000) (hq : Sy.right m kk s es = true) (hn : 300 < m) : AbBad m kk s v aL [] w0 := by
  intro w hb0
  have hA := hA0.below hb0
  have hLg := hL0.below hb0
  have hv := hv0.below hb0
  clear hA0 hv0 hb0 hL0
  have hv0 := hv
  obtain ⟨ao, cap, rfl, _⟩ := hv0
  obtain ⟨L, hL⟩ : ∃ L, L = es.length := ⟨_, rfl⟩
  obtain ⟨w1, hw1⟩ : ∃ w1, w1 = w.alloc (.cells #[.int .i64 m, .int .i64 kk, .int .i64 s, .slice ao L cap] 24) := ⟨_, rfl⟩
  have hb1 : Below w.heap.size w w1 := by rw [hw1]; exact (Below.refl _ _).alloc (Nat.le_refl _) _
  have hg1 : w1.heap[w.heap.size]? = some (.cells #[.int .i64 m, .int .i64 kk, .int .i64 s, .slice ao L cap] 24 (0, 0)) := by rw [hw1]; exact heap_alloc_new w _
  have hN := new_ok hS m kk s _ es a w1 (hA.below hb1) (hv.below hb1) (by omega) hm hq
  have hLw := hLg.below hb1
  rw [← hL] at hN ⊢
  unfold sysV at hN ⊢
  obtain ⟨x0, x1, x2, x3⟩ := four_cells9 hg1
  have H1 : Hid _ := And.intro hN (And.intro hb1 (And.intro hw1 hLw))
  have hm3 : (300 : Int) < (m : Int) := by omega
  clear hA hv hm hq hN hb1 hw1 hL hLg hLw hg1
  go_enter Tryz.func25, Tryz.ntmps25
  go_upto_region 1 with fail
  rw [← H1.out.2.2.1]
  go_upto_region 5 with (go_at_call 83; refine Calls.mono H1.out.1 ?_; rintro r2 w2 ⟨g, bs, bb, cs, cb, m', hmm, rfl, hG, hb2⟩; obtain rfl : m = m' := (by omega); have H2 : Hid _ := hb2; have y0 := cell_up x0 hb2; clear hmm hG hb2)
  have hs := (H1.out.2.2.2.below H2.out).1
  go_quiet (fail)
  go_wp2_with fail
  go_ret2
  exact ⟨_, _, rfl, rfl, H1.out.2.1.trans ((below_drewN H2.out _).mono H1.out.2.1.size)⟩
set_option linter.unusedSimpArgs false in
set_option maxRecDepth 100000 in
set_option maxHeartbeats 4000000 in
theorem mabove_bad (n k s : Int) (v : Value) (es : List Sy.Ed) (aE : Addr) (ls : List ByteArray) (w : World) (hv : BEdges.Has w v es) (hN : AbBad n k s v aE ls w) : Calls Tryz.prog 9 #[sysV n k s v] w fun r w' => ∃ b, r = .returned (.tuple #[.slice none 0 0, .iface 83 (.pointer (some ⟨b, 0, none⟩))]) ∧ Chain w' 0 0 aE (smlB :: ls) (.iface 83 (.pointer (some ⟨b, 0, none⟩))) ∧ Below w.heap.size w w' := by
  obtain ⟨ao, cap, rfl, _⟩ := hv
  obtain ⟨w1, hw1⟩ : ∃ w1, w1 = w.alloc (.cells #[.int .i64 n, .int .i64 k, .int .i64 s, .slice ao es.length cap] 24) := ⟨_, rfl⟩
  have hb1 : Below w.heap.size w w1 := by rw [hw1]; exact (Below.refl _ _).alloc (Nat.le_refl _) _
  have hN1 := hN w1 hb1
  generalize es.length = L at hN1 hw1 ⊢
  have hg1 : w1.heap[w.heap.size]? = some (.cells #[.int .i64 n, .int .i64 k, .int .i64 s, .slice ao L cap] 24 (0, 0)) := by rw [hw1]; exact heap_alloc_new w _
  obtain ⟨x0, x1, x2, x3⟩ := four_cells9 hg1
  unfold sysV at hN1 ⊢
  have H1 : Hid _ := And.intro hN1 (And.intro hb1 hw1)
  clear hN hN1 hb1 hw1 hg1
  go_enter Tryz.func9, Tryz.ntmps9
  go_upto_region 1 with fail
  rw [← H1.out.2.2]
  go_wp2_with (first
    | (go_at_call 25; refine Calls.mono H1.out.1 ?_; rintro r2 w2 ⟨T, u, rfl, hC2, hb2⟩; have H2 : Hid _ := And.intro hC2 hb2; clear hC2 hb2)
    | (have hq := H2.out; go_at_call 26; refine Calls.mono (mfault_any _ _ _ aE ls H2.out.1) ?_; rintro r3 w3 ⟨b, rfl, hC3, hb3⟩; have H3 : Hid _ := And.intro hC3 hb3; clear hC3 hb3 hq))
  go_ret2
  exact ⟨_, rfl, H3.out.1, H1.out.2.1.trans ((H2.out.2.trans (H3.out.2.mono H2.out.2.size)).mono H1.out.2.1.size)⟩
set_option linter.unusedSimpArgs false in
set_option maxRecDepth 100000 in
set_option maxHeartbeats 4000000 in
theorem mclasses_bad (n k s : Int) (v : Value) (es : List Sy.Ed) (aE : Addr) (ls : List ByteArray) (w : World) (hv : BEdges.Has w v es) (hN : AbBad n k s v aE ls w) : Calls Tryz.prog 10 #[sysV n k s v] w fun r w' => ∃ b, r = .returned (.tuple #[.slice none 0 0, .iface 83 (.pointer (some ⟨b, 0, none⟩))]) ∧ Chain w' 0 0 aE (smlB :: ls) (.iface 83 (.pointer (some ⟨b, 0, none⟩))) ∧ Below w.heap.size w w' := by
  obtain ⟨ao, cap, rfl, _⟩ := hv
  obtain ⟨w1, hw1⟩ : ∃ w1, w1 = w.alloc (.cells #[.int .i64 n, .int .i64 k, .int .i64 s, .slice ao es.length cap] 24) := ⟨_, rfl⟩
  have hb1 : Below w.heap.size w w1 := by rw [hw1]; exact (Below.refl _ _).alloc (Nat.le_refl _) _
  have hN1 := hN w1 hb1
  generalize es.length = L at hN1 hw1 ⊢
  have hg1 : w1.heap[w.heap.size]? = some (.cells #[.int .i64 n, .int .i64 k, .int .i64 s, .slice ao L cap] 24 (0, 0)) := by rw [hw1]; exact heap_alloc_new w _
  obtain ⟨x0, x1, x2, x3⟩ := four_cells9 hg1
  unfold sysV at hN1 ⊢
  have H1 : Hid _ := And.intro hN1 (And.intro hb1 hw1)
  clear hN hN1 hb1 hw1 hg1
  go_enter Tryz.func10, Tryz.ntmps10
  go_upto_region 1 with fail
  rw [← H1.out.2.2]
  go_wp2_with (first
    | (go_at_call 25; refine Calls.mono H1.out.1 ?_; rintro r2 w2 ⟨T, u, rfl, hC2, hb2⟩; have H2 : Hid _ := And.intro hC2 hb2; clear hC2 hb2)
    | (have hq := H2.out; go_at_call 26; refine Calls.mono (mfault_any _ _ _ aE ls H2.out.1) ?_; rintro r3 w3 ⟨b, rfl, hC3, hb3⟩; have H3 : Hid _ := And.intro hC3 hb3; clear hC3 hb3 hq))
  go_ret2
  exact ⟨_, rfl, H3.out.1, H1.out.2.1.trans ((H2.out.2.trans (H3.out.2.mono H2.out.2.size)).mono H1.out.2.1.size)⟩
set_option linter.unusedSimpArgs false in
set_option maxRecDepth 100000 in
set_option maxHeartbeats 4000000 in
theorem mbelow_bad (n k s p q : Int) (v : Value) (es : List Sy.Ed) (aE : Addr) (ls : List ByteArray) (w : World) (hv : BEdges.Has w v es) (hN : AbBad n k s v aE ls w) : Calls Tryz.prog 18 #[sysV n k s v, .int .i64 p, .int .i64 q] w fun r w' => ∃ b, r = .returned (.tuple #[.bool false, .iface 83 (.pointer (some ⟨b, 0, none⟩))]) ∧ Chain w' 0 0 aE (smlB :: ls) (.iface 83 (.pointer (some ⟨b, 0, none⟩))) ∧ Below w.heap.size w w' := by
  obtain ⟨ao, cap, rfl, _⟩ := hv
  obtain ⟨w1, hw1⟩ : ∃ w1, w1 = w.alloc (.cells #[.int .i64 n, .int .i64 k, .int .i64 s, .slice ao es.length cap] 24) := ⟨_, rfl⟩
  have hb1 : Below w.heap.size w w1 := by rw [hw1]; exact (Below.refl _ _).alloc (Nat.le_refl _) _
  have hN1 := hN w1 hb1
  generalize es.length = L at hN1 hw1 ⊢
  have hg1 : w1.heap[w.heap.size]? = some (.cells #[.int .i64 n, .int .i64 k, .int .i64 s, .slice ao L cap] 24 (0, 0)) := by rw [hw1]; exact heap_alloc_new w _
  obtain ⟨x0, x1, x2, x3⟩ := four_cells9 hg1
  unfold sysV at hN1 ⊢
  have H1 : Hid _ := And.intro hN1 (And.intro hb1 hw1)
  clear hN hN1 hb1 hw1 hg1
  go_enter Tryz.func18, Tryz.ntmps18
  go_upto_region 1 with fail
  rw [← H1.out.2.2]
  go_wp2_with (first
    | (go_at_call 25; refine Calls.mono H1.out.1 ?_; rintro r2 w2 ⟨T, u, rfl, hC2, hb2⟩; have H2 : Hid _ := And.intro hC2 hb2; clear hC2 hb2)
    | (have hq := H2.out; go_at_call 26; refine Calls.mono (mfault_any _ _ _ aE ls H2.out.1) ?_; rintro r3 w3 ⟨b, rfl, hC3, hb3⟩; have H3 : Hid _ := And.intro hC3 hb3; clear hC3 hb3 hq))
  go_ret2
  exact ⟨_, rfl, H3.out.1, H1.out.2.1.trans ((H2.out.2.trans (H3.out.2.mono H2.out.2.size)).mono H1.out.2.1.size)⟩
end
section
open Go.RowKit Go.Maps
attribute [local go_sem ↓] Go.wp_at_zero Go.wp_at_succ
theorem bel6m {w W w8 : World} (hb : Below W.heap.size W w8) (h : Below w.heap.size w W) : Below w.heap.size w w8 := h.trans (hb.mono h.size)
set_option linter.unusedSimpArgs false in
set_option maxRecDepth 100000 in
set_option maxHeartbeats 4000000 in
theorem mbelow_idx (hS : SortOk 1000000) (m kk : Nat) (p q s : Int) (v : Value) (es : List Sy.Ed) (a aI : Addr) (w : World) (hA : Sent w 14 a) (hI : Sent w 0 aI) (hT : TabW w) (hv : BEdges.Has w v es) (hm : es.length ≤ 100000) (hq : Sy.right m kk s es = true) (hn : m ≤ 300) (hx : ¬ (0 ≤ p ∧ p < (m : Int) ∧ 0 ≤ q ∧ q < (m : Int))) :
    Calls Tryz.prog 18 #[sysV m kk s v, .int .i64 p, .int .i64 q] w fun r w' => ∃ b, r = .returned (.tuple #[.bool false, .iface 83 (.pointer (some ⟨b, 0, none⟩))]) ∧ Chain w' 0 0 aI [smlB] (.iface 83 (.pointer (some ⟨b, 0, none⟩))) ∧ Below w.heap.size w w' := by
  have hv0 := hv
  obtain ⟨ao, cap, rfl, _⟩ := hv0
  obtain ⟨L, hL⟩ : ∃ L, L = es.length := ⟨_, rfl⟩
  obtain ⟨w1, hw1⟩ : ∃ w1, w1 = w.alloc (.cells #[.int .i64 m, .int .i64 kk, .int .i64 s, .slice ao L cap] 24) := ⟨_, rfl⟩
  have hb1 : Below w.heap.size w w1 := by rw [hw1]; exact (Below.refl _ _).alloc (Nat.le_refl _) _
  have hg1 : w1.heap[w.heap.size]? = some (.cells #[.int .i64 m, .int .i64 kk, .int .i64 s, .slice ao L cap] 24 (0, 0)) := by rw [hw1]; exact heap_alloc_new w _
  have hN := aboveOf_ok hS m kk s _ es a w1 (hA.below hb1) (hT.below hT.lt hb1) (hv.below hb1) hm hq hn
  rw [← hL] at hN ⊢
  unfold sysV at hN ⊢
  obtain ⟨x0, x1, x2, x3⟩ := four_cells9 hg1
  have H1 : Hid _ := And.intro hN (And.intro hb1 (And.intro hw1 (hI.below hb1)))
  have g5 : min p q < 0 ∨ ¬ min p q < 0 ∧ (m : Int) ≤ max p q := by omega
  clear hA hT hv hm hq hN hb1 hw1 hL hI hx hg1
  rcases g5 with g5 | ⟨g5, g6⟩
  all_goals
    go_enter Tryz.func18, Tryz.ntmps18
    go_upto_region 1 with fail
    rw [← H1.out.2.2.1]
    go_wp2_with (first
      | (go_at_call 25; refine Calls.mono H1.out.1 ?_; rintro r2 w2 ⟨ga, ra, A, rfl, hAb⟩; have y0 := cell_up x0 hAb.bl; have hs := (H1.out.2.2.2.below hAb.bl).1; have H2 : Hid (Below w1.heap.size w1 w2) := hAb.bl; clear hAb)
      | (have hq := H2.out; go_at_call 26; refine Calls.mono (mfault_any _ _ _ aI [] rfl) ?_; rintro r3 w3 ⟨b, rfl, hC3, hb3⟩; have H3 : Hid _ := And.intro hC3 hb3; clear hC3 hb3 hq))
    go_ret2
    exact ⟨_, rfl, H3.out.1, H1.out.2.1.trans ((H2.out.trans (H3.out.2.mono H2.out.size)).mono H1.out.2.1.size)⟩
end
section
open Go.RowKit Go.Maps
attribute [local go_sem ↓] Go.wp_at_zero Go.wp_at_succ
def smlB1 : ByteArray := ⟨#[115, 105, 109, 117, 108, 32]⟩
def smlB2 : ByteArray := ⟨#[115, 105, 109, 117, 108, 32, 115, 121, 115, 116, 101, 109, 32]⟩
theorem sml_join1 : joinS ⟨#[]⟩ [smlB] = smlB1 := by decide
theorem sml_join2 : joinS ⟨#[]⟩ [smlB, sysB] = smlB2 := by decide
def hndSml (ok : Bool) : Value := if ok then .agg #[.int .i64 0, .int .i64 0, .int .i64 0, .string ⟨#[]⟩] else .agg #[.int .i64 14, .int .i64 0, .int .i64 0, .string smlB2]
set_option maxHeartbeats 1000000 in
theorem badSml (k : Int) (w : World) : Calls Tryz.prog 19 #[.string ⟨#[115, 105, 109, 117, 108]⟩, .int .i64 k] w fun e w' => e = .returned (.agg #[.int .i64 k, .int .i64 0, .int .i64 0, .string smlB1]) ∧ Below w.heap.size w w' := by
  have zs : (⟨#[115, 105, 109, 117, 108]⟩ ++ ⟨#[32]⟩ : ByteArray) = smlB1 := by decide
  go_enter Tryz.func19, Tryz.ntmps19
  go_wp2
  exact bodyPost_ret (v := .agg #[.int .i64 k, .int .i64 0, .int .i64 0, .string smlB1]) (by simp [results, Tryz.results19, go_sem]) rfl ⟨rfl, (Below.refl _ _).alloc (Nat.le_refl _) _⟩
set_option maxRecDepth 100000 in
set_option maxHeartbeats 2000000 in
theorem on_sml (ok : Bool) (w : World) : Calls Tryz.prog 80 #[.string ⟨#[115, 105, 109, 117, 108]⟩, chkV ok] w fun e w' => e = .returned (hndSml ok) ∧ Below w.heap.size w w' := by
  cases ok with
  | true =>
    show Calls Tryz.prog 80 #[.string ⟨#[115, 105, 109, 117, 108]⟩, .agg #[.int .i64 0, .int .i64 0, .int .i64 0, .string ⟨#[]⟩]] w fun e w' => e = .returned (.agg #[.int .i64 0, .int .i64 0, .int .i64 0, .string ⟨#[]⟩]) ∧ Below w.heap.size w w'
    go_enter Tryz.func80, Tryz.ntmps80
    go_wp2
    refine bodyPost_ret (v := .agg #[.int .i64 0, .int .i64 0, .int .i64 0, .string ⟨#[]⟩]) (by simp [results, Tryz.results80, go_sem]) rfl ⟨rfl, ?_⟩
    first
      | exact ((Below.refl _ _).alloc (Nat.le_refl _) _).alloc (by simp) _
      | exact four_below (((Below.refl _ _).alloc (Nat.le_refl _) _).alloc (by simp) _) (by simp) _ _ _ _
  | false =>
    have zs : (⟨#[115, 105, 109, 117, 108]⟩ ++ ⟨#[32]⟩ : ByteArray) = smlB1 := by decide
    have zt : smlB1 ++ sysB1 = smlB2 := by decide
    show Calls Tryz.prog 80 #[.string ⟨#[115, 105, 109, 117, 108]⟩, .agg #[.int .i64 14, .int .i64 0, .int .i64 0, .string sysB1]] w fun e w' => e = .returned (.agg #[.int .i64 14, .int .i64 0, .int .i64 0, .string smlB2]) ∧ Below w.heap.size w w'
    go_enter Tryz.func80, Tryz.ntmps80
    go_wp2
    refine bodyPost_ret (v := .agg #[.int .i64 14, .int .i64 0, .int .i64 0, .string smlB2]) (by simp [results, Tryz.results80, go_sem]) rfl ⟨rfl, ?_⟩
    first
      | exact ((Below.refl _ _).alloc (Nat.le_refl _) _).alloc (by simp) _
      | exact (((Below.refl _ _).alloc (Nat.le_refl _) _).alloc (by simp) _).setCell (by simp) _
      | exact four_below (((((Below.refl _ _).alloc (Nat.le_refl _) _).alloc (by simp) _)).setCell (by simp) _) (by simp) _ _ _ _
set_option maxRecDepth 100000 in
set_option maxHeartbeats 2000000 in
theorem handed_sml (n k s : Int) (v : Value) (es : List Sy.Ed) (w : World) (hv : BEdges.Has w v es) :
    Calls Tryz.prog 22 #[.string ⟨#[115, 105, 109, 117, 108]⟩, sysV n k s v] w fun e w' => e = .returned (hndSml (Sy.right n k s es)) ∧ Below w.heap.size w w' := by
  obtain ⟨w1, hw1⟩ : ∃ w1, w1 = (w.alloc (.cells #[.int .i64 n, .int .i64 k, .int .i64 s, v] 24)).alloc (.cells #[.int .i64 0, .int .i64 0, .int .i64 0, .string ⟨#[]⟩] 29) := ⟨_, rfl⟩
  have hb1 : Below w.heap.size w w1 := by rw [hw1]; exact ((Below.refl _ _).alloc (Nat.le_refl _) _).alloc (by simp) _
  have hR := refCheck_any n k s v es w1 (hv.below hb1)
  have hg : w1.heap[w.heap.size + 1]? = some (.cells #[.int .i64 0, .int .i64 0, .int .i64 0, .string ⟨#[]⟩] 29 (0, 0)) := by rw [hw1]; exact two_alloc w _ _
  obtain ⟨ok, hok⟩ : ∃ ok, ok = Sy.right n k s es := ⟨_, rfl⟩
  rw [← hok] at hR ⊢
  have H1 : Hid _ := And.intro hR (And.intro hb1 (And.intro hg hw1))
  obtain ⟨ao, cap, rfl, _⟩ := hv
  clear hR hb1 hg hw1 hok
  unfold sysV at H1 ⊢
  go_enter Tryz.func22, Tryz.ntmps22
  go_wp2_with fail
  rw [← H1.out.2.2.2]
  refine Calls.mono H1.out.1 ?_
  rintro e w2 ⟨rfl, hb2⟩
  have H2 : Hid (Below w1.heap.size w1 w2) := hb2
  clear hb2
  go_wp2_with fail
  refine Calls.mono (on_sml ok w2) ?_
  rintro e w3 ⟨rfl, hb3⟩
  have hb13 := bel6m hb3 H2.out
  have hg2 := (hb13.block _ (t_lt H1.out.2.2.1)).trans H1.out.2.2.1
  obtain ⟨y0, y1, y2, y3⟩ := four_cells hg2
  have z0 := blk_free hg2 0
  have z1 := blk_free hg2 1
  have z2 := blk_free hg2 2
  have z3 := blk_free hg2 3
  have H3 : Hid _ := And.intro (bel6m hb13 H1.out.2.1) hg2
  clear hb3 hb13 hg2
  cases ok with
  | true =>
    rw [show hndSml true = .agg #[.int .i64 0, .int .i64 0, .int .i64 0, .string ⟨#[]⟩] from rfl]
    go_wp2_with fail
    have hgf := four_set (a0 := .int .i64 0) (a1 := .int .i64 0) (a2 := .int .i64 0) (a3 := .string ⟨#[]⟩) H3.out.2
    have hbf := four_below H3.out.1 (b := w.heap.size + 1) (by omega) (.int .i64 0) (.int .i64 0) (.int .i64 0) (.string ⟨#[]⟩)
    generalize ((((w3.setCell ⟨w.heap.size + 1, 0, none⟩ (.int .i64 0)).setCell ⟨w.heap.size + 1, 1, none⟩ (.int .i64 0)).setCell ⟨w.heap.size + 1, 2, none⟩ (.int .i64 0)).setCell ⟨w.heap.size + 1, 3, none⟩ (.string ⟨#[]⟩)) = wf at hgf hbf ⊢
    obtain ⟨c0, c1, c2, c3⟩ := four_cells hgf
    exact bodyPost_ret (v := .agg #[.int .i64 0, .int .i64 0, .int .i64 0, .string ⟨#[]⟩]) (by simp [results, Tryz.results22, go_sem, c0, c1, c2, c3]) rfl ⟨rfl, hbf⟩
  | false =>
    rw [show hndSml false = .agg #[.int .i64 14, .int .i64 0, .int .i64 0, .string smlB2] from rfl]
    go_wp2_with fail
    have hgf := four_set (a0 := .int .i64 14) (a1 := .int .i64 0) (a2 := .int .i64 0) (a3 := .string smlB2) H3.out.2
    have hbf := four_below H3.out.1 (b := w.heap.size + 1) (by omega) (.int .i64 14) (.int .i64 0) (.int .i64 0) (.string smlB2)
    generalize ((((w3.setCell ⟨w.heap.size + 1, 0, none⟩ (.int .i64 14)).setCell ⟨w.heap.size + 1, 1, none⟩ (.int .i64 0)).setCell ⟨w.heap.size + 1, 2, none⟩ (.int .i64 0)).setCell ⟨w.heap.size + 1, 3, none⟩ (.string smlB2)) = wf at hgf hbf ⊢
    obtain ⟨c0, c1, c2, c3⟩ := four_cells hgf
    exact bodyPost_ret (v := .agg #[.int .i64 14, .int .i64 0, .int .i64 0, .string smlB2]) (by simp [results, Tryz.results22, go_sem, c0, c1, c2, c3]) rfl ⟨rfl, hbf⟩
end
section
open Go.RowKit Go.Maps
attribute [local go_sem ↓] Go.wp_at_zero Go.wp_at_succ
def gdV (n : Int) (ok : Bool) : Value := if ok = false then hndSml false else if 300 < n then .agg #[.int .i64 2, .int .i64 0, .int .i64 0, .string smlB1] else .agg #[.int .i64 0, .int .i64 0, .int .i64 0, .string ⟨#[]⟩]
set_option linter.unusedSimpArgs false in
set_option maxRecDepth 100000 in
set_option maxHeartbeats 4000000 in
theorem docGuard_any (n k s : Int) (v : Value) (es : List Sy.Ed) (w : World) (hv : BEdges.Has w v es) :
    Calls Tryz.prog 7 #[sysV n k s v] w fun e w' => e = .returned (gdV n (Sy.right n k s es)) ∧ Below w.heap.size w w' := by
  obtain ⟨w1, hw1⟩ : ∃ w1, w1 = (w.alloc (.cells #[.int .i64 n, .int .i64 k, .int .i64 s, v] 24)).alloc (.cells #[.int .i64 0, .int .i64 0, .int .i64 0, .string ⟨#[]⟩] 29) := ⟨_, rfl⟩
  have hb1 : Below w.heap.size w w1 := by rw [hw1]; exact ((Below.refl _ _).alloc (Nat.le_refl _) _).alloc (by simp) _
  have hR := right_any n k s v es w1 (hv.below hb1)
  have hHd := fun W (hb : Below w1.heap.size w1 W) => handed_sml n k s v es W ((hv.below hb1).below hb)
  have hg : w1.heap[w.heap.size + 1]? = some (.cells #[.int .i64 0, .int .i64 0, .int .i64 0, .string ⟨#[]⟩] 29 (0, 0)) := by rw [hw1]; exact two_alloc w _ _
  have hg0 : w1.heap[w.heap.size]? = some (.cells #[.int .i64 n, .int .i64 k, .int .i64 s, v] 24 (0, 0)) := by rw [hw1, Below.heap_alloc _ _ _ (by simp)]; exact heap_alloc_new w _
  obtain ⟨ok, hok⟩ : ∃ ok, ok = Sy.right n k s es := ⟨_, rfl⟩
  rw [← hok] at hR hHd ⊢
  obtain ⟨ao, cap, rfl, _⟩ := hv
  unfold sysV at hR hHd ⊢
  generalize es.length = L at hR hHd hw1 hg0 ⊢
  have H1 : Hid _ := And.intro hR (And.intro hb1 (And.intro hw1 (And.intro hg (And.intro hg0 hHd))))
  clear hR hb1 hg hw1 hok hg0 hHd
  obtain ⟨x0, x1, x2, x3⟩ := four_cells9 H1.out.2.2.2.2.1
  go_enter Tryz.func7, Tryz.ntmps7
  go_upto_region 1 with fail
  rw [← H1.out.2.2.1]
  cases ok
  · go_upto_region 2 with (go_at_call 21; refine Calls.mono H1.out.1 ?_; rintro e w2 ⟨rfl, hb2⟩; have y0 := cell_up x0 hb2; have y1 := cell_up x1 hb2; have y2 := cell_up x2 hb2; have y3 := cell_up x3 hb2; have H2 : Hid (Below w1.heap.size w1 w2) := hb2; clear hb2)
    clear x0 x1 x2 x3
    go_wp2_with (go_at_call 22; refine Calls.mono (H1.out.2.2.2.2.2 _ H2.out) ?_; rintro e w3 ⟨rfl, hb3⟩; have hb13 := bel6m hb3 H2.out; have hg3 := (hb13.block _ (t_lt H1.out.2.2.2.1)).trans H1.out.2.2.2.1; obtain ⟨t0, t1, t2, t3⟩ := four_cells hg3; have z0 := blk_free hg3 0; have z1 := blk_free hg3 1; have z2 := blk_free hg3 2; have z3 := blk_free hg3 3; have H3 : Hid _ := And.intro hb13 hg3; clear hb13 hb3 hg3; rw [show hndSml false = .agg #[.int .i64 14, .int .i64 0, .int .i64 0, .string smlB2] from rfl])
    have hgf := four_set (a0 := .int .i64 14) (a1 := .int .i64 0) (a2 := .int .i64 0) (a3 := .string smlB2) H3.out.2
    have hbf := four_below (H1.out.2.1.trans (H3.out.1.mono H1.out.2.1.size)) (b := w.heap.size + 1) (by omega) (.int .i64 14) (.int .i64 0) (.int .i64 0) (.string smlB2)
    generalize ((((w3.setCell ⟨w.heap.size + 1, 0, none⟩ (.int .i64 14)).setCell ⟨w.heap.size + 1, 1, none⟩ (.int .i64 0)).setCell ⟨w.heap.size + 1, 2, none⟩ (.int .i64 0)).setCell ⟨w.heap.size + 1, 3, none⟩ (.string smlB2)) = wf at hgf hbf ⊢
    obtain ⟨c0, c1, c2, c3⟩ := four_cells hgf
    exact bodyPost_ret (v := .agg #[.int .i64 14, .int .i64 0, .int .i64 0, .string smlB2]) (by simp [results, Tryz.results7, go_sem, c0, c1, c2, c3]) rfl ⟨by simp [gdV, hndSml], hbf⟩
  · by_cases h300 : 300 < n
    · go_wp2_with (first
        | (go_at_call 21; refine Calls.mono H1.out.1 ?_; rintro e w2 ⟨rfl, hb2⟩; have y0 := cell_up x0 hb2; have H2 : Hid (Below w1.heap.size w1 w2) := hb2; clear hb2)
        | (have hq := H2.out; go_at_call 19; refine Calls.mono (badSml 2 _) ?_; rintro e w3 ⟨rfl, hb3⟩; have hb13 := bel6m hb3 H2.out; have hg3 := (hb13.block _ (t_lt H1.out.2.2.2.1)).trans H1.out.2.2.2.1; obtain ⟨t0, t1, t2, t3⟩ := four_cells hg3; have z0 := blk_free hg3 0; have z1 := blk_free hg3 1; have z2 := blk_free hg3 2; have z3 := blk_free hg3 3; have H3 : Hid _ := And.intro hb13 hg3; clear hb13 hb3 hg3 hq))
      have hgf := four_set (a0 := .int .i64 2) (a1 := .int .i64 0) (a2 := .int .i64 0) (a3 := .string smlB1) H3.out.2
      have hbf := four_below (H1.out.2.1.trans (H3.out.1.mono H1.out.2.1.size)) (b := w.heap.size + 1) (by omega) (.int .i64 2) (.int .i64 0) (.int .i64 0) (.string smlB1)
      generalize ((((w3.setCell ⟨w.heap.size + 1, 0, none⟩ (.int .i64 2)).setCell ⟨w.heap.size + 1, 1, none⟩ (.int .i64 0)).setCell ⟨w.heap.size + 1, 2, none⟩ (.int .i64 0)).setCell ⟨w.heap.size + 1, 3, none⟩ (.string smlB1)) = wf at hgf hbf ⊢
      obtain ⟨c0, c1, c2, c3⟩ := four_cells hgf
      exact bodyPost_ret (v := .agg #[.int .i64 2, .int .i64 0, .int .i64 0, .string smlB1]) (by simp [results, Tryz.results7, go_sem, c0, c1, c2, c3]) rfl ⟨by simp [gdV, hndSml, h300], hbf⟩
    · go_wp2_with (go_at_call 21; refine Calls.mono H1.out.1 ?_; rintro e w2 ⟨rfl, hb2⟩; have y0 := cell_up x0 hb2; have hg3 := (hb2.block _ (t_lt H1.out.2.2.2.1)).trans H1.out.2.2.2.1; obtain ⟨t0, t1, t2, t3⟩ := four_cells hg3; have z0 := blk_free hg3 0; have z1 := blk_free hg3 1; have z2 := blk_free hg3 2; have z3 := blk_free hg3 3; have H2 : Hid _ := And.intro hb2 hg3; clear hb2 hg3)
      have hgf := four_set (a0 := .int .i64 0) (a1 := .int .i64 0) (a2 := .int .i64 0) (a3 := .string ⟨#[]⟩) H2.out.2
      have hbf := four_below (H1.out.2.1.trans (H2.out.1.mono H1.out.2.1.size)) (b := w.heap.size + 1) (by omega) (.int .i64 0) (.int .i64 0) (.int .i64 0) (.string ⟨#[]⟩)
      generalize ((((w2.setCell ⟨w.heap.size + 1, 0, none⟩ (.int .i64 0)).setCell ⟨w.heap.size + 1, 1, none⟩ (.int .i64 0)).setCell ⟨w.heap.size + 1, 2, none⟩ (.int .i64 0)).setCell ⟨w.heap.size + 1, 3, none⟩ (.string ⟨#[]⟩)) = wf at hgf hbf ⊢
      obtain ⟨c0, c1, c2, c3⟩ := four_cells hgf
      exact bodyPost_ret (v := .agg #[.int .i64 0, .int .i64 0, .int .i64 0, .string ⟨#[]⟩]) (by simp [results, Tryz.results7, go_sem, c0, c1, c2, c3]) rfl ⟨by simp [gdV, hndSml, h300], hbf⟩
end
section
open Go.RowKit Go.Maps
attribute [local go_sem ↓] Go.wp_at_zero Go.wp_at_succ
def mk1 (i k : Nat) : Int := -1000000 * (i : Int) - (k : Int) - 7
def marks (i f n : Nat) : List Int := (List.range n).map fun k => mk1 i (f + k)
theorem marks_len (i f n : Nat) : (marks i f n).length = n := by simp [marks]
theorem marks_succ (i f n : Nat) : marks i f (n + 1) = marks i f n ++ [mk1 i (f + n)] := by
  unfold marks
  rw [List.range_succ, List.map_append]
  rfl
theorem marks_add (i f n m : Nat) : marks i f n ++ marks i (f + n) m = marks i f (n + m) := by
  induction m with
  | zero => simp [marks]
  | succ m ih => rw [marks_succ, ← List.append_assoc, ih, Nat.add_assoc, ← marks_succ]; rfl
theorem marks_at {i f n j : Nat} (h : j < n) : (marks i f n)[j]? = some (mk1 i (f + j)) := by
  unfold marks
  rw [List.getElem?_map, List.getElem?_range h]
  rfl
set_option maxRecDepth 100000 in
set_option maxHeartbeats 4000000 in
theorem mark_any (i f n : Nat) (w : World) (hi : i ≤ 1000) (hf : f + n ≤ 1000000000) :
    Calls Tryz.prog 101 #[.int .i64 i, .int .i64 f, .int .i64 n] w fun r w' => ∃ v, r = .returned v ∧ OwnI w' w.heap.size v (marks i f n) ∧ Below w.heap.size w w' := by
  obtain ⟨i0, hi0, hz0, hz1, hz2⟩ := info_parts Tryz.infoI3
  have e1 : IntKind.i64.wrap ((f : Int) + (n : Int)) = (f : Int) + (n : Int) := by rw [IntKind.wrap_i64]; omega
  go_enter Tryz.func101, Tryz.ntmps101
  go_wp2_with fail
  go_loopg [7, 8] n (fun q lv kv wr => ∃ (k : Nat), q = n - k ∧ k ≤ n ∧ kv = .int .i64 ((f : Int) + (k : Int)) ∧ OwnI wr w.heap.size lv (marks i f k) ∧ Below w.heap.size w wr)
  case atStart => exact ⟨0, rfl, Nat.zero_le _, by simp, World.ownsRow_nil _ _ _ _, Below.refl _ _⟩
  case round =>
    obtain ⟨k, rfl, hk, rfl, hO, hb⟩ := hrel
    by_cases hlt : k < n
    · have q1 : (f : Int) + (k : Int) < (f : Int) + (n : Int) := by omega
      obtain ⟨al, cl, rfl⟩ := row_shape hO
      have hO' : wr.ownsRow w.heap.size 3 1 (.slice al k cl) k (iC (marks i f k)) := by have h1 := hO; unfold OwnI at h1; rw [marks_len] at h1; exact h1
      have hlk : (marks i f k).length = k := marks_len i f k
      rw [hlk]
      have hml : k + 1 ≤ maxLen := by unfold maxLen; omega
      have hby : (k + 1) * 8 ≤ 140737488355328 := by omega
      have w1 : IntKind.i64.wrap (-1000000 * (i : Int)) = -1000000 * (i : Int) := by rw [IntKind.wrap_i64]; omega
      have w2 : IntKind.i64.wrap (-1000000 * (i : Int) - ((f : Int) + (k : Int))) = -1000000 * (i : Int) - ((f : Int) + (k : Int)) := by rw [IntKind.wrap_i64]; omega
      have w3 : IntKind.i64.wrap (-1000000 * (i : Int) - ((f : Int) + (k : Int)) - 7) = -1000000 * (i : Int) - ((f : Int) + (k : Int)) - 7 := by rw [IntKind.wrap_i64]; omega
      have hle : w.heap.size ≤ (wr.alloc (.cells #[.int .i64 (-1000000 * (i : Int) - ((f : Int) + (k : Int)) - 7)] 3)).heap.size := by have := hb.size; simp; omega
      have HO : Hid _ := And.intro hO' hb
      clear hO hO' hlk
      go_wp2_with (at_builtin; refine wpList_append_own_at _ rfl _ _ 50 rfl w.heap.size 3 i0 (.int .i64 0) 1 8 Tryz.underlying50 hi0 hz0 hz1 hz2 rfl (by decide) (.slice al k cl) k (iC (marks i f k)) rfl (HO.out.1.alloc _) ⟨wr.heap.size, 0, none⟩ 1 1 [.int .i64 (-1000000 * (i : Int) - ((f : Int) + (k : Int)) - 7)] rfl rfl (World.news_of_block (cs := #[.int .i64 (-1000000 * (i : Int) - ((f : Int) + (k : Int)) - 7)]) (t := 3) (fr := (0, 0)) (heap_alloc_new wr _)) (one_one _) hml hby hle ?_; intro v2 w2 hown2 hgrow2 hnil2 hat2; have H2 : Hid _ := And.intro hown2 hgrow2; clear hown2 hgrow2 hnil2 hat2)
      have HM : Hid (mk1 i (f + k) = -1000000 * (i : Int) - ((f : Int) + (k : Int)) - 7) := (by unfold mk1; omega : mk1 i (f + k) = -1000000 * (i : Int) - ((f : Int) + (k : Int)) - 7)
      go_roundg (n - (k + 1))
      case measure => omega
      case rel => exact ⟨k + 1, rfl, by omega, by first | go_num | (congr 1; omega), by unfold OwnI; rw [marks_len, marks_succ, iC_snoc, HM.out]; exact H2.out.1, lines_belowI HO.out.1 HO.out.2 H2.out.2⟩
    · obtain rfl : k = n := by omega
      have q1 : ¬ (f : Int) + (k : Int) < (f : Int) + (k : Int) := by omega
      have HO : Hid _ := And.intro hO hb
      clear hO hb
      go_wp2_with fail
      go_ret
      exact ⟨_, rfl, HO.out.1, HO.out.2⟩
end
end Go.Proofs.YtibdgefjpcebkaaGreatDoor
