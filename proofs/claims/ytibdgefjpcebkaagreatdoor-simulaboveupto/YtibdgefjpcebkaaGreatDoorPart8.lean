/- Texts of this claim, joined: SmUn, SmFol, SmSift, SoInts, SyRch, SyEdg, SmOf0. -/
import Derived.Test.YtibdgefjpcebkaaGreatDoorPart7
import Derived.Sort.CutIn
import Derived.OrdersHeld
import Derived.WalkMore
import Derived.Deep.LoopGhost
import Derived.Test.YtibdgefjpcebkaaGreatDoorPart0
import Derived.Test.YtibdgefjpcebkaaGreatDoorPart5
import Derived.Sort.OwnSortedInts
import Derived.Test.YtibdgefjpcebkaaGreatDoorPart6
import Derived.Deep.AppendLies
import Derived.Maps.AppendAt
namespace Go.Proofs.YtibdgefjpcebkaaGreatDoor
section
open Go.RowKit Go.Maps Go.Shelf
attribute [local go_sem] Oper.semAt_some
theorem callsIn_rnd {l n : Nat} {P : Program} {f : FuncId} {args : Array Value} {w : World} {R : Ending → World → Prop} (h : Calls P f args w R) : CallsIn (Fence.wide.inRound l) n P f args w R := (callsIn_wide (n := n)).2 h
theorem KeepsFrom.of_below {B : Nat} {W W' : World} (h : Below W.heap.size W W') : KeepsFrom B W W' := ⟨h.size, fun k _ _ hk _ => (h.block k (t_lt hk)).trans hk⟩
theorem KeepsFrom.of_kept {B b o d : Nat} {S : Nat → Bool} {W W' : World} (h : Kept (fun i => i = b) W W') (hS : RowAt W b o d S) : KeepsFrom B W W' := ⟨h.size, fun k x _ hk hx => (h.block k (t_lt hk) fun e => by
  obtain ⟨cs, hc, _⟩ := hS
  rw [e, hc] at hk
  cases hk
  cases hx).trans hk⟩
theorem Kept.cell9 {F : Nat → Prop} {w w' : World} {g j : Nat} {v : Value} (h : Kept F w w') (hF : ¬ F g) (hv : w.cell? ⟨g, j, none⟩ = some v) : w'.cell? ⟨g, j, none⟩ = some v := (World.cell?_of_block (a := ⟨g, j, none⟩) (h.block g (World.block_lt_of_cell? w _ hv) hF)).trans hv
theorem ownFrom_kept {α : Type} {B : Nat} {F : Nat → Prop} {w : World} (hB : w.heap.size ≤ B) : OwnFrom (β := List α) B fun _ W => Kept F w W := fun _ W W' row hs hg hr =>
  hs.trans2 (Kept.of_grown hg) fun i hi => by have := (hr i hi).1; exact .inr (by omega)
theorem own_row {α : Type} {b o d : Nat} (f : List α → Nat → Bool) : Own (fun pre W => RowAt W b o d (f pre)) := fun s W W' row hs hg hr => hs.at (hg.block b hs.lt fun e => by
  obtain ⟨x, hx, hc⟩ := hr b e.symm
  obtain ⟨cs, h1, _⟩ := hs
  rw [h1] at hx
  cases hx
  cases hc)
set_option linter.unusedSimpArgs false in
set_option maxRecDepth 100000 in
set_option maxHeartbeats 8000000 in
theorem unable_any {w : World} {B B0 gv gr n k d a t0 bl ol cl bs bb cs cb : Nat} {kk s : Int} {m : Ml} {ra rl : Nat → Lc} {es : List Sy.Ed} {A L : Nat → Nat → Bool} {lo : Nat → Bool} (hd : d = Br.wds n) (hn : n ≤ 1000) (h : SvM w B gv gr n k d m ra rl es A L) (hG : Gr w B0 gr bs bb cs cb n kk s es) (ha : a < k) (ht : t0 < n) (hlo : RowAt w bl ol d lo) (hT : TabW w) :
    Calls Tryz.prog 137 #[.pointer (some ⟨gv, 0, none⟩), .int .i64 a, .int .i64 t0, rowV bl ol d cl] w fun r w' => ∃ g, r = .returned (rowV g 0 d d) ∧ RowAt w' g 0 d (unS es A a t0 d (Br.els lo (64 * d))) ∧ w.heap.size ≤ g ∧ Below w.heap.size w w' := by
  have hdd : d ≤ 10000 := by rw [hd]; unfold Br.wds; omega
  have HD : Hid (d = Br.wds n) := hd
  have hn64 : n ≤ 64 * d := by rw [hd]; unfold Br.wds; omega
  clear hd
  have H0 : Hid (SvM w B gv gr n k d m ra rl es A L ∧ Gr w B0 gr bs bb cs cb n kk s es ∧ RowAt w bl ol d lo ∧ TabW w) := ⟨h, hG, hlo, hT⟩
  obtain ⟨_, _, c2, _⟩ := h.cells
  clear h hG hlo hT
  unfold rowV
  refine (callsIn_wide (n := 3)).1 ?_
  refine callsIn_of_wp_marks Tryz.func137 rfl trivial ?_ rfl
  simp only [Tryz.ntmps137, List.size_toArray, List.length_cons, List.length_nil, Nat.reduceAdd, Nat.reduceSub, Array.replicate_succ, Array.replicate_zero, List.push_toArray, List.append_toArray, List.nil_append, List.cons_append]
  gi_upto_region 1 with fail
  obtain ⟨w3, hw3⟩ : ∃ w3, w3 = ((w.alloc (.cells #[.pointer (some ⟨gv, 0, none⟩)] 119)).alloc (.cells #[.int .i64 a] 3)).alloc (.cells #[.int .i64 t0] 3) := ⟨_, rfl⟩
  have hz3 : w3.heap.size = w.heap.size + 3 := by rw [hw3]; simp
  have hb3 : Below w.heap.size w w3 := by rw [hw3]; exact (((Below.refl _ w).alloc (Nat.le_refl _) _).alloc (by simp) _).alloc (by simp; omega) _
  have hx4 : Boxed w3 w.heap.size 119 (.pointer (some ⟨gv, 0, none⟩)) := by rw [hw3]; exact ((Boxed.new w _ _).alloc _).alloc _
  have hx5 : Boxed w3 (w.heap.size + 1) 3 (.int .i64 a) := by
    rw [hw3]
    have := Boxed.new (w.alloc (.cells #[.pointer (some ⟨gv, 0, none⟩)] 119)) 3 (.int .i64 a)
    rw [World.size_alloc] at this
    exact this.alloc _
  have hx6 : Boxed w3 (w.heap.size + 1 + 1) 3 (.int .i64 t0) := by
    rw [hw3]
    have := Boxed.new ((w.alloc (.cells #[.pointer (some ⟨gv, 0, none⟩)] 119)).alloc (.cells #[.int .i64 a] 3)) 3 (.int .i64 t0)
    rw [World.size_alloc, World.size_alloc] at this
    exact this
  rw [← hw3]
  have c2 := cell_up c2 hb3
  have d4 := hx4.cell
  have hNew := newRow_any n (by omega) w3
  rw [← HD.out] at hNew
  have H3 : Hid (Boxed w3 w.heap.size 119 (.pointer (some ⟨gv, 0, none⟩)) ∧ Boxed w3 (w.heap.size + 1) 3 (.int .i64 a) ∧ Boxed w3 (w.heap.size + 1 + 1) 3 (.int .i64 t0) ∧ Below w.heap.size w w3) := ⟨hx4, hx5, hx6, hb3⟩
  have HN : Hid _ := hNew
  clear hw3 hx4 hx5 hx6 hb3 hNew
  gi_upto_region 2 with fail
  refine ⟨trivial, (callsIn_wide.2 HN.out).mono ?_⟩
  rintro e w4 ⟨rfl, hw4⟩
  unfold rowV
  gi_upto_region 2 with fail
  have hz4 : w4.heap.size = w.heap.size + 4 := by rw [hw4]; simp; omega
  have hR4 : RowAt w4 (w.heap.size + 3) 0 d fun _ => false := by
    rw [hw4, ← hz3]
    exact rowAt_new w3 d d 0 (by omega)
  have hb34 : Below w3.heap.size w3 w4 := by rw [hw4]; exact (Below.refl _ _).alloc (Nat.le_refl _) _
  rw [← hw4]
  obtain ⟨w5, hw5⟩ : ∃ w5, w5 = w4.alloc (.cells #[.slice (some ⟨w.heap.size + 3, 0, none⟩) d d] 75) := ⟨_, rfl⟩
  have hz5 : w5.heap.size = w.heap.size + 5 := by rw [hw5]; simp; omega
  have hb45 : Below w4.heap.size w4 w5 := by rw [hw5]; exact (Below.refl _ _).alloc (Nat.le_refl _) _
  have hx9 : Boxed w5 (w.heap.size + 3 + 1) 75 (.slice (some ⟨w.heap.size + 3, 0, none⟩) d d) := by
    rw [hw5]
    have := Boxed.new w4 75 (.slice (some ⟨w.heap.size + 3, 0, none⟩) d d)
    rw [hz4] at this
    exact this
  rw [← hw5]
  have hA := allRow_any bl ol d cl w5
  unfold rowV allV at hA
  rw [hz5] at hA
  have H5 : Hid (RowAt w5 (w.heap.size + 3) 0 d (fun _ => false) ∧ Below w3.heap.size w3 w5 ∧ Boxed w5 (w.heap.size + 3 + 1) 75 (.slice (some ⟨w.heap.size + 3, 0, none⟩) d d)) := ⟨hR4.below hb45, hb34.trans (hb45.mono hb34.size), hx9⟩
  have HA : Hid _ := hA
  clear hz4 hR4 hb34 hb45 hx9 hw4 hw5 hA c2 d4
  gi_wp2
  refine ⟨trivial, (callsIn_wide.2 HA.out).mono ?_⟩
  rintro e w6 ⟨rfl, hw6⟩
  have hz6 : w6.heap.size = w.heap.size + 6 := by rw [hw6]; simp; omega
  have hb56 : Below w5.heap.size w5 w6 := by rw [hw6]; exact (Below.refl _ _).alloc (Nat.le_refl _) _
  have hxb : w6.cell? ⟨w.heap.size + 5, 0, none⟩ = some (rowV bl ol d cl) := by
    rw [hw6]
    have := (Boxed.new w5 75 (.slice (some ⟨bl, ol, none⟩) d cl)).cell
    rw [hz5] at this
    exact this
  have hb36 : Below w3.heap.size w3 w6 := H5.out.2.1.trans (hb56.mono H5.out.2.1.size)
  have hb6 : Below w.heap.size w w6 := H3.out.2.2.2.trans (hb36.mono H3.out.2.2.2.size)
  have lbl := H0.out.2.2.1.lt
  have ltb := H0.out.2.2.2.lt
  have H6 : Hid (RowAt w6 (w.heap.size + 3) 0 d (fun _ => false) ∧ Below w.heap.size w w6 ∧ (w6.cell? ⟨w.heap.size, 0, none⟩ = some (.pointer (some ⟨gv, 0, none⟩)) ∧ w6.cell? ⟨w.heap.size + 1, 0, none⟩ = some (.int .i64 a) ∧ w6.cell? ⟨w.heap.size + 1 + 1, 0, none⟩ = some (.int .i64 t0) ∧ w6.cell? ⟨w.heap.size + 3 + 1, 0, none⟩ = some (.slice (some ⟨w.heap.size + 3, 0, none⟩) d d)) ∧ w6.cell? ⟨w.heap.size + 5, 0, none⟩ = some (rowV bl ol d cl)) :=
    ⟨H5.out.1.below hb56, hb6, ⟨cell_up H3.out.1.cell hb36, cell_up H3.out.2.1.cell hb36, cell_up H3.out.2.2.1.cell hb36, cell_up H5.out.2.2.cell hb56⟩, hxb⟩
  clear hw6 hb56 hxb hb36 hb6 H5 HA HN H3
  gi_wp2
  refine loop_tells rfl (by omega) (gf := 87) (lb := #[.pointer (some ⟨w.heap.size + 5, 0, none⟩)]) rfl trivial (enters_of Tryz.func87 (by kernel_rfl) rfl)
    (row_tells 2 bl ol d cl (w.heap.size + 5) lo w6 hdd H6.out.2.2.2 (H0.out.2.2.1.below H6.out.2.1) (H0.out.2.2.2.below H0.out.2.2.2.lt H6.out.2.1)) (fun h k => h.trans k) (fun W l o o' hl _ _ _ => KpB.put (B := w.heap.size + 6) (by omega) (by omega) (by omega) W l o' (by omega)) (fun pre x W l o o' _ hl ho h => h) (Below.refl _ _) (fun _ => rfl)
    (fun pre W => RowAt W (w.heap.size + 3) 0 d (unS es A a t0 d pre) ∧ Kept (fun b => b = w.heap.size + 3) w6 W)
    (fun _ _ _ => False)
    (OwnFrom.and (Own.from (own_row _) _) (ownFrom_kept (Nat.le_refl _)))
    (fun _ _ _ _ _ hs _ _ => hs)
    ⟨H6.out.1.congr fun q _ => by simp [unS], Kept.refl _ _⟩
    (fun x => { tmps := #[(.pointer (some ⟨gv, 0, none⟩)), .int .i64 a, .int .i64 t0, .slice (some ⟨bl, ol, none⟩) d cl, (.pointer (some ⟨w.heap.size, 0, none⟩)), (.pointer (some ⟨w.heap.size + 1, 0, none⟩)), (.pointer (some ⟨w.heap.size + 1 + 1, 0, none⟩)), undef, .slice none 0 0, (.pointer (some ⟨w.heap.size + 3 + 1, 0, none⟩)), .int .i64 x, undef, undef, (.pointer (some ⟨gv, 0, none⟩)), (.pointer (some ⟨gv, 0, none⟩)), (.pointer (some ⟨gv, 2, none⟩)), .slice (some ⟨m.ga, 0, none⟩) n n, .int .i64 n, .slice (some ⟨w.heap.size + 3, 0, none⟩) d d, .slice (some ⟨bl, ol, none⟩) d cl, (.func (.func 87) #[] #[.pointer (some ⟨w.heap.size + 5, 0, none⟩)]), .int .i64 x, undef, undef, undef, undef, undef, undef, undef, undef, undef, undef, undef, undef, undef, undef, undef, undef, undef, undef, undef, undef, undef, undef, undef, undef, undef, undef, undef, undef, undef, undef, undef, undef, undef, undef, undef, undef], defers := [] }) ?assign ?body ?done ?stop
  case assign =>
    intro l x W K hK
    gi_wp2
    exact hK
  case body =>
    rintro l pre x W ⟨hRow, hK⟩ ⟨hpre, _, _⟩
    clear hpre
    have mixed : Tryz.prog.follows .mixedOrders = true := by kernel_rfl
    have hgW : ∀ i, i < w.heap.size + 3 → ¬ i = w.heap.size + 3 := fun i hi => by omega
    have hBW := H6.out.2.1.trans (hK.below (B := w.heap.size) (by omega) fun i hi => by omega)
    have hSW := H0.out.1.below hBW
    have hGW := H0.out.2.1.below hBW
    have c4 := hK.cell9 (by omega) H6.out.2.2.1.1
    have c5 := hK.cell9 (by omega) H6.out.2.2.1.2.1
    have c6 := hK.cell9 (by omega) H6.out.2.2.1.2.2.1
    have c9 := hK.cell9 (by omega) H6.out.2.2.1.2.2.2
    have g0 := hSW.cells.1
    have HW : Hid (RowAt W (w.heap.size + 3) 0 d (unS es A a t0 d pre) ∧ Kept (fun b => b = w.heap.size + 3) w6 W ∧ SvM W B gv gr n k d m ra rl es A L ∧ Gr W B0 gr bs bb cs cb n kk s es) := ⟨hRow, hK, hSW, hGW⟩
    obtain ⟨N, hN⟩ : ∃ N, N = (froms n es x a).length := ⟨_, rfl⟩
    have hF : ∀ W', Below W.heap.size W W' → Calls Tryz.prog 148 #[.pointer (some ⟨gr, 0, none⟩), .int .i64 x, .int .i64 a] W' fun r w' => ∃ au cu, r = .returned (.slice au N cu) ∧ OwnI w' W'.heap.size (.slice au N cu) (froms n es x a) ∧ Below W'.heap.size W' w' := fun W' hb => (from_any (x : Int) (a : Int) W' (HW.out.2.2.2.below hb)).mono fun r w' h => by
      obtain ⟨u, rfl, hO, hb2⟩ := h
      obtain ⟨au, cu, hu⟩ := row_shape hO
      rw [show (Sy.ends (Sy.rowOf n (Sy.nf ((Sy.nf es).map Sy.turn)) (x : Int)) (a : Int)).length = N from hN.symm] at hu
      subst hu
      exact ⟨au, cu, rfl, hO, hb2⟩
    have hNs : N ≤ 10000 := by
      rw [hN]
      have h1 := froms_len (n := n) es x a
      have h2 := (right_parts HW.out.2.2.2.right).2.2.1
      omega
    have HF : Hid _ := And.intro hF hN
    clear hRow hK hBW hSW hGW hF hN
    gi_wp2
    refine region_held_round (S := (fun w' => (w'.cell? ⟨w.heap.size, 0, none⟩ = some (.pointer (some ⟨gv, 0, none⟩)) ∧ w'.cell? ⟨w.heap.size + 1, 0, none⟩ = some (.int .i64 a) ∧ w'.cell? ⟨gv, 0, none⟩ = some (.pointer (some ⟨gr, 0, none⟩))) ∧ Hid (Below W.heap.size W w'))) (by kernel_rfl) (by kernel_rfl) (by rintro ⟨a9, w9, h9⟩; exact h9) ?_ (fun hHeld => ?_)
    · exact ⟨⟨c4, c5, g0⟩, (Below.refl _ _).drew⟩
    refine wpAnyH_take (i := 0) (oi := _) (v := ?_) rfl (by kernel_rfl) (by kernel_rfl) (by kernel_rfl) (fun _ _ _ h => h) (Or.inl ⟨by rfl, ?_⟩) (by assumption) ?_; rotate_left; (focus (intro w hSw; (try dsimp only at hSw); go_simp; (try with_reducible rfl))); (try simp only [List.getElem_toArray, List.getElem_cons_succ, List.getElem_cons_zero, Act.put, List.setIfInBounds_toArray, List.set_cons_zero, List.set_cons_succ])
    refine wpAnyH_take (i := 1) (oi := _) (v := ?_) rfl (by kernel_rfl) (by kernel_rfl) (by kernel_rfl) (fun _ _ _ h => h) (Or.inl ⟨by rfl, ?_⟩) (by assumption) ?_; rotate_left; (focus (intro w hSw; (try dsimp only at hSw); go_simp; (try with_reducible rfl))); (try simp only [List.getElem_toArray, List.getElem_cons_succ, List.getElem_cons_zero, Act.put, List.setIfInBounds_toArray, List.set_cons_zero, List.set_cons_succ])
    refine wpAnyH_take (i := 2) (oi := _) (v := ?_) rfl (by kernel_rfl) (by kernel_rfl) (by kernel_rfl) (fun _ _ _ h => h) (Or.inl ⟨by rfl, ?_⟩) (by assumption) ?_; rotate_left; (focus (intro w hSw; (try dsimp only at hSw); go_simp; (try with_reducible rfl))); (try simp only [List.getElem_toArray, List.getElem_cons_succ, List.getElem_cons_zero, Act.put, List.setIfInBounds_toArray, List.set_cons_zero, List.set_cons_succ])
    refine wpAnyH_take (i := 3) (oi := _) (v := ?_) rfl (by kernel_rfl) (by kernel_rfl) (by kernel_rfl) (fun _ _ _ h => h) (Or.inl ⟨by rfl, ?_⟩) (by assumption) ?_; rotate_left; (focus (intro w hSw; (try dsimp only at hSw); go_simp; (try with_reducible rfl))); (try simp only [List.getElem_toArray, List.getElem_cons_succ, List.getElem_cons_zero, Act.put, List.setIfInBounds_toArray, List.set_cons_zero, List.set_cons_succ])
    refine wpAnyH_take (i := 4) (oi := _) (v := ?_) rfl (by kernel_rfl) (by kernel_rfl) (by kernel_rfl) (fun _ _ _ h => h) (Or.inl ⟨by rfl, ?_⟩) (by assumption) ?_; rotate_left; (focus (intro w hSw; (try dsimp only at hSw); go_simp; (try with_reducible rfl))); (try simp only [List.getElem_toArray, List.getElem_cons_succ, List.getElem_cons_zero, Act.put, List.setIfInBounds_toArray, List.set_cons_zero, List.set_cons_succ])
    refine wpAnyH_take (i := 5) (oi := _) (v := ?_) rfl (by kernel_rfl) (by kernel_rfl) (by kernel_rfl) (fun _ _ _ h => h) (Or.inl ⟨by rfl, ?_⟩) (by assumption) ?_; rotate_left; (focus (intro w hSw; (try dsimp only at hSw); go_simp; (try with_reducible rfl))); (try simp only [List.getElem_toArray, List.getElem_cons_succ, List.getElem_cons_zero, Act.put, List.setIfInBounds_toArray, List.set_cons_zero, List.set_cons_succ])
    refine wpAnyH_take (i := 8) (oi := _) (v := ?_) rfl (by kernel_rfl) (by kernel_rfl) (by kernel_rfl) (fun _ _ _ h => h) (Or.inl ⟨by rfl, ?_⟩) (by assumption) ?_; rotate_left; (focus (intro w hSw; (try dsimp only at hSw); go_simp; (try with_reducible rfl))); (try simp only [List.getElem_toArray, List.getElem_cons_succ, List.getElem_cons_zero, Act.put, List.setIfInBounds_toArray, List.set_cons_zero, List.set_cons_succ])
    refine wpAnyH_ready (rs := [6]) (by kernel_rfl) (by simp) ?_
    refine AllReadyH.cons (o := _) rfl (fun K hK => ?_) ?_
    · (go_simp; go_at_call 148; refine Calls.mono (HF.out.1 _ (Below.refl _ _).drew) ?_; rintro r2 W2 ⟨au, cu, rfl, hO2, hb2⟩; have H2 : Hid (OwnI W2 W.heap.size (.slice au N cu) (froms n es x a) ∧ Below W.heap.size W W2) := ⟨hO2, below_of_drew3 hb2⟩; clear hO2 hb2)
      (try go_wp2_with fail)
      refine hK.out _ _ ?_ (fun hHeld => ?_)
      · exact ⟨⟨cell_up c4 H2.out.2, cell_up c5 H2.out.2, cell_up g0 H2.out.2⟩, H2.out.2⟩
      clear hK K
      (try simp only [List.getElem_toArray, List.getElem_cons_succ, List.getElem_cons_zero, Act.put, List.setIfInBounds_toArray, List.set_cons_zero, List.set_cons_succ])
      refine wpAnyH_take (i := 7) (oi := _) (v := ?_) rfl (by kernel_rfl) (by kernel_rfl) (by kernel_rfl) (fun _ _ _ h => h) (Or.inl ⟨by rfl, ?_⟩) (by assumption) ?_; rotate_left; (focus (intro w hSw; (try dsimp only at hSw); go_simp; (try with_reducible rfl))); (try simp only [List.getElem_toArray, List.getElem_cons_succ, List.getElem_cons_zero, Act.put, List.setIfInBounds_toArray, List.set_cons_zero, List.set_cons_succ])
      refine wpAnyH_done (by kernel_rfl) ?_ _
      (try go_simp)
      have H2' : Hid (Below W.heap.size W W2) := H2.out.2
      have hrow2 := HW.out.1.below H2.out.2
      have HR2 : Hid (RowAt W2 (w.heap.size + 3) 0 d (unS es A a t0 d pre)) := hrow2
      clear hrow2 hHeld c4 c5 c6 c9 g0
      gi_wp2
      gi_loopw [30] (fun jv wr => ∃ j : Nat, jv = .int .i64 j ∧ j ≤ N ∧ RowAt wr (w.heap.size + 3) 0 d (unJ es A a t0 d pre ((froms n es x a).take j)) ∧ Kept (fun b => b = w.heap.size + 3) W2 wr) (fun jv _ => N - (intOf jv).toNat)
      case atStart => exact ⟨0, rfl, Nat.zero_le _, HR2.out.congr fun q _ => by rw [List.take_zero, unJ_nil], Kept.refl _ _⟩
      case round =>
        obtain ⟨j, rfl, hj, hRow, hK⟩ := hrel
        have hwW : w.heap.size + 6 ≤ W.heap.size := by have := HW.out.2.1.size; omega
        have hW2 := H2'.out.size
        by_cases hlt : j < N
        · obtain ⟨z, hz⟩ : ∃ z, (froms n es x a)[j]? = some z := ⟨_, List.getElem?_eq_getElem (by have := HF.out.2; omega)⟩
          obtain ⟨q, rfl, hqn, _⟩ := froms_nat HW.out.2.2.2.right hz
          obtain ⟨ao, cap, e9, h9⟩ := H2.out.1.has
          injection e9 with e1 e2 e3
          clear e2 e3
          obtain ⟨a9, ha9, d0⟩ := h9 j _ hz
          have hblk := (H2.out.1.lt a9.block (by rw [e1, ha9]; rfl)).1
          rw [ha9] at e1
          subst e1
          have d1 := cell_same (hK.block a9.block (block_lt3 d0) (by omega)) d0
          have hBr : Below w.heap.size w wr := (H6.out.2.1.trans (HW.out.2.1.below (B := w.heap.size) (by omega) fun i hi => by omega)).trans ((H2'.out.mono (by omega)).trans (hK.below (B := w.heap.size) (by omega) fun i hi => by omega))
          have hSr := H0.out.1.below hBr
          have hr4 := hK.cell9 (by omega) (cell_up (HW.out.2.1.cell9 (by omega) H6.out.2.2.1.1) H2'.out)
          have hr5 := hK.cell9 (by omega) (cell_up (HW.out.2.1.cell9 (by omega) H6.out.2.2.1.2.1) H2'.out)
          have hr6 := hK.cell9 (by omega) (cell_up (HW.out.2.1.cell9 (by omega) H6.out.2.2.1.2.2.1) H2'.out)
          have hr9 := hK.cell9 (by omega) (cell_up (HW.out.2.1.cell9 (by omega) H6.out.2.2.1.2.2.2) H2'.out)
          have v1 := hSr.cells.2.1
          have v2 := hSr.cells.2.2.1
          have y1 := hSr.ends.cell ha
          have y2 := (hSr.end1 a ha).lst.cell hqn
          have y3 := hSr.above.lst.cell ht
          obtain ⟨mt, hmt⟩ : ∃ mt, mt = mtS es A a t0 d q := ⟨_, rfl⟩
          have hM := fun W' (hb : Below wr.heap.size wr W') => meetsRow_any (m.ew a) (q * d) d d (ra t0).b (ra t0).o (ra t0).c (Ez es a q) (A t0) W' hdd (((hSr.end1 a ha).row q hqn).below hb) ((hSr.above.row t0 ht).below hb)
          rw [show meetS (Ez es a q) (A t0) (64 * d) = mt from hmt.symm] at hM
          have hqd : q / 64 < d := by omega
          have hAd := fun W' (hb : Below wr.heap.size wr W') => addRow_any (w.heap.size + 3) 0 d d q _ W' hdd hqd (hRow.below hb)
          have HR : Hid _ := And.intro hRow (And.intro hK (And.intro hz (And.intro hmt (And.intro hM hAd))))
          have r0 : (0 : Int) ≤ (j : Int) := by omega
          have r1 : (j : Int) < (N : Int) := by omega
          have r2 : (0 : Int) ≤ (a : Int) := by omega
          have r3 : (a : Int) < (k : Int) := by omega
          have r4 : (0 : Int) ≤ (q : Int) := by omega
          have r5 : (q : Int) < (n : Int) := by omega
          have r6 : (0 : Int) ≤ (t0 : Int) := by omega
          have r7 : (t0 : Int) < (n : Int) := by omega
          clear hRow hK hz hmt hM hAd hSr hBr hblk d0 h9 ha9 hwW hW2 c2
          unfold Lc.v rowV at y2 y3
          unfold rowV at HR
          dsimp only at y2
          gi_wp2
          refine region_held_round (S := (fun w' => (w'.cell? ⟨w.heap.size, 0, none⟩ = some (.pointer (some ⟨gv, 0, none⟩)) ∧ w'.cell? ⟨w.heap.size + 1, 0, none⟩ = some (.int .i64 a) ∧ w'.cell? ⟨w.heap.size + 1 + 1, 0, none⟩ = some (.int .i64 t0) ∧ w'.cell? ⟨gv, 1, none⟩ = some (.slice (some ⟨m.ge, 0, none⟩) k k) ∧ w'.cell? ⟨gv, 2, none⟩ = some (.slice (some ⟨m.ga, 0, none⟩) n n) ∧ w'.cell? ⟨m.ge, a, none⟩ = some (.slice (some ⟨m.er a, 0, none⟩) n n) ∧ w'.cell? ⟨m.er a, q, none⟩ = some (.slice (some ⟨m.ew a, q * d, none⟩) d d) ∧ w'.cell? ⟨m.ga, t0, none⟩ = some (.slice (some ⟨(ra t0).b, (ra t0).o, none⟩) d (ra t0).c)) ∧ Hid True)) (by kernel_rfl) (by kernel_rfl) (by rintro ⟨a9, w9, h9⟩; exact h9) ?_ (fun hHeld => ?_)
          · exact ⟨⟨hr4, hr5, hr6, v1, v2, y1, y2, y3⟩, trivial⟩
          refine wpAnyH_take (i := 0) (oi := _) (v := ?_) rfl (by kernel_rfl) (by kernel_rfl) (by kernel_rfl) (fun _ _ _ h => h) (Or.inl ⟨by rfl, ?_⟩) (by assumption) ?_; rotate_left; (focus (intro w hSw; (try dsimp only at hSw); go_simp; (try with_reducible rfl))); (try simp only [List.getElem_toArray, List.getElem_cons_succ, List.getElem_cons_zero, Act.put, List.setIfInBounds_toArray, List.set_cons_zero, List.set_cons_succ])
          refine wpAnyH_take (i := 1) (oi := _) (v := ?_) rfl (by kernel_rfl) (by kernel_rfl) (by kernel_rfl) (fun _ _ _ h => h) (Or.inl ⟨by rfl, ?_⟩) (by assumption) ?_; rotate_left; (focus (intro w hSw; (try dsimp only at hSw); go_simp; (try with_reducible rfl))); (try simp only [List.getElem_toArray, List.getElem_cons_succ, List.getElem_cons_zero, Act.put, List.setIfInBounds_toArray, List.set_cons_zero, List.set_cons_succ])
          refine wpAnyH_take (i := 2) (oi := _) (v := ?_) rfl (by kernel_rfl) (by kernel_rfl) (by kernel_rfl) (fun _ _ _ h => h) (Or.inl ⟨by rfl, ?_⟩) (by assumption) ?_; rotate_left; (focus (intro w hSw; (try dsimp only at hSw); go_simp; (try with_reducible rfl))); (try simp only [List.getElem_toArray, List.getElem_cons_succ, List.getElem_cons_zero, Act.put, List.setIfInBounds_toArray, List.set_cons_zero, List.set_cons_succ])
          refine wpAnyH_take (i := 3) (oi := _) (v := ?_) rfl (by kernel_rfl) (by kernel_rfl) (by kernel_rfl) (fun _ _ _ h => h) (Or.inl ⟨by rfl, ?_⟩) (by assumption) ?_; rotate_left; (focus (intro w hSw; (try dsimp only at hSw); go_simp; (try with_reducible rfl))); (try simp only [List.getElem_toArray, List.getElem_cons_succ, List.getElem_cons_zero, Act.put, List.setIfInBounds_toArray, List.set_cons_zero, List.set_cons_succ])
          refine wpAnyH_take (i := 4) (oi := _) (v := ?_) rfl (by kernel_rfl) (by kernel_rfl) (by kernel_rfl) (fun _ _ _ h => h) (Or.inl ⟨by rfl, ?_⟩) (by assumption) ?_; rotate_left; (focus (intro w hSw; (try dsimp only at hSw); go_simp; (try with_reducible rfl))); (try simp only [List.getElem_toArray, List.getElem_cons_succ, List.getElem_cons_zero, Act.put, List.setIfInBounds_toArray, List.set_cons_zero, List.set_cons_succ])
          refine wpAnyH_take (i := 5) (oi := _) (v := ?_) rfl (by kernel_rfl) (by kernel_rfl) (by kernel_rfl) (fun _ _ _ h => h) (Or.inl ⟨by rfl, ?_⟩) (by assumption) ?_; rotate_left; (focus (intro w hSw; (try dsimp only at hSw); go_simp; (try with_reducible rfl))); (try simp only [List.getElem_toArray, List.getElem_cons_succ, List.getElem_cons_zero, Act.put, List.setIfInBounds_toArray, List.set_cons_zero, List.set_cons_succ])
          refine wpAnyH_take (i := 6) (oi := _) (v := ?_) rfl (by kernel_rfl) (by kernel_rfl) (by kernel_rfl) (fun _ _ _ h => h) (Or.inl ⟨by rfl, ?_⟩) (by assumption) ?_; rotate_left; (focus (intro w hSw; (try dsimp only at hSw); go_simp; (try with_reducible rfl))); (try simp only [List.getElem_toArray, List.getElem_cons_succ, List.getElem_cons_zero, Act.put, List.setIfInBounds_toArray, List.set_cons_zero, List.set_cons_succ])
          refine wpAnyH_take (i := 7) (oi := _) (v := ?_) rfl (by kernel_rfl) (by kernel_rfl) (by kernel_rfl) (fun _ _ _ h => h) (Or.inl ⟨by rfl, ?_⟩) (by assumption) ?_; rotate_left; (focus (intro w hSw; (try dsimp only at hSw); go_simp; (try with_reducible rfl))); (try simp only [List.getElem_toArray, List.getElem_cons_succ, List.getElem_cons_zero, Act.put, List.setIfInBounds_toArray, List.set_cons_zero, List.set_cons_succ])
          refine wpAnyH_take (i := 8) (oi := _) (v := ?_) rfl (by kernel_rfl) (by kernel_rfl) (by kernel_rfl) (fun _ _ _ h => h) (Or.inl ⟨by rfl, ?_⟩) (by assumption) ?_; rotate_left; (focus (intro w hSw; (try dsimp only at hSw); go_simp; (try with_reducible rfl))); (try simp only [List.getElem_toArray, List.getElem_cons_succ, List.getElem_cons_zero, Act.put, List.setIfInBounds_toArray, List.set_cons_zero, List.set_cons_succ])
          refine wpAnyH_take (i := 9) (oi := _) (v := ?_) rfl (by kernel_rfl) (by kernel_rfl) (by kernel_rfl) (fun _ _ _ h => h) (Or.inl ⟨by rfl, ?_⟩) (by assumption) ?_; rotate_left; (focus (intro w hSw; (try dsimp only at hSw); go_simp; (try with_reducible rfl))); (try simp only [List.getElem_toArray, List.getElem_cons_succ, List.getElem_cons_zero, Act.put, List.setIfInBounds_toArray, List.set_cons_zero, List.set_cons_succ])
          refine wpAnyH_take (i := 10) (oi := _) (v := ?_) rfl (by kernel_rfl) (by kernel_rfl) (by kernel_rfl) (fun _ _ _ h => h) (Or.inl ⟨by rfl, ?_⟩) (by assumption) ?_; rotate_left; (focus (intro w hSw; (try dsimp only at hSw); go_simp; (try with_reducible rfl))); (try simp only [List.getElem_toArray, List.getElem_cons_succ, List.getElem_cons_zero, Act.put, List.setIfInBounds_toArray, List.set_cons_zero, List.set_cons_succ])
          refine wpAnyH_take (i := 11) (oi := _) (v := ?_) rfl (by kernel_rfl) (by kernel_rfl) (by kernel_rfl) (fun _ _ _ h => h) (Or.inl ⟨by rfl, ?_⟩) (by assumption) ?_; rotate_left; (focus (intro w hSw; (try dsimp only at hSw); go_simp; (try with_reducible rfl))); (try simp only [List.getElem_toArray, List.getElem_cons_succ, List.getElem_cons_zero, Act.put, List.setIfInBounds_toArray, List.set_cons_zero, List.set_cons_succ])
          refine wpAnyH_take (i := 12) (oi := _) (v := ?_) rfl (by kernel_rfl) (by kernel_rfl) (by kernel_rfl) (fun _ _ _ h => h) (Or.inl ⟨by rfl, ?_⟩) (by assumption) ?_; rotate_left; (focus (intro w hSw; (try dsimp only at hSw); go_simp; (try with_reducible rfl))); (try simp only [List.getElem_toArray, List.getElem_cons_succ, List.getElem_cons_zero, Act.put, List.setIfInBounds_toArray, List.set_cons_zero, List.set_cons_succ])
          refine wpAnyH_take (i := 13) (oi := _) (v := ?_) rfl (by kernel_rfl) (by kernel_rfl) (by kernel_rfl) (fun _ _ _ h => h) (Or.inl ⟨by rfl, ?_⟩) (by assumption) ?_; rotate_left; (focus (intro w hSw; (try dsimp only at hSw); go_simp; (try with_reducible rfl))); (try simp only [List.getElem_toArray, List.getElem_cons_succ, List.getElem_cons_zero, Act.put, List.setIfInBounds_toArray, List.set_cons_zero, List.set_cons_succ])
          refine wpAnyH_take (i := 14) (oi := _) (v := ?_) rfl (by kernel_rfl) (by kernel_rfl) (by kernel_rfl) (fun _ _ _ h => h) (Or.inl ⟨by rfl, ?_⟩) (by assumption) ?_; rotate_left; (focus (intro w hSw; (try dsimp only at hSw); go_simp; (try with_reducible rfl))); (try simp only [List.getElem_toArray, List.getElem_cons_succ, List.getElem_cons_zero, Act.put, List.setIfInBounds_toArray, List.set_cons_zero, List.set_cons_succ])
          refine wpAnyH_take (i := 15) (oi := _) (v := ?_) rfl (by kernel_rfl) (by kernel_rfl) (by kernel_rfl) (fun _ _ _ h => h) (Or.inl ⟨by rfl, ?_⟩) (by assumption) ?_; rotate_left; (focus (intro w hSw; (try dsimp only at hSw); go_simp; (try with_reducible rfl))); (try simp only [List.getElem_toArray, List.getElem_cons_succ, List.getElem_cons_zero, Act.put, List.setIfInBounds_toArray, List.set_cons_zero, List.set_cons_succ])
          refine wpAnyH_take (i := 16) (oi := _) (v := ?_) rfl (by kernel_rfl) (by kernel_rfl) (by kernel_rfl) (fun _ _ _ h => h) (Or.inl ⟨by rfl, ?_⟩) (by assumption) ?_; rotate_left; (focus (intro w hSw; (try dsimp only at hSw); go_simp; (try with_reducible rfl))); (try simp only [List.getElem_toArray, List.getElem_cons_succ, List.getElem_cons_zero, Act.put, List.setIfInBounds_toArray, List.set_cons_zero, List.set_cons_succ])
          refine wpAnyH_ready (rs := [17]) (by kernel_rfl) (by simp) ?_
          refine AllReadyH.cons (o := _) rfl (fun K hK => ?_) ?_
          · (go_simp; go_at_call 149; refine Calls.mono (HR.out.2.2.2.2.1 _ (Below.refl _ _).drew) ?_; rintro r3 W3 ⟨rfl, hw3⟩; obtain rfl := hw3.symm; clear hw3)
            (try go_wp2_with fail)
            refine hK.out _ _ ?_ (fun hHeld => ?_)
            · exact ⟨⟨hr4, hr5, hr6, v1, v2, y1, y2, y3⟩, trivial⟩
            clear hK K
            (try simp only [List.getElem_toArray, List.getElem_cons_succ, List.getElem_cons_zero, Act.put, List.setIfInBounds_toArray, List.set_cons_zero, List.set_cons_succ])
            refine wpAnyH_take (i := 18) (oi := _) (v := ?_) rfl (by kernel_rfl) (by kernel_rfl) (by kernel_rfl) (fun _ _ _ h => h) (Or.inl ⟨by rfl, ?_⟩) (by assumption) ?_; rotate_left; (focus (intro w hSw; (try dsimp only at hSw); go_simp; (try with_reducible rfl))); (try simp only [List.getElem_toArray, List.getElem_cons_succ, List.getElem_cons_zero, Act.put, List.setIfInBounds_toArray, List.set_cons_zero, List.set_cons_succ])
            refine wpAnyH_done (by kernel_rfl) ?_ _
            (try go_simp)
            clear hHeld
            cases mt
            · have c9 := hr9
              gi_wp2
              refine ⟨trivial, (callsIn_rnd (HR.out.2.2.2.2.2 _ (Below.refl _ _).drew)).mono ?_⟩
              rintro e W4 ⟨⟨v, rfl⟩, hR4, hW4⟩
              have H4 : Hid _ := And.intro hR4 hW4
              clear hR4 hW4
              gi_wp2
              go_roundw
              case rel =>
                refine ⟨j + 1, by go_num, by omega, H4.out.1.congr fun z _ => (unJ_no HR.out.2.2.1 HR.out.2.2.2.1.symm z).symm, HR.out.2.1.trans ((Kept.of_below (Below.refl _ _).drew).trans H4.out.2.kp)⟩
              case measure => simp [intOf]; omega
            · gi_wp2
              go_roundw
              case rel =>
                refine ⟨j + 1, by go_num, by omega, rowAt_drew (HR.out.1.congr fun z _ => (unJ_yes HR.out.2.2.1 HR.out.2.2.2.1.symm z).symm), HR.out.2.1.trans (Kept.of_below (Below.refl _ _).drew)⟩
              case measure => simp [intOf]; omega
          exact AllReadyH.nil
        · obtain rfl : j = N := by omega
          have r1 : ¬ (j : Int) < (j : Int) := by omega
          have HR : Hid _ := And.intro hRow hK
          clear hRow hK
          gi_wp2
          have e9 : (froms n es x a).take j = froms n es x a := List.take_of_length_le (by have := HF.out.2; omega)
          refine ⟨(KeepsFrom.of_below H2'.out).trans (KeepsFrom.of_kept HR.out.2 HR2.out), fun g hg i v hv => ?_, (HR.out.1.congr fun q _ => by rw [e9, unJ_all HW.out.2.2.2.right]), HW.out.2.1.trans ((Kept.of_below H2'.out).trans HR.out.2)⟩
          exact HR.out.2.cell9 (by rcases hg with rfl | rfl | rfl <;> omega) (cell_up hv H2'.out)
    exact AllReadyH.nil
  case done =>
    rintro D xs W hD rfl ⟨hRow, hK⟩ hKD
    have c9 := hK.cell9 (by omega) H6.out.2.2.1.2.2.2
    have HW : Hid (RowAt W (w.heap.size + 3) 0 d (unS es A a t0 d (Br.els lo (64 * d))) ∧ Kept (fun b => b = w.heap.size + 3) w6 W) := ⟨hRow, hK⟩
    clear hRow hK
    gi_wp2
    refine ⟨by simp, .inl ⟨_, _, rfl, run_takeDeferred hKD, ?_⟩⟩
    refine ⟨_, results_tmp rfl _ _ _, w.heap.size + 3, rfl, ?_, by omega, ?_⟩
    · refine HW.out.1.at (World.putObj_heap_other fun e => ?_)
      obtain ⟨c8, h8, _⟩ := HW.out.1
      rw [e, hKD] at h8
      cases h8
    · have hB := H6.out.2.1.trans (HW.out.2.below (Nat.le_trans (by omega) (Nat.le_of_eq hz6.symm)) fun i hi => by omega)
      exact hB.trans (belowK_b (w := w) (Nat.le_refl _) W D _ _ (by omega) hKD rfl rfl)
  case stop =>
    rintro D c pre W _ _ h _
    exact h.elim
end
section
open Go.RowKit Go.Maps
attribute [local go_sem ↓] Go.wp_at_zero Go.wp_at_succ
structure SmE (w0 w : World) (B0 gr bs bb cs cb n : Nat) (kk s : Int) (es : List Sy.Ed) : Prop where
  g : Gr w0 B0 gr bs bb cs cb n kk s es
  t : TabW w0
  b : Below w0.heap.size w0 w
theorem SmE.next {w0 w w' : World} {B0 gr bs bb cs cb n : Nat} {kk s : Int} {es : List Sy.Ed} (h : SmE w0 w B0 gr bs bb cs cb n kk s es) (hb : Below w0.heap.size w w') : SmE w0 w' B0 gr bs bb cs cb n kk s es := ⟨h.g, h.t, h.b.trans hb⟩
theorem SmE.gr {w0 w : World} {B0 gr bs bb cs cb n : Nat} {kk s : Int} {es : List Sy.Ed} (h : SmE w0 w B0 gr bs bb cs cb n kk s es) : Gr w B0 gr bs bb cs cb n kk s es := h.g.below h.b
theorem SmE.tab {w0 w : World} {B0 gr bs bb cs cb n : Nat} {kk s : Int} {es : List Sy.Ed} (h : SmE w0 w B0 gr bs bb cs cb n kk s es) : TabW w := h.t.below h.t.lt h.b
theorem ee_in {n : Nat} {k s : Int} {es : List Sy.Ed} (hq : Sy.right n k s es = true) : Sm.In n (EE es) := fun p a t h => by
  have h3 := (right_parts hq).2.2.2.2.2 _ h
  simp only at h3
  omega
def inS (n : Nat) (es : List Sy.Ed) (t0 : Nat) : List BSteps.El := Sy.rowOf n (Sy.nf ((Sy.nf es).map Sy.turn)) (t0 : Int)
theorem inS_mem {n : Nat} {es : List Sy.Ed} {t0 : Nat} (ht : t0 < n) {a p : Int} : (a, p) ∈ inS n es t0 ↔ (p, a, (t0 : Int)) ∈ es := by
  unfold inS Sy.rowOf
  rw [if_pos (by omega), Sy.steps_mem, nf_turn_mem]
  exact Iff.rfl
theorem inS_nat {n : Nat} {k s : Int} {es : List Sy.Ed} (hq : Sy.right n k s es = true) {t0 i : Nat} (ht : t0 < n) {z : BSteps.El} (h : (inS n es t0)[i]? = some z) : ∃ a p : Nat, z = ((a : Int), (p : Int)) ∧ (a : Int) < k ∧ p < n ∧ EE es p a t0 := by
  obtain ⟨z1, z2⟩ := z
  have h1 := (inS_mem ht).1 (List.mem_of_getElem? h)
  have h2 := (right_parts hq).2.2.2.2.2 _ h1
  simp only at h2
  refine ⟨z1.toNat, z2.toNat, ?_, by omega, by omega, ?_⟩
  · rw [show ((z1.toNat : Nat) : Int) = z1 by omega, show ((z2.toNat : Nat) : Int) = z2 by omega]
  · unfold EE
    rw [show ((z1.toNat : Nat) : Int) = z1 by omega, show ((z2.toNat : Nat) : Int) = z2 by omega]
    exact h1
def dnS (n : Nat) (es : List Sy.Ed) (t0 i : Nat) (b x : Nat) : Prop := ((b : Int), (x : Int)) ∈ (inS n es t0).take i
theorem dnS_next {n : Nat} {es : List Sy.Ed} {t0 i a p : Nat} (h : (inS n es t0)[i]? = some ((a : Int), (p : Int))) : dnS n es t0 (i + 1) = fun b x => dnS n es t0 i b x ∨ b = a ∧ x = p := by
  funext b x
  unfold dnS
  rw [take_succ9 h, List.mem_append, List.mem_singleton]
  apply propext
  refine or_congr Iff.rfl ?_
  constructor
  · intro h
    injection h with h1 h2
    omega
  · rintro ⟨rfl, rfl⟩; rfl
structure FoAt (w0 w wr : World) (B0 gr bs bb cs cb n : Nat) (kk s : Int) (gv k d t0 : Nat) (m : Ml) (rl : Nat → Lc) (es : List Sy.Ed) (lo : Nat → Bool) (X : Nat → Nat → Bool) (uv lv : Value) (i : Nat) (ra : Nat → Lc) (A L : Nat → Nat → Bool) : Prop where
  sv : SvM wr w0.heap.size gv gr n k d m ra rl es A L
  mid : Sm.Mid n (EE es) A L t0 lo (dnS n es t0 i)
  fr : SmFr w wr w0.heap.size n d rl
  orr : ∀ x y, (A x y || L x y) = X x y
  un : (i = 0 ∧ uv = .slice none 0 0 ∧ lv = .int .i64 (-1)) ∨ ∃ (a g : Nat) (U : Nat → Bool) (A0 : Nat → Nat → Bool), lv = .int .i64 a ∧ uv = rowV g 0 d d ∧ RowAt wr g 0 d U ∧ (∀ q, q < n → Lc.off d ⟨g, 0, 0⟩ (rl q)) ∧ Sm.Una (EE es) A0 t0 lo a U ∧ (∀ u, A t0 u = true → A0 t0 u = true) ∧ (∀ u, A0 t0 u = true → A t0 u = true ∨ L t0 u = true)
theorem FoAt.below {w0 w wr wq : World} {B0 gr bs bb cs cb n : Nat} {kk s : Int} {gv k d t0 : Nat} {m : Ml} {X : Nat → Nat → Bool} {rl ra : Nat → Lc} {es : List Sy.Ed} {lo : Nat → Bool} {uv lv : Value} {i : Nat} {A L : Nat → Nat → Bool} (h : FoAt w0 w wr B0 gr bs bb cs cb n kk s gv k d t0 m rl es lo X uv lv i ra A L) (hB : w0.heap.size ≤ wr.heap.size) (hb : Below wr.heap.size wr wq) : FoAt w0 w wq B0 gr bs bb cs cb n kk s gv k d t0 m rl es lo X uv lv i ra A L :=
  ⟨h.sv.below hb, h.mid, h.fr.trans (SmFr.of_below hB hb), h.orr, h.un.imp id fun ⟨a, g, U, A0, h1, h2, h3, h4⟩ => ⟨a, g, U, A0, h1, h2, h3.below hb, h4⟩⟩
theorem FoAt.next {w0 w wq w4 : World} {B0 gr bs bb cs cb n : Nat} {kk s : Int} {gv k d t0 a p g : Nat} {m : Ml} {X : Nat → Nat → Bool} {rl ra ra' : Nat → Lc} {es : List Sy.Ed} {lo U : Nat → Bool} {uv lv : Value} {i : Nat} {A L A0 : Nat → Nat → Bool} (h : FoAt w0 w wq B0 gr bs bb cs cb n kk s gv k d t0 m rl es lo X uv lv i ra A L) (hr : Sy.right n kk s es = true) (hz : (inS n es t0)[i]? = some ((a : Int), (p : Int))) (hs : EE es p a t0)
    (hR : RowAt wq g 0 d U) (ho : ∀ q, q < n → Lc.off d ⟨g, 0, 0⟩ (rl q)) (hU : Sm.Una (EE es) A0 t0 lo a U) (h0 : ∀ u, A t0 u = true → A0 t0 u = true) (h1 : ∀ u, A0 t0 u = true → A t0 u = true ∨ L t0 u = true) (hsv : SvM w4 w0.heap.size gv gr n k d m ra' rl es (Sm.tkA A p U) (Sm.tkL A L p U)) (hfr : SmFr wq w4 w0.heap.size n d rl) :
    FoAt w0 w w4 B0 gr bs bb cs cb n kk s gv k d t0 m rl es lo X (rowV g 0 d d) (.int .i64 a) (i + 1) ra' (Sm.tkA A p U) (Sm.tkL A L p U) := by
  refine ⟨hsv, ?_, h.fr.trans hfr, fun x y => (Sm.tk_or A L p U x y).trans (h.orr x y), .inr ⟨a, g, U, A0, rfl, rfl, hfr.row g 0 U hR ho, ho, hU, fun u hu => h0 u ?_, fun u hu => ?_⟩⟩
  · rw [dnS_next hz]
    exact h.mid.take (ee_in hr) hU h0 h1 hs
  · unfold Sm.tkA at hu
    split at hu
    · next e => subst e; revert hu; cases A t0 u <;> simp
    · exact hu
  · exact (Sm.or_iff2 (Sm.tk_or A L p U t0 u)).2 (h1 u hu)
set_option maxRecDepth 100000 in
set_option maxHeartbeats 8000000 in
theorem follow_any {w0 w : World} {B0 gr bs bb cs cb n : Nat} {kk s : Int} {gv k d t0 bl ol cl : Nat} {m : Ml} {X : Nat → Nat → Bool} {ra rl : Nat → Lc} {es : List Sy.Ed} {A L : Nat → Nat → Bool} {lo : Nat → Bool} (hd0 : 0 < d) (hd : d = Br.wds n) (hn : n ≤ 1000) (hkk : kk = (k : Int)) (hE : SmE w0 w B0 gr bs bb cs cb n kk s es) (h : SvM w w0.heap.size gv gr n k d m ra rl es A L) (hm : Sm.Mid n (EE es) A L t0 lo fun _ _ => False) (hX : ∀ x y, (A x y || L x y) = X x y) (ht : t0 < n) (hlo : RowAt w bl ol d lo) (hoff : ∀ q, q < n → Lc.off d ⟨bl, ol, 0⟩ (rl q)) :
    Calls Tryz.prog 126 #[.pointer (some ⟨gv, 0, none⟩), .int .i64 t0, rowV bl ol d cl] w fun r w' => (∃ v, r = .returned v) ∧ (∃ ra' A' L', SvM w' w0.heap.size gv gr n k d m ra' rl es A' L' ∧ Sm.Inv n (EE es) A' L' ∧ ∀ x y, (A' x y || L' x y) = X x y) ∧ Below w0.heap.size w w' := by
  have hdd : d ≤ 10000 := by rw [hd]; unfold Br.wds; omega
  obtain ⟨c0, _, _, _⟩ := h.cells
  have hI := in_any (t0 : Int) w hE.gr
  obtain ⟨N, hN⟩ : ∃ N, N = (inS n es t0).length := ⟨_, rfl⟩
  have hNs : N ≤ 10000 := by
    rw [hN]
    have h1 := rowOf_len n (Sy.nf ((Sy.nf es).map Sy.turn)) (t0 : Int)
    rw [nf_turn_len] at h1
    have h2 := Sy.nf_len es
    have h3 := (right_parts hE.g.right).2.2.1
    unfold inS
    omega
  have HN : Hid (N = (inS n es t0).length ∧ d = Br.wds n ∧ kk = (k : Int)) := ⟨hN, hd, hkk⟩
  have H0 : Hid (SmE w0 w B0 gr bs bb cs cb n kk s es ∧ SvM w w0.heap.size gv gr n k d m ra rl es A L ∧ Sm.Mid n (EE es) A L t0 lo (fun _ _ => False) ∧ (∀ x y, (A x y || L x y) = X x y) ∧ RowAt w bl ol d lo ∧ (∀ q, q < n → Lc.off d ⟨bl, ol, 0⟩ (rl q))) := ⟨hE, h, hm, hX, hlo, hoff⟩
  have HI : Hid _ := hI
  clear hE h hm hX hlo hoff hI hN hd hkk
  unfold rowV
  go_enter Tryz.func126, Tryz.ntmps126
  go_wp2_with fail
  refine Calls.mono HI.out ?_
  rintro r w1 ⟨u, rfl, hO, hb1⟩
  obtain ⟨au, cu, hu⟩ := row_shape hO
  rw [show (Sy.rowOf n (Sy.nf ((Sy.nf es).map Sy.turn)) (t0 : Int)).length = N from HN.out.1.symm] at hu
  subst hu
  have H1 : Hid (BSteps.Own w1 w.heap.size (.slice au N cu) (inS n es t0) ∧ Below w.heap.size w w1) := ⟨hO, hb1⟩
  clear hO hb1 HI
  go_wp2_with fail
  go_loopg [6, 7, 17] N (fun q uv lv iv wr => ∃ (i : Nat) (ra' : Nat → Lc) (A' L' : Nat → Nat → Bool) (l0 : Int) (u0 : Value), q = N - i ∧ i ≤ N ∧ iv = .int .i64 i ∧ uv = u0 ∧ lv = .int .i64 l0 ∧ FoAt w0 w1 wr B0 gr bs bb cs cb n kk s gv k d t0 m rl es lo X u0 (.int .i64 l0) i ra' A' L')
  case atStart =>
    refine ⟨0, ra, A, L, -1, .slice none 0 0, rfl, Nat.zero_le _, rfl, rfl, rfl, H0.out.2.1.below H1.out.2, ?_, SmFr.of_below (Nat.le_trans H0.out.1.b.size H1.out.2.size) (Below.refl _ _), H0.out.2.2.2.1, .inl ⟨rfl, rfl, rfl⟩⟩
    have e : dnS n es t0 0 = fun _ _ => False := by funext b x; unfold dnS; simp
    rw [e]
    exact H0.out.2.2.1
  case round =>
    obtain ⟨i, ra', A', L', l0, u0, rfl, hi, rfl, hu0, rfl, hF⟩ := hrel
    obtain rfl := hu0.symm
    have hE1 := H0.out.1.next ((H1.out.2.mono H0.out.1.b.size).trans hF.fr.bl)
    by_cases hlt : i < N
    · obtain ⟨z, hz⟩ : ∃ z, (inS n es t0)[i]? = some z := ⟨_, List.getElem?_eq_getElem (by have := HN.out.1; omega)⟩
      obtain ⟨a, p, rfl, hak, hpn, hs⟩ := inS_nat H0.out.1.g.right ht hz
      have hO : BSteps.Own wr w.heap.size (.slice au N cu) (inS n es t0) := trow_at H1.out.1 fun b hb => by
        obtain ⟨c, hc⟩ := row_cells H1.out.1 hb
        exact (hF.fr.oth b c _ hc (by decide) (by decide)).trans hc.symm
      obtain ⟨a9, rfl, d0, d1⟩ := step_at (BSteps.Own.has hO) hz
      dsimp only at d0 d1
      have hlo := hF.fr.row bl ol lo (H0.out.2.2.2.2.1.below H1.out.2) H0.out.2.2.2.2.2
      obtain ⟨wb, hwb⟩ : ∃ wb, wb = wr.alloc (.cells #[.int .i64 a, .int .i64 p] 115) := ⟨_, rfl⟩
      have hbb : Below wr.heap.size wr wb := by rw [hwb]; exact (Below.refl _ _).alloc (Nat.le_refl _) _
      have hgb : wb.heap[wr.heap.size]? = some (.cells #[.int .i64 a, .int .i64 p] 115 (0, 0)) := by rw [hwb]; exact heap_alloc_new wr _
      have f0 : wb.cell? ⟨wr.heap.size, 0, none⟩ = some (.int .i64 a) := cell0_of hgb rfl
      have f1 : wb.cell? ⟨wr.heap.size, 1, none⟩ = some (.int .i64 p) := cell0_of hgb rfl
      have hFb := hF.below hE1.b.size hbb
      have hEb := hE1.next (hbb.mono hE1.b.size)
      have HZ : Hid _ := And.intro hwb (And.intro hFb (And.intro hEb (And.intro hz (And.intro hs (And.intro (hlo.below hbb) hgb)))))
      have q0 : (0 : Int) ≤ (i : Int) := by omega
      have q1 : (i : Int) < (N : Int) := by omega
      have hak2 : a < k := by have := HN.out.2.2; omega
      clear hwb hFb hEb hz hs hlo hgb hO hF hbb hE1 c0
      by_cases hal : (a : Int) = l0
      · have e1 : ((a : Int) != l0) = false := by simp [hal]
        have hun : ∃ (g : Nat) (U : Nat → Bool) (A0 : Nat → Nat → Bool), u0 = rowV g 0 d d ∧ RowAt wb g 0 d U ∧ (∀ q, q < n → Lc.off d ⟨g, 0, 0⟩ (rl q)) ∧ Sm.Una (EE es) A0 t0 lo a U ∧ (∀ u, A' t0 u = true → A0 t0 u = true) ∧ (∀ u, A0 t0 u = true → A' t0 u = true ∨ L' t0 u = true) := by
          rcases HZ.out.2.1.un with ⟨_, _, h⟩ | ⟨a0, g, U, A0, h, h2⟩
          · injection h with _ h; omega
          · injection h with _ h
            obtain rfl : a = a0 := by omega
            exact ⟨g, U, A0, h2⟩
        obtain ⟨g, U, A0, rfl, hU⟩ := hun
        have hT := mtake_any (cu := d) hd0 hdd HZ.out.2.2.1.b.size HZ.out.2.1.sv hpn hU.1
        have HT : Hid _ := And.intro hT hU
        have HAL : Hid ((a : Int) = l0) := hal
        clear hal hT hU
        unfold rowV at HT ⊢
        go_upto_region 5 with fail
        rw [← HZ.out.1]
        go_wp2_with fail
        refine Calls.mono HT.out.1 ?_
        rintro r w4 ⟨⟨v, rfl⟩, ⟨ra2, hsv⟩, hfr⟩
        have hN := HZ.out.2.1.next HZ.out.2.2.1.g.right HZ.out.2.2.2.1 HZ.out.2.2.2.2.1 HT.out.2.1 HT.out.2.2.1 HT.out.2.2.2.1 HT.out.2.2.2.2.1 HT.out.2.2.2.2.2 hsv hfr
        have HNx : Hid _ := hN
        clear hN hsv hfr
        go_wp2_with fail
        go_roundg (N - (i + 1))
        case measure => omega
        case rel => exact ⟨i + 1, ra2, _, _, l0, _, rfl, by omega, by go_num, rfl, rfl, by rw [← HAL.out]; exact HNx.out⟩
      · have e1 : ((a : Int) != l0) = true := by simp [hal]
        have hUn := unable_any HN.out.2.1 hn HZ.out.2.1.sv HZ.out.2.2.1.gr hak2 ht HZ.out.2.2.2.2.2.1 HZ.out.2.2.1.tab (cl := cl)
        have HU : Hid _ := hUn
        have HAL : Hid ((a : Int) ≠ l0) := hal
        clear hal hUn
        unfold rowV at HU
        go_upto_region 5 with fail
        rw [← HZ.out.1]
        go_wp2_with fail
        refine Calls.mono HU.out ?_
        rintro r w3 ⟨g, rfl, hR3, hg3, hb3⟩
        have hF3 := HZ.out.2.1.below HZ.out.2.2.1.b.size hb3
        have ho3 : ∀ q, q < n → Lc.off d ⟨g, 0, 0⟩ (rl q) := fun q hq => ((HZ.out.2.1.sv.fresh (y := ⟨g, 0, 0⟩) hg3).1 q hq)
        have hU3 := unS_una HZ.out.2.2.1.g.right A' a t0 d (by have := HN.out.2.1; unfold Br.wds at this; omega) lo
        have hT := mtake_any (cu := d) hd0 hdd (Nat.le_trans HZ.out.2.2.1.b.size hb3.size) hF3.sv hpn hR3
        have f1 := cell_up f1 hb3
        have H3 : Hid _ := And.intro hT (And.intro hF3 (And.intro ho3 (And.intro hU3 hR3)))
        clear hR3 hg3 hb3 hF3 ho3 hU3 hT HU
        unfold rowV at H3
        go_wp2_with fail
        refine Calls.mono H3.out.1 ?_
        rintro r w4 ⟨⟨v, rfl⟩, ⟨ra2, hsv⟩, hfr⟩
        have hN := H3.out.2.1.next HZ.out.2.2.1.g.right HZ.out.2.2.2.1 HZ.out.2.2.2.2.1 H3.out.2.2.2.2 H3.out.2.2.1 H3.out.2.2.2.1 (fun _ h => h) (fun _ h => .inl h) hsv hfr
        have HNx : Hid _ := hN
        clear hN hsv hfr
        go_wp2_with fail
        go_roundg (N - (i + 1))
        case measure => omega
        case rel => exact ⟨i + 1, ra2, _, _, a, _, rfl, by omega, by go_num, rfl, rfl, HNx.out⟩
    · obtain rfl : i = N := by omega
      have q1 : ¬ (i : Int) < (i : Int) := by omega
      have HF : Hid _ := And.intro hF hE1
      clear hF hE1
      go_wp2_with fail
      go_end0
      refine ⟨⟨_, rfl⟩, ⟨ra', A', L', HF.out.1.sv, HF.out.1.mid.inv fun p a hs => ?_, HF.out.1.orr⟩, (H1.out.2.mono H0.out.1.b.size).trans HF.out.1.fr.bl⟩
      unfold dnS
      rw [List.take_of_length_le (by have := HN.out.1; omega)]
      exact (inS_mem ht).2 hs
end
section
open Go.RowKit Go.Maps
attribute [local go_sem ↓] Go.wp_at_zero Go.wp_at_succ
theorem mu_or {n : Nat} {A L A' L' : Nat → Nat → Bool} (h : ∀ x y, (A' x y || L' x y) = (A x y || L x y)) : Sm.mu n A' L' = Sm.mu n A L := by
  unfold Sm.mu
  congr 1
  funext i
  exact h _ _
theorem nonS_no {S : Nat → Bool} {N : Nat} (h : nonS S N = false) : ∃ q, q < N ∧ S q = true := by
  unfold nonS at h
  obtain ⟨q, hq, h2⟩ := List.all_eq_false.1 h
  exact ⟨q, List.mem_range.1 hq, by simpa using h2⟩
theorem nonS_yes {S : Nat → Bool} {N q : Nat} (h : nonS S N = true) (hq : q < N) : S q = false := by
  unfold nonS at h
  simpa using List.all_eq_true.1 h q (List.mem_range.2 hq)
structure SfAt (w0 w : World) (B0 gr bs bb cs cb n : Nat) (kk s : Int) (gv k d : Nat) (m : Ml) (es : List Sy.Ed) (ra rl : Nat → Lc) (A L : Nat → Nat → Bool) : Prop where
  e : SmE w0 w B0 gr bs bb cs cb n kk s es
  sv : SvM w w0.heap.size gv gr n k d m ra rl es A L
  inv : Sm.Inv n (EE es) A L
  bd : ∀ x y, (A x y || L x y) = true → y < n
theorem SfAt.aside {w0 wr w4 : World} {B0 gr bs bb cs cb n : Nat} {kk s : Int} {gv k d st : Nat} {m : Ml} {es : List Sy.Ed} {ra rl : Nat → Lc} {A L : Nat → Nat → Bool} (h : SfAt w0 wr B0 gr bs bb cs cb n kk s gv k d m es ra rl A L) (hst : st < n) (hw4 : w4 = wr.drew.alloc (.cells (madeV (.int .u64 0) d) 125)) :
    SvM (w4.setCell ⟨m.gl, st, none⟩ (rowV wr.heap.size 0 d d)) w0.heap.size gv gr n k d m ra (upm rl st ⟨wr.heap.size, 0, d⟩) es A (Sm.clr L st) ∧ SmE w0 (w4.setCell ⟨m.gl, st, none⟩ (rowV wr.heap.size 0 d d)) B0 gr bs bb cs cb n kk s es ∧ RowAt (w4.setCell ⟨m.gl, st, none⟩ (rowV wr.heap.size 0 d d)) (rl st).b (rl st).o d (L st) ∧ ∀ q, q < n → Lc.off d ⟨(rl st).b, (rl st).o, 0⟩ (upm rl st ⟨wr.heap.size, 0, d⟩ q) := by
  have hb4 : Below wr.heap.size wr w4 := by rw [hw4]; exact (Below.refl _ _).drew.alloc (Nat.le_refl _) _
  have hR4 : RowAt w4 wr.heap.size 0 d fun _ => false := by
    rw [hw4]
    exact rowAt_new wr.drew d d 0 (by omega)
  have hs4 := h.sv.below hb4
  have hf := h.sv.fresh (y := ⟨wr.heap.size, 0, d⟩) (Nat.le_refl _)
  have hlt := (h.sv.lost.row st hst).lt
  have h5 := hs4.setLost (p := st) ⟨wr.heap.size, 0, d⟩ hR4 h.e.b.size (fun q hq _ => hf.1 q hq) hf.2.1 (hf.2.2 (by omega))
  refine ⟨h5.congr (fun _ _ _ _ => rfl) fun x q _ _ => ?_, h.e.next ((hb4.mono h.e.b.size).trans ((Kept.setCell w4 m.gl st _).below (Nat.le_trans h.e.b.size hb4.size) fun i hi => by have := h.sv.lost.ug; omega)), (hs4.lost.row st hst).lists hs4.lost.lst (by decide), fun q hq => ?_⟩
  · unfold upm Sm.clr
    by_cases e : x = st <;> simp [e]
  · by_cases e : q = st
    · subst e; rw [upm_same]; exact .inl (by show (rl q).b ≠ wr.heap.size; omega)
    · rw [upm_ne _ _ e]
      exact h.sv.apll st q hst hq fun e2 => e e2.symm
set_option linter.unusedSimpArgs false in
set_option maxRecDepth 100000 in
set_option maxHeartbeats 8000000 in
theorem smSift_any {w0 w : World} {B0 gr bs bb cs cb n : Nat} {kk s : Int} {gv k d : Nat} {m : Ml} {ra rl : Nat → Lc} {es : List Sy.Ed} {A L : Nat → Nat → Bool} (hd0 : 0 < n → 0 < d) (hd : d = Br.wds n) (hn : n ≤ 1000) (hkk : kk = (k : Int)) (h : SfAt w0 w B0 gr bs bb cs cb n kk s gv k d m es ra rl A L) :
    Calls Tryz.prog 85 #[.pointer (some ⟨gv, 0, none⟩)] w fun r w' => (∃ v, r = .returned v) ∧ ∃ ra' rl' A' L', SfAt w0 w' B0 gr bs bb cs cb n kk s gv k d m es ra' rl' A' L' ∧ ∀ p q, p < n → q < n → L' p q = false := by
  have hdd : d ≤ 10000 := by rw [hd]; unfold Br.wds; omega
  have HN : Hid (d = Br.wds n ∧ kk = (k : Int)) := ⟨hd, hkk⟩
  have H0 : Hid (SfAt w0 w B0 gr bs bb cs cb n kk s gv k d m es ra rl A L) := h
  clear h hd hkk
  go_enter Tryz.func85, Tryz.ntmps85
  go_wp2_with fail
  go_step3
  go_wp2_with fail
  go_step3
  go_wp2_with fail
  go_loopg [2] (Sm.mu n A L) (fun q _ wr => ∃ (ra' rl' : Nat → Lc) (A' L' : Nat → Nat → Bool), q = Sm.mu n A' L' ∧ SfAt w0 wr B0 gr bs bb cs cb n kk s gv k d m es ra' rl' A' L')
  case atStart => exact ⟨ra, rl, A, L, rfl, H0.out⟩
  case round =>
    obtain ⟨ra', rl', A', L', rfl, hF⟩ := hrel
    obtain ⟨wo, rfl⟩ : ∃ wo, wo = wr := ⟨_, rfl⟩
    obtain ⟨_, _, _, c3⟩ := hF.sv.cells
    have HF : Hid (SfAt w0 wo B0 gr bs bb cs cb n kk s gv k d m es ra' rl' A' L') := hF
    clear hF
    go_wp2_with fail
    go_loopg [9] n (fun q iv wr => ∃ i : Nat, q = n - i ∧ i ≤ n ∧ iv = .int .i64 i ∧ wr = wo ∧ ∀ p, p < i → nonS (L' p) (64 * d) = true)
    case atStart => exact ⟨0, rfl, Nat.zero_le _, rfl, rfl, fun p hp => by omega⟩
    case round =>
      obtain ⟨i, rfl, hi, rfl, hw, hall⟩ := hrel
      obtain rfl := hw.symm
      clear hw
      have HA : Hid (∀ p, p < i → nonS (L' p) (64 * d) = true) := hall
      clear hall
      by_cases hlt : i < n
      · have q0 : (0 : Int) ≤ (i : Int) := by omega
        have q1 : (i : Int) < (n : Int) := by omega
        have c4 := HF.out.sv.lost.lst.cell hlt
        have f4 := HF.out.sv.lost.lst.free i
        have hEm := emptyRow_any (rl' i).b (rl' i).o d (rl' i).c (L' i) wo hdd (HF.out.sv.lost.row i hlt)
        obtain ⟨em, hem⟩ : ∃ em, em = nonS (L' i) (64 * d) := ⟨_, rfl⟩
        rw [← hem] at hEm
        have HE : Hid _ := And.intro hEm hem
        clear hEm hem
        unfold Lc.v rowV at c4
        unfold rowV at HE
        go_wp2_with fail
        refine Calls.mono HE.out.1 ?_
        rintro r w1 ⟨rfl, hw1⟩
        obtain rfl := hw1.symm
        clear hw1
        cases em
        · have hNw := fun W => newRow_any n (by omega) W
          rw [← HN.out.1] at hNw
          have HW : Hid _ := hNw
          clear hNw
          unfold rowV at HW
          go_wp2_with fail
          refine wp_region_held_drew (S := (fun w' => (w'.cell? ⟨gv, 3, none⟩ = some (.slice (some ⟨m.gl, 0, none⟩) n n) ∧ w'.cell? ⟨gv, 3, none⟩ = some (.slice (some ⟨m.gl, 0, none⟩) n n)) ∧ Hid True)) (by kernel_rfl) ?_ (fun hHeld => ?_)
          · exact ⟨⟨c3, c3⟩, trivial⟩
          refine wpAnyH_take (i := 0) (oi := _) (v := ?_) rfl (by kernel_rfl) (by kernel_rfl) (by kernel_rfl) (fun _ _ _ h => h) (Or.inl ⟨by rfl, ?_⟩) (by assumption) ?_; rotate_left; (focus (intro w hSw; (try dsimp only at hSw); go_simp; (try with_reducible rfl))); (try simp only [List.getElem_toArray, List.getElem_cons_succ, List.getElem_cons_zero, Act.put, List.setIfInBounds_toArray, List.set_cons_zero, List.set_cons_succ])
          refine wpAnyH_take (i := 1) (oi := _) (v := ?_) rfl (by kernel_rfl) (by kernel_rfl) (by kernel_rfl) (fun _ _ _ h => h) (Or.inl ⟨by rfl, ?_⟩) (by assumption) ?_; rotate_left; (focus (intro w hSw; (try dsimp only at hSw); go_simp; (try with_reducible rfl))); (try simp only [List.getElem_toArray, List.getElem_cons_succ, List.getElem_cons_zero, Act.put, List.setIfInBounds_toArray, List.set_cons_zero, List.set_cons_succ])
          refine wpAnyH_take (i := 2) (oi := _) (v := ?_) rfl (by kernel_rfl) (by kernel_rfl) (by kernel_rfl) (fun _ _ _ h => h) (Or.inl ⟨by rfl, ?_⟩) (by assumption) ?_; rotate_left; (focus (intro w hSw; (try dsimp only at hSw); go_simp; (try with_reducible rfl))); (try simp only [List.getElem_toArray, List.getElem_cons_succ, List.getElem_cons_zero, Act.put, List.setIfInBounds_toArray, List.set_cons_zero, List.set_cons_succ])
          refine wpAnyH_take (i := 3) (oi := _) (v := ?_) rfl (by kernel_rfl) (by kernel_rfl) (by kernel_rfl) (fun _ _ _ h => h) (Or.inl ⟨by rfl, ?_⟩) (by assumption) ?_; rotate_left; (focus (intro w hSw; (try dsimp only at hSw); go_simp; (try with_reducible rfl))); (try simp only [List.getElem_toArray, List.getElem_cons_succ, List.getElem_cons_zero, Act.put, List.setIfInBounds_toArray, List.set_cons_zero, List.set_cons_succ])
          refine wpAnyH_take (i := 4) (oi := _) (v := ?_) rfl (by kernel_rfl) (by kernel_rfl) (by kernel_rfl) (fun _ _ _ h => h) (Or.inl ⟨by rfl, ?_⟩) (by assumption) ?_; rotate_left; (focus (intro w hSw; (try dsimp only at hSw); go_simp; (try with_reducible rfl))); (try simp only [List.getElem_toArray, List.getElem_cons_succ, List.getElem_cons_zero, Act.put, List.setIfInBounds_toArray, List.set_cons_zero, List.set_cons_succ])
          refine wpAnyH_take (i := 5) (oi := _) (v := ?_) rfl (by kernel_rfl) (by kernel_rfl) (by kernel_rfl) (fun _ _ _ h => h) (Or.inl ⟨by rfl, ?_⟩) (by assumption) ?_; rotate_left; (focus (intro w hSw; (try dsimp only at hSw); go_simp; (try with_reducible rfl))); (try simp only [List.getElem_toArray, List.getElem_cons_succ, List.getElem_cons_zero, Act.put, List.setIfInBounds_toArray, List.set_cons_zero, List.set_cons_succ])
          refine wpAnyH_take (i := 6) (oi := _) (v := ?_) rfl (by kernel_rfl) (by kernel_rfl) (by kernel_rfl) (fun _ _ _ h => h) (Or.inl ⟨by rfl, ?_⟩) (by assumption) ?_; rotate_left; (focus (intro w hSw; (try dsimp only at hSw); go_simp; (try with_reducible rfl))); (try simp only [List.getElem_toArray, List.getElem_cons_succ, List.getElem_cons_zero, Act.put, List.setIfInBounds_toArray, List.set_cons_zero, List.set_cons_succ])
          refine wpAnyH_take (i := 7) (oi := _) (v := ?_) rfl (by kernel_rfl) (by kernel_rfl) (by kernel_rfl) (fun _ _ _ h => h) (Or.inl ⟨by rfl, ?_⟩) (by assumption) ?_; rotate_left; (focus (intro w hSw; (try dsimp only at hSw); go_simp; (try with_reducible rfl))); (try simp only [List.getElem_toArray, List.getElem_cons_succ, List.getElem_cons_zero, Act.put, List.setIfInBounds_toArray, List.set_cons_zero, List.set_cons_succ])
          refine wpAnyH_take (i := 8) (oi := _) (v := ?_) rfl (by kernel_rfl) (by kernel_rfl) (by kernel_rfl) (fun _ _ _ h => h) (Or.inl ⟨by rfl, ?_⟩) (by assumption) ?_; rotate_left; (focus (intro w hSw; (try dsimp only at hSw); go_simp; (try with_reducible rfl))); (try simp only [List.getElem_toArray, List.getElem_cons_succ, List.getElem_cons_zero, Act.put, List.setIfInBounds_toArray, List.set_cons_zero, List.set_cons_succ])
          refine wpAnyH_take (i := 9) (oi := _) (v := ?_) rfl (by kernel_rfl) (by kernel_rfl) (by kernel_rfl) (fun _ _ _ h => h) (Or.inl ⟨by rfl, ?_⟩) (by assumption) ?_; rotate_left; (focus (intro w hSw; (try dsimp only at hSw); go_simp; (try with_reducible rfl))); (try simp only [List.getElem_toArray, List.getElem_cons_succ, List.getElem_cons_zero, Act.put, List.setIfInBounds_toArray, List.set_cons_zero, List.set_cons_succ])
          refine wpAnyH_ready (rs := [10]) (by kernel_rfl) (by simp) ?_
          refine AllReadyH.cons (o := _) rfl (fun K hK => ?_) ?_
          · (go_simp; go_at_call 125; refine Calls.mono (HW.out _) ?_; rintro r4 w4 ⟨rfl, hw4⟩; have hb4 : Below wo.heap.size wo w4 := (by rw [hw4]; exact (Below.refl _ _).drew.alloc (Nat.le_refl _) _); have x3 := cell_up c3 hb4; have x4 := cell_up c4 hb4; have x5 := (HF.out.sv.below hb4).lost.lst.free i; have H4 : Hid _ := And.intro hw4 (box_list_ne ((hb4.block _ (t_lt HF.out.sv.box)).trans HF.out.sv.box) (HF.out.sv.below hb4).lost.lst (by decide)); clear hw4 hb4)
            (try go_wp2_with fail)
            refine hK.out _ _ ?_ (fun hHeld => ?_)
            · exact ⟨⟨x3, x3⟩, trivial⟩
            clear hK K
            (try simp only [List.getElem_toArray, List.getElem_cons_succ, List.getElem_cons_zero, Act.put, List.setIfInBounds_toArray, List.set_cons_zero, List.set_cons_succ])
            refine wpAnyH_take (i := 11) (oi := _) (v := ?_) rfl (by kernel_rfl) (by kernel_rfl) (by kernel_rfl) (fun _ _ _ h => h) (Or.inl ⟨by rfl, ?_⟩) (by assumption) ?_; rotate_left; (focus (intro w hSw; (try dsimp only at hSw); go_simp; (try with_reducible rfl))); (try simp only [List.getElem_toArray, List.getElem_cons_succ, List.getElem_cons_zero, Act.put, List.setIfInBounds_toArray, List.set_cons_zero, List.set_cons_succ])
            refine wpAnyH_ready (rs := [12]) (by kernel_rfl) (by simp) ?_
            refine AllReadyH.cons (o := _) rfl (fun K hK => ?_) ?_
            · (go_simp)
              (try go_wp2_with fail)
              refine hK.out _ _ ?_ (fun hHeld => ?_)
              · exact ⟨⟨(World.cell?_of_block (a := ⟨gv, 3, none⟩) (set_other _ _ _ _ _ H4.out.2)).trans x3, (World.cell?_of_block (a := ⟨gv, 3, none⟩) (set_other _ _ _ _ _ H4.out.2)).trans x3⟩, trivial⟩
              clear hK K
              (try simp only [List.getElem_toArray, List.getElem_cons_succ, List.getElem_cons_zero, Act.put, List.setIfInBounds_toArray, List.set_cons_zero, List.set_cons_succ])
              refine wpAnyH_done (by kernel_rfl) ?_ _
              (try go_simp)
              clear hHeld x3 x4 x5
              have hAs := HF.out.aside hlt H4.out.1
              unfold rowV at hAs
              obtain ⟨w5, hw5⟩ : ∃ w5, w5 = w4.setCell ⟨m.gl, i, none⟩ (.slice (some ⟨wo.heap.size, 0, none⟩) d d) := ⟨_, rfl⟩
              rw [← hw5] at hAs
              obtain ⟨t0, ht0, ht1⟩ := nonS_no HE.out.2.symm
              have ht2 := HF.out.bd i t0 (by rw [ht1, Bool.or_true])
              have hMu := Sm.mu_clr HF.out.inv hlt ht2 ht1
              have hFo := follow_any (cl := (rl' i).c) (hd0 (by omega)) HN.out.1 hn HN.out.2 hAs.2.1 hAs.1 (HF.out.inv.mid i) (fun _ _ => rfl) hlt hAs.2.2.1 hAs.2.2.2
              have HFo : Hid _ := And.intro hFo (And.intro hMu (And.intro hw5 hAs.2.1))
              clear hAs hMu hFo hw5 ht0 ht1 ht2
              unfold rowV at HFo
              go_upto_region 5 with fail
              rw [← HFo.out.2.2.1]
              go_wp2_with fail
              refine Calls.mono HFo.out.1 ?_
              rintro r6 w6 ⟨⟨v6, rfl⟩, ⟨ra6, A6, L6, hsv, hinv, hor⟩, hb6⟩
              have H6 : Hid _ := And.intro hsv (And.intro hinv (And.intro hor hb6))
              clear hsv hinv hor hb6
              go_wp2_with fail
              go_roundg (Sm.mu n A6 L6)
              case measure => rw [mu_or H6.out.2.2.1]; exact HFo.out.2.1
              case rel =>
                refine ⟨ra6, _, A6, L6, rfl, HFo.out.2.2.2.next H6.out.2.2.2, H6.out.1, H6.out.2.1, fun x y hxy => HF.out.bd x y ?_⟩
                rw [H6.out.2.2.1] at hxy
                revert hxy
                unfold Sm.clr
                split <;> cases A' x y <;> simp
            exact AllReadyH.nil
          exact AllReadyH.nil
        · go_wp2_with fail
          go_roundg (n - (i + 1))
          case measure => omega
          case rel => exact ⟨i + 1, rfl, by omega, by go_num, rfl, fun p hp => by
            rcases Nat.lt_or_ge p i with h1 | h1
            · exact HA.out p h1
            · obtain rfl : p = i := by omega
              exact HE.out.2.symm⟩
      · obtain rfl : i = n := by omega
        have q1 : ¬ (i : Int) < (i : Int) := by omega
        go_wp2_with fail
        (try rw [Exit.noGoto_normal])
        go_end0
        exact ⟨⟨_, rfl⟩, ra', rl', A', L', HF.out, fun p q hp hq => nonS_yes (HA.out p hp) (by have := HN.out.1; unfold Br.wds at this; omega)⟩
end
section
open Go.RowKit Go.Maps
end
section
open Go.RowKit Go.Maps
attribute [local go_sem ↓] Go.wp_at_zero Go.wp_at_succ
def Sy.degTo (l : List Sy.Ed) : Nat → Nat
  | 0 => 0
  | st + 1 => max (Sy.degTo l st) (Sy.steps l (st : Int)).length
theorem rowOf_in {n q : Nat} (l : List Sy.Ed) (h : q < n) : Sy.rowOf n l (q : Int) = Sy.steps l q := by
  unfold Sy.rowOf
  rw [if_pos ⟨by omega, by omega⟩]
def Sy.marked (bs : List Bool) : List Int := ((List.range bs.length).filter fun p => bs[p]? == some true).map fun (p : Nat) => (p : Int)
structure RpAt (w wr : World) (gi : Nat) (u : Value) (zs : List Int) (bs : List Bool) : Prop where
  inn : Arr 4 w wr gi (bC bs)
  lst : OwnI wr w.heap.size u zs
end
section
open Go.RowKit Go.Maps
attribute [local go_sem ↓] Go.wp_at_zero Go.wp_at_succ
def Sy.es1 (st : Int) (zs : List BSteps.El) : List Sy.Ed := zs.map fun x => (st, x.1, x.2)
theorem Sy.es1_steps (l : List Sy.Ed) (st : Int) : Sy.es1 st (Sy.steps l st) = l.filter fun e => e.1 == st := by
  unfold Sy.es1 Sy.steps
  rw [List.map_map]
  have h : ∀ e ∈ l.filter (fun e => e.1 == st), ((fun x : BSteps.El => (st, x.1, x.2)) ∘ fun e : Sy.Ed => (e.2.1, e.2.2)) e = e := fun e he => by
    have := (List.mem_filter.1 he).2
    simp at this
    obtain ⟨a, b, c⟩ := e
    simp at this
    simp [this]
  rw [List.map_congr_left h]
  simp
theorem Sy.take_row {l : List Sy.Ed} (h : Sy.Rows l) (st : Int) : l.take (Sy.cnt l st) ++ Sy.es1 st (Sy.steps l st) = l.take (Sy.cnt l (st + 1)) := by
  rw [Sy.es1_steps, Sy.row_piece h st]
  have h1 := Sy.cnt_mono l st
  conv => rhs; rw [show Sy.cnt l (st + 1) = Sy.cnt l st + (Sy.cnt l (st + 1) - Sy.cnt l st) by omega, List.take_add]
theorem Sy.es1_snoc {st : Int} {zs : List BSteps.El} {k : Nat} {x : BSteps.El} (h : zs[k]? = some x) : Sy.es1 st (zs.take (k + 1)) = Sy.es1 st (zs.take k) ++ [(st, x.1, x.2)] := by
  rw [take_succ_of h]
  simp [Sy.es1]
theorem Sy.es1_len (st : Int) (zs : List BSteps.El) : (Sy.es1 st zs).length = zs.length := by simp [Sy.es1]
theorem Sy.take_all {n k s : Int} {es : List Sy.Ed} (h : Sy.right n k s es = true) : (Sy.nf es).take (Sy.cnt (Sy.nf es) n) = Sy.nf es := by
  rw [Sy.cnt_all fun e he => ((right_parts h).2.2.2.2.2 e ((Sy.nf_mem es e).1 he)).2.1, List.take_length]
theorem Sy.take_none {n k s : Int} {es : List Sy.Ed} (h : Sy.right n k s es = true) : (Sy.nf es).take (Sy.cnt (Sy.nf es) 0) = [] := by
  rw [Sy.cnt_none fun e he => by have := ((right_parts h).2.2.2.2.2 e ((Sy.nf_mem es e).1 he)).1; omega]
  rfl
set_option maxRecDepth 100000 in
set_option maxHeartbeats 8000000 in
theorem edges_any {B g bs bb cs cb n : Nat} {k s : Int} {es : List Sy.Ed} (w : World) (h : Gr w B g bs bb cs cb n k s es) : Calls Tryz.prog 121 #[.pointer (some ⟨g, 0, none⟩)] w fun r w' => ∃ u, r = .returned u ∧ BEdges.Own w' w.heap.size u (Sy.nf es) ∧ Below w.heap.size w w' := by
  obtain ⟨i0, hi0, hz0, hz1, hz2⟩ := info_parts BEdges.Tryz.infoE
  have hSt := states_any w h
  have hs := h.sizes
  have HG : Hid _ := And.intro h (And.intro hSt hs)
  have hn : n ≤ 1000 := hs.1
  obtain ⟨l, hl⟩ : ∃ l, l = Sy.nf es := ⟨_, rfl⟩
  have HL : Hid (l = Sy.nf es ∧ Sy.Rows l ∧ l.take (Sy.cnt l 0) = [] ∧ l.take (Sy.cnt l n) = l) := (by rw [hl]; exact ⟨rfl, nf_rows es, Sy.take_none h.right, Sy.take_all h.right⟩ : l = Sy.nf es ∧ Sy.Rows l ∧ l.take (Sy.cnt l 0) = [] ∧ l.take (Sy.cnt l n) = l)
  rw [← hl]
  clear h hSt hs hl
  go_enter Tryz.func121, Tryz.ntmps121
  go_wp2_with (go_at_call 118; refine Calls.mono HG.out.2.1 ?_; rintro r w1 ⟨rfl, hw⟩; obtain rfl := hw.symm)
  go_loopg [3, 9] n (fun q uv iv wr => ∃ st : Nat, q = n - st ∧ st ≤ n ∧ iv = .int .i64 st ∧ BEdges.Own wr w.heap.size uv (l.take (Sy.cnt l (st : Int))) ∧ Below w.heap.size w wr)
  case atStart => exact ⟨0, rfl, Nat.zero_le _, rfl, by show BEdges.Own w w.heap.size _ (l.take (Sy.cnt l 0)); rw [HL.out.2.2.1]; exact World.ownsRow_nil _ _ _ _, Below.refl _ _⟩
  case round =>
    obtain ⟨st, rfl, hst, rfl, hO, hb⟩ := hrel
    obtain ⟨wq, rfl⟩ : ∃ wq, wq = wr := ⟨_, rfl⟩
    by_cases hlt : st < n
    · have hG := HG.out.1.below hb
      obtain ⟨_, _, _, ⟨c0, c1⟩, _, _⟩ := hG.cells
      have hR := hG.row (st : Int)
      have hT := hG.out
      obtain ⟨L, hL⟩ : ∃ L, L = (Sy.nf es).length := ⟨_, rfl⟩
      have hl1 := Sy.steps_len (Sy.nf es) (st : Int)
      have hsz := HG.out.2.2.2
      rw [rowOf_in _ hlt] at hR
      have HR : Hid _ := And.intro hR (And.intro hb (And.intro hO (And.intro hL hT)))
      rw [← hL] at HR c0 hsz hl1
      have r1 : (st : Int) < (n : Int) := by omega
      clear hG hR hb hL hT hO
      go_wp2_with fail
      refine Calls.mono HR.out.1 ?_
      rintro r w1 ⟨v, rfl, hv, hb1⟩
      obtain ⟨av, cv, rfl, _⟩ := hv wq HR.out.2.2.2.2
      obtain ⟨M, hM⟩ : ∃ M, M = (Sy.steps (Sy.nf es) (st : Int)).length := ⟨_, rfl⟩
      rw [← hM]
      rw [← hM] at hv hl1
      have H1 : Hid _ := And.intro hv (And.intro hb1 hM)
      clear hv hb1 hM c0 c1
      go_wp2_with fail
      go_loopg [3, 19] M (fun q uv kv wr => ∃ k2 : Nat, q = M - k2 ∧ k2 ≤ M ∧ kv = .int .i64 k2 ∧ BEdges.Own wr w.heap.size uv (l.take (Sy.cnt l (st : Int)) ++ Sy.es1 st ((Sy.steps l st).take k2)) ∧ Below w.heap.size w wr)
      case atStart =>
        refine ⟨0, rfl, Nat.zero_le _, rfl, ?_, HR.out.2.1.trans (H1.out.2.1.mono HR.out.2.1.size)⟩
        have h1 : l.take (Sy.cnt l (st : Int)) ++ Sy.es1 st ((Sy.steps l st).take 0) = l.take (Sy.cnt l (st : Int)) := by simp [Sy.es1]
        rw [h1]
        exact trow_at HR.out.2.2.1 fun b hb => H1.out.2.1.block b (HR.out.2.2.1.lt b hb).2
      case round =>
        obtain ⟨k2, rfl, hk, rfl, hO, hb⟩ := hrel
        obtain ⟨ys, hys⟩ : ∃ ys, ys = l.take (Sy.cnt l (st : Int)) ++ Sy.es1 st ((Sy.steps l st).take k2) := ⟨_, rfl⟩
        rw [← hys] at hO
        obtain ⟨au, cu, hu⟩ := row_shape hO
        obtain ⟨N, hN⟩ : ∃ N, N = ys.length := ⟨_, rfl⟩
        rw [← hN] at hu
        subst hu
        have hys1 : N ≤ 100000 := by
          have h2 := List.length_take_le (Sy.cnt l (st : Int)) l
          have h3 := Sy.cnt_le l (st : Int)
          have h4 := List.length_take_le k2 (Sy.steps l st)
          have h5 := HG.out.2.2.2
          rw [← HL.out.1] at h5
          rw [hN, hys, List.length_append, Sy.es1_len]
          omega
        by_cases hkm : k2 < M
        · obtain ⟨x, hx⟩ : ∃ x, (Sy.steps l st)[k2]? = some x := ⟨(Sy.steps l st)[k2]'(by have := H1.out.2.2; rw [← HL.out.1] at this; omega), List.getElem?_eq_getElem _⟩
          have hx' := hx
          rw [HL.out.1] at hx'
          obtain ⟨a, rfl, d0, d1⟩ := step_at (H1.out.1 wr (HG.out.1.out.below hb)) hx'
          have hs1 := Sy.es1_snoc (st := (st : Int)) hx
          obtain ⟨x1, x2⟩ := x
          simp only at d0 d1 hs1
          obtain ⟨wb, hwb⟩ : ∃ wb, wb = wr.alloc (.cells #[.int .i64 x1, .int .i64 x2] 115) := ⟨_, rfl⟩
          have hbb : Below wr.heap.size wr wb := by rw [hwb]; exact (Below.refl _ _).alloc (Nat.le_refl _) _
          have hgb : wb.heap[wr.heap.size]? = some (.cells #[.int .i64 x1, .int .i64 x2] 115 (0, 0)) := by rw [hwb]; exact heap_alloc_new wr _
          have f0 : wb.cell? ⟨wr.heap.size, 0, none⟩ = some (.int .i64 x1) := cell0_of hgb rfl
          have f1 : wb.cell? ⟨wr.heap.size, 1, none⟩ = some (.int .i64 x2) := cell0_of hgb rfl
          have hOb : BEdges.Own wb w.heap.size (.slice au N cu) ys := trow_at hO fun b hb => hbb.block b (hO.lt b hb).2
          have hOz : wb.ownsRow w.heap.size 66 3 (.slice au N cu) N (BEdges.C ys) := by have h1 := hOb; unfold BEdges.Own at h1; rw [← hN] at h1; exact h1
          have hbw : Below w.heap.size w wb := hb.trans (hbb.mono hb.size)
          have hle : w.heap.size ≤ (wb.alloc (.cells #[.int .i64 st, .int .i64 x1, .int .i64 x2] 66)).heap.size := by have := hbw.size; simp; omega
          have hml : N + 1 ≤ maxLen := by unfold maxLen; omega
          have hby : (N + 1) * 24 ≤ 140737488355328 := by omega
          have k0 : (0 : Int) ≤ (k2 : Int) := by omega
          have k1 : (k2 : Int) < (M : Int) := by omega
          have HZ : Hid _ := And.intro hOz (And.intro hbw (And.intro hwb (And.intro hys (And.intro hs1 hN))))
          clear hO hOb hOz hbw hwb hbb hgb hys hs1 hN hx hx' hb
          go_upto_region 8 with fail
          rw [← HZ.out.2.2.1]
          go_wp2_with (at_builtin; refine wpList_append_own_at _ rfl _ _ 22 rfl w.heap.size 66 i0 (.agg #[.int .i64 0, .int .i64 0, .int .i64 0]) 3 24 Tryz.underlying22 hi0 hz0 hz1 hz2 rfl (by decide) (.slice au N cu) N (BEdges.C ys) rfl (HZ.out.1.alloc _) ⟨wb.heap.size, 0, none⟩ 1 1 [.int .i64 st, .int .i64 x1, .int .i64 x2] rfl rfl (World.news_of_block (cs := #[.int .i64 st, .int .i64 x1, .int .i64 x2]) (t := 66) (fr := (0, 0)) (heap_alloc_new wb _)) (by simp [Value.oneCell']) hml hby hle ?_; intro v5 w5 hO5 hg5 hnil5 hat5; have H2 : Hid _ := And.intro hO5 hg5; clear hO5 hg5 hnil5 hat5)
          go_roundg (M - (k2 + 1))
          case measure => omega
          case rel =>
            refine ⟨k2 + 1, rfl, by omega, by go_num, ?_, ?_⟩
            · rw [HZ.out.2.2.2.2.1, ← List.append_assoc, ← HZ.out.2.2.2.1]
              unfold BEdges.Own
              rw [BEdges.C_snoc, List.length_append, ← HZ.out.2.2.2.2.2]
              exact H2.out.1
            · exact HZ.out.2.1.trans ((grown_alloc H2.out.2).below HZ.out.2.1.size fun b hb => (HZ.out.1.lt b hb).1)
        · obtain rfl : k2 = M := by omega
          have k1 : ¬ (k2 : Int) < (k2 : Int) := by omega
          have hfull : ys = l.take (Sy.cnt l ((st : Int) + 1)) := by
            have ht : (Sy.steps l st).take k2 = Sy.steps l st := List.take_of_length_le (by have := H1.out.2.2; rw [← HL.out.1] at this; omega)
            rw [hys, ht]
            exact Sy.take_row HL.out.2.1 st
          have HJ : Hid _ := And.intro hO (And.intro hfull (And.intro hb hN))
          clear hO hfull hb hN hys
          go_wp2_with fail
          go_roundg (n - (st + 1))
          case measure => omega
          case rel =>
            refine ⟨st + 1, rfl, by omega, by go_num, ?_, HJ.out.2.2.1⟩
            rw [show (((st + 1 : Nat) : Int)) = (st : Int) + 1 by omega, ← HJ.out.2.1]
            exact HJ.out.1
    · obtain rfl : st = n := by omega
      have r1 : ¬ (st : Int) < (st : Int) := by omega
      rw [HL.out.2.2.2] at hO
      have HJ : Hid _ := And.intro hO hb
      obtain ⟨au, cu, hu⟩ := row_shape hO
      obtain ⟨N, hN⟩ : ∃ N, N = l.length := ⟨_, rfl⟩
      rw [← hN] at hu
      subst hu
      clear hO hb hN
      go_wp2_with fail
      go_ret
      exact ⟨_, rfl, HJ.out.1, HJ.out.2⟩
end
section
open Go.RowKit Go.Maps
attribute [local go_sem ↓] Go.wp_at_zero Go.wp_at_succ
set_option maxRecDepth 100000 in
theorem labelsG_any {B g bs bb cs cb n : Nat} {k s : Int} {es : List Sy.Ed} (w : World) (h : Gr w B g bs bb cs cb n k s es) : Calls Tryz.prog 119 #[.pointer (some ⟨g, 0, none⟩)] w fun r w' => r = .returned (.int .i64 k) ∧ w' = w := by
  obtain ⟨_, c1, _, _, _, _⟩ := h.cells
  have hq := Tryz.eqG g
  clear h
  go_enter Tryz.func119, Tryz.ntmps119
  go_wp2
  go_ret
  exact ⟨rfl, rfl⟩
theorem off_mul {g d p q : Nat} (h : q ≠ p) : Lc.off d ⟨g, q * d, d⟩ ⟨g, p * d, d⟩ := by
  refine .inr ?_
  show q * d + d ≤ p * d ∨ p * d + d ≤ q * d
  rcases Nat.lt_or_ge q p with h1 | h1
  · have := Nat.mul_le_mul_right d (Nat.succ_le_of_lt h1)
    rw [Nat.succ_mul] at this
    exact .inl this
  · have := Nat.mul_le_mul_right d (Nat.succ_le_of_lt (Nat.lt_of_le_of_ne h1 fun e => h e.symm))
    rw [Nat.succ_mul] at this
    exact .inr this
theorem rws_of_sev {w w' : World} {B g0 g1 n d : Nat} (h : Sev w w' g0 g1 n d) (hB : B ≤ w.heap.size) : Rws w' B g1 n d (fun p => ⟨g0, p * d, d⟩) fun _ _ => false :=
  ⟨h.rw, fun _ hp => h.row hp, Nat.le_trans hB h.u1, fun _ _ => Nat.le_trans hB h.u0⟩
structure Bld (w wr : World) (gv gr n k d : Nat) (m : Ml) (aw lw i : Nat) (Z : Nat → Nat → Nat → Bool) (A L : Nat → Nat → Bool) : Prop where
  bl : Below w.heap.size w wr
  box : wr.heap[gv]? = some (.cells #[.pointer (some ⟨gr, 0, none⟩), .slice (some ⟨m.ge, 0, none⟩) k k, .slice (some ⟨m.ga, 0, none⟩) n n, .slice (some ⟨m.gl, 0, none⟩) n n] 123 (0, 0))
  uv : w.heap.size ≤ gv
  ue : w.heap.size ≤ m.ge
  ends : ListAt 70 wr m.ge k fun a => if a < i then .slice (some ⟨m.er a, 0, none⟩) n n else .slice none 0 0
  end1 : ∀ a, a < i → Rws wr w.heap.size (m.er a) n d (fun p => ⟨m.ew a, p * d, d⟩) (Z a)
  above : Rws wr w.heap.size m.ga n d (fun p => ⟨aw, p * d, d⟩) A
  lost : Rws wr w.heap.size m.gl n d (fun p => ⟨lw, p * d, d⟩) L
  nal : aw ≠ lw
  gal : m.ga ≠ m.gl
  nea : ∀ a, a < i → m.ew a ≠ aw ∧ m.ew a ≠ lw ∧ m.er a ≠ m.ga ∧ m.er a ≠ m.gl
  nee : ∀ a a', a < i → a' < i → a ≠ a' → m.ew a ≠ m.ew a'
  lt : aw < wr.heap.size ∧ lw < wr.heap.size ∧ ∀ a, a < i → m.ew a < wr.heap.size
theorem Bld.below {w wr w' : World} {gv gr n k d : Nat} {m : Ml} {aw lw i : Nat} {Z : Nat → Nat → Nat → Bool} {A L : Nat → Nat → Bool} (h : Bld w wr gv gr n k d m aw lw i Z A L) (hb : Below wr.heap.size wr w') : Bld w w' gv gr n k d m aw lw i Z A L :=
  ⟨h.bl.trans (hb.mono h.bl.size), (hb.block _ (t_lt h.box)).trans h.box, h.uv, h.ue, h.ends.below hb, fun a ha => (h.end1 a ha).below hb, h.above.below hb, h.lost.below hb, h.nal, h.gal, h.nea, h.nee, by have := hb.size; have := h.lt; exact ⟨by omega, by omega, fun a ha => by have := h.lt.2.2 a ha; omega⟩⟩
theorem Bld.cells {w wr : World} {gv gr n k d : Nat} {m : Ml} {aw lw i : Nat} {Z : Nat → Nat → Nat → Bool} {A L : Nat → Nat → Bool} (h : Bld w wr gv gr n k d m aw lw i Z A L) : wr.cell? ⟨gv, 1, none⟩ = some (.slice (some ⟨m.ge, 0, none⟩) k k) ∧ wr.cell? ⟨gv, 2, none⟩ = some (.slice (some ⟨m.ga, 0, none⟩) n n) ∧ wr.cell? ⟨gv, 3, none⟩ = some (.slice (some ⟨m.gl, 0, none⟩) n n) := ⟨cell0_of h.box rfl, cell0_of h.box rfl, cell0_of h.box rfl⟩
theorem Bld.more {w wr w4 : World} {gv gr n k d g0 g1 : Nat} {m : Ml} {aw lw i : Nat} {A L : Nat → Nat → Bool} (h : Bld w wr gv gr n k d m aw lw i (fun _ _ _ => false) A L) (hs : Sev wr w4 g0 g1 n d) (h01 : g0 < w4.heap.size) : Bld w (w4.setCell ⟨m.ge, i, none⟩ (.slice (some ⟨g1, 0, none⟩) n n)) gv gr n k d { m with er := upm m.er i g1, ew := upm m.ew i g0 } aw lw (i + 1) (fun _ _ _ => false) A L := by
  have h4 := h.below hs.bl
  have hne : gv ≠ m.ge := box_list_ne h4.box h4.ends (by decide)
  have hne2 : ∀ {g mm : Nat} {f : Nat → Value}, ListAt 75 w4 g mm f → g ≠ m.ge := fun hl => list_list_ne hl h4.ends (by decide)
  have hset : ∀ {g nn dd : Nat} {r : Nat → Lc} {X : Nat → Nat → Bool}, Rws w4 w.heap.size g nn dd r X → Rws (w4.setCell ⟨m.ge, i, none⟩ (.slice (some ⟨g1, 0, none⟩) n n)) w.heap.size g nn dd r X := fun hR => hR.other h4.ends (by decide) (hne2 hR.lst)
  have l0 := h.lt
  have u0 := hs.u0
  have u1 := hs.u1
  have hga := h.above.lst.lt
  have hgl := h.lost.lst.lt
  have hsz : (w4.setCell ⟨m.ge, i, none⟩ (.slice (some ⟨g1, 0, none⟩) n n)).heap.size = w4.heap.size := by simp [World.setCell]
  refine ⟨h4.bl.trans ((Kept.setCell w4 m.ge i _).below h4.bl.size fun x hx => by have := h.ue; omega), (set_other _ _ _ _ _ hne).trans h4.box, h.uv, h.ue, (h4.ends.put _).congr fun a _ => ?_, fun a ha => ?_, hset h4.above, hset h4.lost, h.nal, h.gal, fun a ha => ?_, fun a a' ha ha' hn => ?_, ?_⟩
  · show (if a = i then _ else _) = _
    by_cases e : a = i
    · subst e; rw [if_pos rfl, if_pos (by omega)]; show _ = Value.slice (some ⟨upm m.er a g1 a, 0, none⟩) n n; rw [upm_same]
    · rw [if_neg e]
      by_cases e2 : a < i
      · rw [if_pos e2, if_pos (by omega)]; show _ = Value.slice (some ⟨upm m.er i g1 a, 0, none⟩) n n; rw [upm_ne _ _ e]
      · rw [if_neg e2, if_neg (by omega)]
  · show Rws _ _ (upm m.er i g1 a) n d (fun p => ⟨upm m.ew i g0 a, p * d, d⟩) _
    by_cases e : a = i
    · subst e; rw [upm_same, upm_same]; exact hset (rws_of_sev hs h.bl.size)
    · rw [upm_ne _ _ e, upm_ne _ _ e]; exact hset (h4.end1 a (by omega))
  · show upm m.ew i g0 a ≠ aw ∧ upm m.ew i g0 a ≠ lw ∧ upm m.er i g1 a ≠ m.ga ∧ upm m.er i g1 a ≠ m.gl
    by_cases e : a = i
    · subst e; rw [upm_same, upm_same]; omega
    · rw [upm_ne _ _ e, upm_ne _ _ e]; exact h.nea a (by omega)
  · show upm m.ew i g0 a ≠ upm m.ew i g0 a'
    by_cases e : a = i
    · subst e; rw [upm_same, upm_ne _ _ fun e => hn e.symm]; have := l0.2.2 a' (by omega); omega
    · rw [upm_ne _ _ e]
      by_cases e2 : a' = i
      · subst e2; rw [upm_same]; have := l0.2.2 a (by omega); omega
      · rw [upm_ne _ _ e2]; exact h.nee a a' (by omega) (by omega) hn
  · rw [hsz]
    have := hs.bl.size
    refine ⟨by omega, by omega, fun a ha => ?_⟩
    show upm m.ew i g0 a < _
    by_cases e : a = i
    · subst e; rw [upm_same]; exact h01
    · rw [upm_ne _ _ e]; have := l0.2.2 a (by omega); omega
theorem Bld.end_ {w wr w' : World} {gv gr n k d a p : Nat} {m : Ml} {aw lw i : Nat} {Z : Nat → Nat → Nat → Bool} {A L : Nat → Nat → Bool} {T : Nat → Bool} (h : Bld w wr gv gr n k d m aw lw i Z A L) (ha : a < i) (hp : p < n) (hw : Wr (m.ew a) (p * d) d wr w') (hT : RowAt w' (m.ew a) (p * d) d T) : Bld w w' gv gr n k d m aw lw i (upm Z a (upm (Z a) p T)) A L := by
  have hS := (h.end1 a ha).row p hp
  have hn := h.nea a ha
  refine ⟨h.bl.trans (hw.below h.bl.size ((h.end1 a ha).ur p hp)), (hw.kp.block _ (t_lt h.box) (box_row_ne h.box hS (by decide))).trans h.box, h.uv, h.ue, h.ends.kept hw.kp (row_list_ne (i := 0) hS h.ends (by decide) rfl), fun x hx => ?_, h.above.wr hw hS fun q hq => .inl fun e => hn.1 e.symm, h.lost.wr hw hS fun q hq => .inl fun e => hn.2.1 e.symm, h.nal, h.gal, h.nea, h.nee, by have := hw.kp.size; have := h.lt; exact ⟨by omega, by omega, fun x hx => by have := h.lt.2.2 x hx; omega⟩⟩
  by_cases e : x = a
  · subst e; rw [upm_same]; exact (h.end1 x ha).put hp hw hT fun q _ hne => off_mul hne
  · rw [upm_ne _ _ e]; exact (h.end1 x hx).wr hw hS fun q hq => .inl (h.nee x a hx ha e)
theorem Bld.away {w wr w' : World} {gv gr n k d b o dk : Nat} {m : Ml} {aw lw i : Nat} {Z : Nat → Nat → Nat → Bool} {A L : Nat → Nat → Bool} {S : Nat → Bool} (h : Bld w wr gv gr n k d m aw lw i Z A L) (hw : Wr b o dk wr w') (hS : RowAt wr b o dk S) (hb : w.heap.size ≤ b) (h1 : b ≠ aw) (h2 : b ≠ lw) (h3 : ∀ a, a < i → b ≠ m.ew a) : Bld w w' gv gr n k d m aw lw i Z A L := by
  have far : ∀ {g : Nat} {r : Nat → Lc} {X : Nat → Nat → Bool}, Rws wr w.heap.size g n d r X → (∀ p, p < n → (r p).b ≠ b) → Rws w' w.heap.size g n d r X := fun hR hr =>
    ⟨hR.lst.kept hw.kp (row_list_ne (i := 0) hS hR.lst (by decide) rfl), fun p hp => (hR.row p hp).kept hw.kp (hr p hp), hR.ug, hR.ur⟩
  exact ⟨h.bl.trans (hw.below h.bl.size hb), (hw.kp.block _ (t_lt h.box) (box_row_ne h.box hS (by decide))).trans h.box, h.uv, h.ue, h.ends.kept hw.kp (row_list_ne (i := 0) hS h.ends (by decide) rfl), fun x hx => far (h.end1 x hx) fun p hp e => h3 x hx e.symm, far h.above fun p hp e => h1 e.symm, far h.lost fun p hp e => h2 e.symm, h.nal, h.gal, h.nea, h.nee, by have := hw.kp.size; have := h.lt; exact ⟨by omega, by omega, fun x hx => by have := h.lt.2.2 x hx; omega⟩⟩
theorem Bld.ab {w wr w' : World} {gv gr n k d p : Nat} {m : Ml} {aw lw i : Nat} {Z : Nat → Nat → Nat → Bool} {A L : Nat → Nat → Bool} {T : Nat → Bool} (h : Bld w wr gv gr n k d m aw lw i Z A L) (hp : p < n) (hw : Wr aw (p * d) d wr w') (hT : RowAt w' aw (p * d) d T) : Bld w w' gv gr n k d m aw lw i Z (upm A p T) L := by
  have hS := h.above.row p hp
  exact ⟨h.bl.trans (hw.below h.bl.size (h.above.ur p hp)), (hw.kp.block _ (t_lt h.box) (box_row_ne h.box hS (by decide))).trans h.box, h.uv, h.ue, h.ends.kept hw.kp (row_list_ne (i := 0) hS h.ends (by decide) rfl), fun x hx => (h.end1 x hx).wr hw hS fun q _ => .inl (h.nea x hx).1, h.above.put hp hw hT fun q _ hne => off_mul hne, h.lost.wr hw hS fun q _ => .inl fun e => h.nal e.symm, h.nal, h.gal, h.nea, h.nee, by have := hw.kp.size; have := h.lt; exact ⟨by omega, by omega, fun x hx => by have := h.lt.2.2 x hx; omega⟩⟩
theorem Bld.lo {w wr w' : World} {gv gr n k d p : Nat} {m : Ml} {aw lw i : Nat} {Z : Nat → Nat → Nat → Bool} {A L : Nat → Nat → Bool} {T : Nat → Bool} (h : Bld w wr gv gr n k d m aw lw i Z A L) (hp : p < n) (hw : Wr lw (p * d) d wr w') (hT : RowAt w' lw (p * d) d T) : Bld w w' gv gr n k d m aw lw i Z A (upm L p T) := by
  have hS := h.lost.row p hp
  exact ⟨h.bl.trans (hw.below h.bl.size (h.lost.ur p hp)), (hw.kp.block _ (t_lt h.box) (box_row_ne h.box hS (by decide))).trans h.box, h.uv, h.ue, h.ends.kept hw.kp (row_list_ne (i := 0) hS h.ends (by decide) rfl), fun x hx => (h.end1 x hx).wr hw hS fun q _ => .inl (h.nea x hx).2.1, h.above.wr hw hS fun q _ => .inl h.nal, h.lost.put hp hw hT fun q _ hne => off_mul hne, h.nal, h.gal, h.nea, h.nee, by have := hw.kp.size; have := h.lt; exact ⟨by omega, by omega, fun x hx => by have := h.lt.2.2 x hx; omega⟩⟩
end
end Go.Proofs.YtibdgefjpcebkaaGreatDoor
