/- Texts of this claim, joined: SmSift, SoInts, SyRch, SyEdg, SmOf0. -/
import Derived.Test.YtladdlkfnfdhaaaDoorPart8
import Derived.OrdersHeld
import Derived.WalkMore
import Derived.Deep.LoopGhost
import Derived.Test.YtladdlkfnfdhaaaDoorPart0
import Derived.Test.YtladdlkfnfdhaaaDoorPart4
import Derived.Sort.OwnSortedInts
import Derived.Test.YtladdlkfnfdhaaaDoorPart6
import Derived.Deep.AppendLies
import Derived.Maps.AppendAt
namespace Go.Proofs.YtladdlkfnfdhaaaDoor
section
open Go.RowKit Go.Maps
attribute [local go_sem ↓] Go.wp_at_zero Go.wp_at_succ
theorem mu_or {n : Nat} {A L A' L' : Nat → Nat → Bool} (h : ∀ x y, (A' x y || L' x y) = (A x y || L x y)) : Sm.mu n A' L' = Sm.mu n A L := by
  unfold Sm.mu
  congr 1
  funext i
  exact h _ _
theorem nonS_no {S : Nat → Bool} {N : Nat} (h : nonS S N = false) : ∃ q, q < N ∧ S q = true := by
  unfold nonS at h
  obtain ⟨q, hq, h2⟩ := List.all_eq_false.1 h
  exact ⟨q, List.mem_range.1 hq, by simpa using h2⟩
theorem nonS_yes {S : Nat → Bool} {N q : Nat} (h : nonS S N = true) (hq : q < N) : S q = false := by
  unfold nonS at h
  simpa using List.all_eq_true.1 h q (List.mem_range.2 hq)
/-- A sieve between two rounds. -/
structure SfAt (w0 w : World) (B0 gr bs bb cs cb n : Nat) (kk s : Int) (gv k d : Nat) (m : Ml) (es : List Sy.Ed) (ra rl : Nat → Lc) (A L : Nat → Nat → Bool) : Prop where
  e : SmE w0 w B0 gr bs bb cs cb n kk s es
  sv : SvM w w0.heap.size gv gr n k d m ra rl es A L
  inv : Sm.Inv n (EE es) A L
  bd : ∀ x y, (A x y || L x y) = true → y < n
/-- A state's lost ones are put aside. -/
theorem SfAt.aside {w0 wr w4 : World} {B0 gr bs bb cs cb n : Nat} {kk s : Int} {gv k d st : Nat} {m : Ml} {es : List Sy.Ed} {ra rl : Nat → Lc} {A L : Nat → Nat → Bool} (h : SfAt w0 wr B0 gr bs bb cs cb n kk s gv k d m es ra rl A L) (hst : st < n) (hw4 : w4 = wr.drew.alloc (.cells (madeV (.int .u64 0) d) 99)) :
    SvM (w4.setCell ⟨m.gl, st, none⟩ (rowV wr.heap.size 0 d d)) w0.heap.size gv gr n k d m ra (upd rl st ⟨wr.heap.size, 0, d⟩) es A (Sm.clr L st) ∧ SmE w0 (w4.setCell ⟨m.gl, st, none⟩ (rowV wr.heap.size 0 d d)) B0 gr bs bb cs cb n kk s es ∧ RowAt (w4.setCell ⟨m.gl, st, none⟩ (rowV wr.heap.size 0 d d)) (rl st).b (rl st).o d (L st) ∧ ∀ q, q < n → Lc.off d ⟨(rl st).b, (rl st).o, 0⟩ (upd rl st ⟨wr.heap.size, 0, d⟩ q) := by
  have hb4 : Below wr.heap.size wr w4 := by rw [hw4]; exact (Below.refl _ _).drew.alloc (Nat.le_refl _) _
  have hR4 : RowAt w4 wr.heap.size 0 d fun _ => false := by
    rw [hw4]
    exact rowAt_new wr.drew d d 0 (by omega)
  have hs4 := h.sv.below hb4
  have hf := h.sv.fresh (y := ⟨wr.heap.size, 0, d⟩) (Nat.le_refl _)
  have hlt := (h.sv.lost.row st hst).lt
  have h5 := hs4.setLost (p := st) ⟨wr.heap.size, 0, d⟩ hR4 h.e.b.size (fun q hq _ => hf.1 q hq) hf.2.1 (hf.2.2 (by omega))
  refine ⟨h5.congr (fun _ _ _ _ => rfl) fun x q _ _ => ?_, h.e.next ((hb4.mono h.e.b.size).trans ((Kept.setCell w4 m.gl st _).below (Nat.le_trans h.e.b.size hb4.size) fun i hi => by have := h.sv.lost.ug; omega)), (hs4.lost.row st hst).lists hs4.lost.lst (by decide), fun q hq => ?_⟩
  · unfold upd Sm.clr
    by_cases e : x = st <;> simp [e]
  · by_cases e : q = st
    · subst e; rw [upd_same]; exact .inl (by show (rl q).b ≠ wr.heap.size; omega)
    · rw [upd_ne _ _ e]
      exact h.sv.apll st q hst hq fun e2 => e e2.symm
set_option linter.unusedSimpArgs false in
set_option maxRecDepth 100000 in
set_option maxHeartbeats 8000000 in
theorem smSift_any {w0 w : World} {B0 gr bs bb cs cb n : Nat} {kk s : Int} {gv k d : Nat} {m : Ml} {ra rl : Nat → Lc} {es : List Sy.Ed} {A L : Nat → Nat → Bool} (hd0 : 0 < n → 0 < d) (hd : d = Br.wds n) (hn : n ≤ 1000) (hkk : kk = (k : Int)) (h : SfAt w0 w B0 gr bs bb cs cb n kk s gv k d m es ra rl A L) :
    Calls Tryd.prog 34 #[.pointer (some ⟨gv, 0, none⟩)] w fun r w' => (∃ v, r = .returned v) ∧ ∃ ra' rl' A' L', SfAt w0 w' B0 gr bs bb cs cb n kk s gv k d m es ra' rl' A' L' ∧ ∀ p q, p < n → q < n → L' p q = false := by
  have hdd : d ≤ 10000 := by rw [hd]; unfold Br.wds; omega
  have HN : Hid (d = Br.wds n ∧ kk = (k : Int)) := ⟨hd, hkk⟩
  have H0 : Hid (SfAt w0 w B0 gr bs bb cs cb n kk s gv k d m es ra rl A L) := h
  clear h hd hkk
  go_enter Tryd.func34, Tryd.ntmps34
  go_wp2_with fail
  go_step3
  go_wp2_with fail
  go_step3
  go_wp2_with fail
  go_loopg [2] (Sm.mu n A L) (fun q _ wr => ∃ (ra' rl' : Nat → Lc) (A' L' : Nat → Nat → Bool), q = Sm.mu n A' L' ∧ SfAt w0 wr B0 gr bs bb cs cb n kk s gv k d m es ra' rl' A' L')
  case atStart => exact ⟨ra, rl, A, L, rfl, H0.out⟩
  case round =>
    obtain ⟨ra', rl', A', L', rfl, hF⟩ := hrel
    obtain ⟨wo, rfl⟩ : ∃ wo, wo = wr := ⟨_, rfl⟩
    obtain ⟨_, _, _, c3⟩ := hF.sv.cells
    have HF : Hid (SfAt w0 wo B0 gr bs bb cs cb n kk s gv k d m es ra' rl' A' L') := hF
    clear hF
    go_wp2_with fail
    go_loopg [9] n (fun q iv wr => ∃ i : Nat, q = n - i ∧ i ≤ n ∧ iv = .int .i64 i ∧ wr = wo ∧ ∀ p, p < i → nonS (L' p) (64 * d) = true)
    case atStart => exact ⟨0, rfl, Nat.zero_le _, rfl, rfl, fun p hp => by omega⟩
    case round =>
      obtain ⟨i, rfl, hi, rfl, hw, hall⟩ := hrel
      obtain rfl := hw.symm
      clear hw
      have HA : Hid (∀ p, p < i → nonS (L' p) (64 * d) = true) := hall
      clear hall
      by_cases hlt : i < n
      · have q0 : (0 : Int) ≤ (i : Int) := by omega
        have q1 : (i : Int) < (n : Int) := by omega
        have c4 := HF.out.sv.lost.lst.cell hlt
        have f4 := HF.out.sv.lost.lst.free i
        have hEm := emptyRow_any (rl' i).b (rl' i).o d (rl' i).c (L' i) wo hdd (HF.out.sv.lost.row i hlt)
        obtain ⟨em, hem⟩ : ∃ em, em = nonS (L' i) (64 * d) := ⟨_, rfl⟩
        rw [← hem] at hEm
        have HE : Hid _ := And.intro hEm hem
        clear hEm hem
        unfold Lc.v rowV at c4
        unfold rowV at HE
        go_wp2_with fail
        refine Calls.mono HE.out.1 ?_
        rintro r w1 ⟨rfl, hw1⟩
        obtain rfl := hw1.symm
        clear hw1
        cases em
        · have hNw := fun W => newRow_any n (by omega) W
          rw [← HN.out.1] at hNw
          have HW : Hid _ := hNw
          clear hNw
          unfold rowV at HW
          go_wp2_with fail
          refine wp_region_held_drew (S := (fun w' => (w'.cell? ⟨gv, 3, none⟩ = some (.slice (some ⟨m.gl, 0, none⟩) n n) ∧ w'.cell? ⟨gv, 3, none⟩ = some (.slice (some ⟨m.gl, 0, none⟩) n n)) ∧ Hid True)) (by kernel_rfl) ?_ (fun hHeld => ?_)
          · exact ⟨⟨c3, c3⟩, trivial⟩
          refine wpAnyH_take (i := 0) (oi := _) (v := ?_) rfl (by kernel_rfl) (by kernel_rfl) (by kernel_rfl) (fun _ _ _ h => h) (Or.inl ⟨by rfl, ?_⟩) (by assumption) ?_
          rotate_left
          · (intro w hSw; (try dsimp only at hSw); go_simp; (try with_reducible rfl))
          (try simp only [List.getElem_toArray, List.getElem_cons_succ, List.getElem_cons_zero, Act.put, List.setIfInBounds_toArray, List.set_cons_zero, List.set_cons_succ])
          refine wpAnyH_take (i := 1) (oi := _) (v := ?_) rfl (by kernel_rfl) (by kernel_rfl) (by kernel_rfl) (fun _ _ _ h => h) (Or.inl ⟨by rfl, ?_⟩) (by assumption) ?_
          rotate_left
          · (intro w hSw; (try dsimp only at hSw); go_simp; (try with_reducible rfl))
          (try simp only [List.getElem_toArray, List.getElem_cons_succ, List.getElem_cons_zero, Act.put, List.setIfInBounds_toArray, List.set_cons_zero, List.set_cons_succ])
          refine wpAnyH_take (i := 2) (oi := _) (v := ?_) rfl (by kernel_rfl) (by kernel_rfl) (by kernel_rfl) (fun _ _ _ h => h) (Or.inl ⟨by rfl, ?_⟩) (by assumption) ?_
          rotate_left
          · (intro w hSw; (try dsimp only at hSw); go_simp; (try with_reducible rfl))
          (try simp only [List.getElem_toArray, List.getElem_cons_succ, List.getElem_cons_zero, Act.put, List.setIfInBounds_toArray, List.set_cons_zero, List.set_cons_succ])
          refine wpAnyH_take (i := 3) (oi := _) (v := ?_) rfl (by kernel_rfl) (by kernel_rfl) (by kernel_rfl) (fun _ _ _ h => h) (Or.inl ⟨by rfl, ?_⟩) (by assumption) ?_
          rotate_left
          · (intro w hSw; (try dsimp only at hSw); go_simp; (try with_reducible rfl))
          (try simp only [List.getElem_toArray, List.getElem_cons_succ, List.getElem_cons_zero, Act.put, List.setIfInBounds_toArray, List.set_cons_zero, List.set_cons_succ])
          refine wpAnyH_take (i := 4) (oi := _) (v := ?_) rfl (by kernel_rfl) (by kernel_rfl) (by kernel_rfl) (fun _ _ _ h => h) (Or.inl ⟨by rfl, ?_⟩) (by assumption) ?_
          rotate_left
          · (intro w hSw; (try dsimp only at hSw); go_simp; (try with_reducible rfl))
          (try simp only [List.getElem_toArray, List.getElem_cons_succ, List.getElem_cons_zero, Act.put, List.setIfInBounds_toArray, List.set_cons_zero, List.set_cons_succ])
          refine wpAnyH_take (i := 5) (oi := _) (v := ?_) rfl (by kernel_rfl) (by kernel_rfl) (by kernel_rfl) (fun _ _ _ h => h) (Or.inl ⟨by rfl, ?_⟩) (by assumption) ?_
          rotate_left
          · (intro w hSw; (try dsimp only at hSw); go_simp; (try with_reducible rfl))
          (try simp only [List.getElem_toArray, List.getElem_cons_succ, List.getElem_cons_zero, Act.put, List.setIfInBounds_toArray, List.set_cons_zero, List.set_cons_succ])
          refine wpAnyH_take (i := 6) (oi := _) (v := ?_) rfl (by kernel_rfl) (by kernel_rfl) (by kernel_rfl) (fun _ _ _ h => h) (Or.inl ⟨by rfl, ?_⟩) (by assumption) ?_
          rotate_left
          · (intro w hSw; (try dsimp only at hSw); go_simp; (try with_reducible rfl))
          (try simp only [List.getElem_toArray, List.getElem_cons_succ, List.getElem_cons_zero, Act.put, List.setIfInBounds_toArray, List.set_cons_zero, List.set_cons_succ])
          refine wpAnyH_take (i := 7) (oi := _) (v := ?_) rfl (by kernel_rfl) (by kernel_rfl) (by kernel_rfl) (fun _ _ _ h => h) (Or.inl ⟨by rfl, ?_⟩) (by assumption) ?_
          rotate_left
          · (intro w hSw; (try dsimp only at hSw); go_simp; (try with_reducible rfl))
          (try simp only [List.getElem_toArray, List.getElem_cons_succ, List.getElem_cons_zero, Act.put, List.setIfInBounds_toArray, List.set_cons_zero, List.set_cons_succ])
          refine wpAnyH_take (i := 8) (oi := _) (v := ?_) rfl (by kernel_rfl) (by kernel_rfl) (by kernel_rfl) (fun _ _ _ h => h) (Or.inl ⟨by rfl, ?_⟩) (by assumption) ?_
          rotate_left
          · (intro w hSw; (try dsimp only at hSw); go_simp; (try with_reducible rfl))
          (try simp only [List.getElem_toArray, List.getElem_cons_succ, List.getElem_cons_zero, Act.put, List.setIfInBounds_toArray, List.set_cons_zero, List.set_cons_succ])
          refine wpAnyH_take (i := 9) (oi := _) (v := ?_) rfl (by kernel_rfl) (by kernel_rfl) (by kernel_rfl) (fun _ _ _ h => h) (Or.inl ⟨by rfl, ?_⟩) (by assumption) ?_
          rotate_left
          · (intro w hSw; (try dsimp only at hSw); go_simp; (try with_reducible rfl))
          (try simp only [List.getElem_toArray, List.getElem_cons_succ, List.getElem_cons_zero, Act.put, List.setIfInBounds_toArray, List.set_cons_zero, List.set_cons_succ])
          refine wpAnyH_ready (rs := [10]) (by kernel_rfl) (by simp) ?_
          refine AllReadyH.cons (o := _) rfl (fun K hK => ?_) ?_
          · (go_simp; go_at_call 56; refine Calls.mono (HW.out _) ?_; rintro r4 w4 ⟨rfl, hw4⟩; have hb4 : Below wo.heap.size wo w4 := (by rw [hw4]; exact (Below.refl _ _).drew.alloc (Nat.le_refl _) _); have x3 := cell_up c3 hb4; have x4 := cell_up c4 hb4; have x5 := (HF.out.sv.below hb4).lost.lst.free i; have H4 : Hid _ := And.intro hw4 (box_list_ne ((hb4.block _ (t_lt HF.out.sv.box)).trans HF.out.sv.box) (HF.out.sv.below hb4).lost.lst (by decide)); clear hw4 hb4)
            (try go_wp2_with fail)
            refine hK.out _ _ ?_ (fun hHeld => ?_)
            · exact ⟨⟨x3, x3⟩, trivial⟩
            clear hK K
            (try simp only [List.getElem_toArray, List.getElem_cons_succ, List.getElem_cons_zero, Act.put, List.setIfInBounds_toArray, List.set_cons_zero, List.set_cons_succ])
            refine wpAnyH_take (i := 11) (oi := _) (v := ?_) rfl (by kernel_rfl) (by kernel_rfl) (by kernel_rfl) (fun _ _ _ h => h) (Or.inl ⟨by rfl, ?_⟩) (by assumption) ?_
            rotate_left
            · (intro w hSw; (try dsimp only at hSw); go_simp; (try with_reducible rfl))
            (try simp only [List.getElem_toArray, List.getElem_cons_succ, List.getElem_cons_zero, Act.put, List.setIfInBounds_toArray, List.set_cons_zero, List.set_cons_succ])
            refine wpAnyH_ready (rs := [12]) (by kernel_rfl) (by simp) ?_
            refine AllReadyH.cons (o := _) rfl (fun K hK => ?_) ?_
            · (go_simp)
              (try go_wp2_with fail)
              refine hK.out _ _ ?_ (fun hHeld => ?_)
              · exact ⟨⟨(World.cell?_of_block (a := ⟨gv, 3, none⟩) (set_other _ _ _ _ _ H4.out.2)).trans x3, (World.cell?_of_block (a := ⟨gv, 3, none⟩) (set_other _ _ _ _ _ H4.out.2)).trans x3⟩, trivial⟩
              clear hK K
              (try simp only [List.getElem_toArray, List.getElem_cons_succ, List.getElem_cons_zero, Act.put, List.setIfInBounds_toArray, List.set_cons_zero, List.set_cons_succ])
              refine wpAnyH_done (by kernel_rfl) ?_ _
              (try go_simp)
              clear hHeld x3 x4 x5
              have hAs := HF.out.aside hlt H4.out.1
              unfold rowV at hAs
              obtain ⟨w5, hw5⟩ : ∃ w5, w5 = w4.setCell ⟨m.gl, i, none⟩ (.slice (some ⟨wo.heap.size, 0, none⟩) d d) := ⟨_, rfl⟩
              rw [← hw5] at hAs
              obtain ⟨t0, ht0, ht1⟩ := nonS_no HE.out.2.symm
              have ht2 := HF.out.bd i t0 (by rw [ht1, Bool.or_true])
              have hMu := Sm.mu_clr HF.out.inv hlt ht2 ht1
              have hFo := follow_any (cl := (rl' i).c) (hd0 (by omega)) HN.out.1 hn HN.out.2 hAs.2.1 hAs.1 (HF.out.inv.mid i) (fun _ _ => rfl) hlt hAs.2.2.1 hAs.2.2.2
              have HFo : Hid _ := And.intro hFo (And.intro hMu (And.intro hw5 hAs.2.1))
              clear hAs hMu hFo hw5 ht0 ht1 ht2
              unfold rowV at HFo
              go_upto_region 5 with fail
              rw [← HFo.out.2.2.1]
              go_wp2_with fail
              refine Calls.mono HFo.out.1 ?_
              rintro r6 w6 ⟨⟨v6, rfl⟩, ⟨ra6, A6, L6, hsv, hinv, hor⟩, hb6⟩
              have H6 : Hid _ := And.intro hsv (And.intro hinv (And.intro hor hb6))
              clear hsv hinv hor hb6
              go_wp2_with fail
              go_roundg (Sm.mu n A6 L6)
              case measure => rw [mu_or H6.out.2.2.1]; exact HFo.out.2.1
              case rel =>
                refine ⟨ra6, _, A6, L6, rfl, HFo.out.2.2.2.next H6.out.2.2.2, H6.out.1, H6.out.2.1, fun x y hxy => HF.out.bd x y ?_⟩
                rw [H6.out.2.2.1] at hxy
                revert hxy
                unfold Sm.clr
                split <;> cases A' x y <;> simp
            exact AllReadyH.nil
          exact AllReadyH.nil
        · go_wp2_with fail
          go_roundg (n - (i + 1))
          case measure => omega
          case rel => exact ⟨i + 1, rfl, by omega, by go_num, rfl, fun p hp => by
            rcases Nat.lt_or_ge p i with h1 | h1
            · exact HA.out p h1
            · obtain rfl : p = i := by omega
              exact HE.out.2.symm⟩
      · obtain rfl : i = n := by omega
        have q1 : ¬ (i : Int) < (i : Int) := by omega
        go_wp2_with fail
        (try rw [Exit.noGoto_normal])
        go_end0
        exact ⟨⟨_, rfl⟩, ra', rl', A', L', HF.out, fun p q hp hq => nonS_yes (HA.out p hp) (by have := HN.out.1; unfold Br.wds at this; omega)⟩
end
section
open Go.RowKit Go.Maps
theorem sort_perm (zs : List Int) : (zs.mergeSort fun x y => decide (x ≤ y)).Perm zs := List.mergeSort_perm _ _
theorem sort_rise (zs : List Int) : (zs.mergeSort fun x y => decide (x ≤ y)).Pairwise (· ≤ ·) := by
  have h := List.pairwise_mergeSort (le := fun x y : Int => decide (x ≤ y)) (fun a b c h1 h2 => by simp at *; omega) (fun a b => by simp; omega) zs
  exact h.imp fun h => by simpa using h
end
section
open Go.RowKit Go.Maps
attribute [local go_sem ↓] Go.wp_at_zero Go.wp_at_succ
/-- The greatest number of steps of the first states. -/
def Sy.degTo (l : List Sy.Ed) : Nat → Nat
  | 0 => 0
  | st + 1 => max (Sy.degTo l st) (Sy.steps l (st : Int)).length
theorem Sy.degTo_le (l : List Sy.Ed) (n : Nat) : Sy.degTo l n ≤ l.length := by
  induction n with
  | zero => exact Nat.zero_le _
  | succ n ih => have := Sy.steps_len l (n : Int); unfold Sy.degTo; omega
theorem rowOf_in {n q : Nat} (l : List Sy.Ed) (h : q < n) : Sy.rowOf n l (q : Int) = Sy.steps l q := by
  unfold Sy.rowOf
  rw [if_pos ⟨by omega, by omega⟩]
/-- The marked places, rising. -/
def Sy.marked (bs : List Bool) : List Int := ((List.range bs.length).filter fun p => bs[p]? == some true).map fun (p : Nat) => (p : Int)
theorem Sy.marked_mem (bs : List Bool) (z : Int) : z ∈ Sy.marked bs ↔ ∃ p : Nat, z = (p : Int) ∧ bs[p]? = some true := by
  unfold Sy.marked
  rw [List.mem_map]
  constructor
  · rintro ⟨p, hp, rfl⟩
    obtain ⟨_, h2⟩ := List.mem_filter.1 hp
    exact ⟨p, rfl, by simpa using h2⟩
  · rintro ⟨p, rfl, h⟩
    refine ⟨p, List.mem_filter.2 ⟨List.mem_range.2 (List.getElem?_eq_some_iff.1 h).1, by simpa using h⟩, rfl⟩
theorem Sy.marked_rise (bs : List Bool) : (Sy.marked bs).Pairwise (· < ·) := by
  unfold Sy.marked
  refine List.Pairwise.map _ (fun a b h => ?_) ((List.pairwise_lt_range).sublist List.filter_sublist)
  omega
theorem count_filter (bs : List Bool) : ((List.range bs.length).filter fun p => bs[p]? == some true).length = bs.count true := by
  suffices h : ∀ i, i ≤ bs.length → ((List.range i).filter fun p => bs[p]? == some true).length = (bs.take i).count true by simpa using h bs.length (Nat.le_refl _)
  intro i
  induction i with
  | zero => intro _; simp
  | succ i ih =>
    intro hi
    obtain ⟨b, hb⟩ : ∃ b, bs[i]? = some b := ⟨bs[i], List.getElem?_eq_getElem _⟩
    rw [List.range_succ, List.filter_append, List.length_append, ih (by omega), take_succ_of hb, List.count_append]
    cases b <;> simp [hb]
theorem perm_of_sub {l : List Int} : ∀ {m : List Int}, l.Nodup → (∀ x ∈ l, x ∈ m) → m.length ≤ l.length → m.Perm l := by
  induction l with
  | nil => intro m _ _ h; rw [List.eq_nil_of_length_eq_zero (Nat.le_zero.1 h)]
  | cons a r ih =>
    intro m hn hs hl
    obtain ⟨h1, h2⟩ := List.nodup_cons.1 hn
    have ha := hs a List.mem_cons_self
    have hp := List.perm_cons_erase ha
    refine hp.trans (List.Perm.cons a (ih h2 (fun x hx => ?_) ?_))
    · have hne : x ≠ a := fun e => h1 (e ▸ hx)
      exact (List.mem_erase_of_ne hne).2 (hs x (List.mem_cons_of_mem _ hx))
    · rw [List.length_erase_of_mem ha]
      simp only [List.length_cons] at hl
      omega
theorem Sy.sorted_marked {es : List Sy.Ed} {s : Int} {n i : Nat} {zs : List Int} {bs : List Bool} (h : Sy.RInv es s n zs bs i) : (zs.mergeSort fun x y => decide (x ≤ y)) = Sy.marked bs := by
  have hr := Sy.marked_rise bs
  have hp : zs.Perm (Sy.marked bs) := by
    refine perm_of_sub (hr.imp fun h => by omega) (fun x hx => ?_) ?_
    · obtain ⟨p, rfl, h1⟩ := (Sy.marked_mem bs x).1 hx
      exact (h.iff p).1 h1
    · rw [h.cnt]
      unfold Sy.marked
      rw [List.length_map, count_filter]
      exact Nat.le_refl _
  refine List.Perm.eq_of_pairwise (le := fun a b => a ≤ b) (fun a b _ _ h1 h2 => by omega) (sort_rise zs) (hr.imp fun h => by omega) ((sort_perm zs).trans hp)
/-- What stands in memory while Reach works. -/
structure RpAt (w wr : World) (gi : Nat) (u : Value) (zs : List Int) (bs : List Bool) : Prop where
  inn : Arr 4 w wr gi (bC bs)
  lst : OwnI wr w.heap.size u zs
theorem RpAt.below {w wr w' : World} {gi : Nat} {u : Value} {zs : List Int} {bs : List Bool} (h : RpAt w wr gi u zs bs) (hb : Below wr.heap.size wr w') : RpAt w w' gi u zs bs := ⟨h.inn.below hb, trow_at h.lst fun b e => hb.block _ (World.ownsRow.lt h.lst b e).2⟩
theorem RpAt.mark {w wr : World} {gi : Nat} {u : Value} {zs : List Int} {bs : List Bool} (h : RpAt w wr gi u zs bs) (q : Nat) : RpAt w (wr.setCell ⟨gi, q, none⟩ (.bool true)) gi u zs (bs.set q true) := by
  refine ⟨?_, trow_at h.lst fun b e => ?_⟩
  · rw [← bC_set]; exact h.inn.set q _
  · obtain ⟨cs, hc, _⟩ := h.inn.ids
    exact set_other _ _ _ _ _ fun e2 => own_bk h.lst hc (by decide) (e2 ▸ e)
theorem RpAt.push {w wr w2 : World} {gi : Nat} {u u2 : Value} {zs : List Int} {bs : List Bool} (h : RpAt w wr gi u zs bs) {q : Int} {N : Nat} (hN : N = zs.length) (hown : w2.ownsRow w.heap.size 3 1 u2 (N + 1) (iC zs ++ [.int .i64 q])) (hk : Kept (fun b => u.ownBlock = some b) wr w2) : RpAt w w2 gi u2 (zs ++ [q]) bs := by
  obtain ⟨cs, hc, _⟩ := h.inn.ids
  refine ⟨h.inn.kept hk fun b e => ⟨(World.ownsRow.lt h.lst b e).1, fun e2 => own_bk h.lst hc (by decide) (e2 ▸ e)⟩, ?_⟩
  unfold OwnI
  rw [iC_snoc, List.length_append, ← hN]
  exact hown
end
section
open Go.RowKit Go.Maps
attribute [local go_sem ↓] Go.wp_at_zero Go.wp_at_succ
/-- A state's steps as edges. -/
def Sy.es1 (st : Int) (zs : List BSteps.El) : List Sy.Ed := zs.map fun x => (st, x.1, x.2)
theorem Sy.es1_steps (l : List Sy.Ed) (st : Int) : Sy.es1 st (Sy.steps l st) = l.filter fun e => e.1 == st := by
  unfold Sy.es1 Sy.steps
  rw [List.map_map]
  have h : ∀ e ∈ l.filter (fun e => e.1 == st), ((fun x : BSteps.El => (st, x.1, x.2)) ∘ fun e : Sy.Ed => (e.2.1, e.2.2)) e = e := fun e he => by
    have := (List.mem_filter.1 he).2
    simp at this
    obtain ⟨a, b, c⟩ := e
    simp at this
    simp [this]
  rw [List.map_congr_left h]
  simp
theorem Sy.take_row {l : List Sy.Ed} (h : Sy.Rows l) (st : Int) : l.take (Sy.cnt l st) ++ Sy.es1 st (Sy.steps l st) = l.take (Sy.cnt l (st + 1)) := by
  rw [Sy.es1_steps, Sy.row_piece h st]
  have h1 := Sy.cnt_mono l st
  conv => rhs; rw [show Sy.cnt l (st + 1) = Sy.cnt l st + (Sy.cnt l (st + 1) - Sy.cnt l st) by omega, List.take_add]
theorem Sy.es1_snoc {st : Int} {zs : List BSteps.El} {k : Nat} {x : BSteps.El} (h : zs[k]? = some x) : Sy.es1 st (zs.take (k + 1)) = Sy.es1 st (zs.take k) ++ [(st, x.1, x.2)] := by
  rw [take_succ_of h]
  simp [Sy.es1]
theorem Sy.es1_len (st : Int) (zs : List BSteps.El) : (Sy.es1 st zs).length = zs.length := by simp [Sy.es1]
theorem Sy.take_all {n k s : Int} {es : List Sy.Ed} (h : Sy.right n k s es = true) : (Sy.nf es).take (Sy.cnt (Sy.nf es) n) = Sy.nf es := by
  rw [Sy.cnt_all fun e he => ((right_parts h).2.2.2.2.2 e ((Sy.nf_mem es e).1 he)).2.1, List.take_length]
theorem Sy.take_none {n k s : Int} {es : List Sy.Ed} (h : Sy.right n k s es = true) : (Sy.nf es).take (Sy.cnt (Sy.nf es) 0) = [] := by
  rw [Sy.cnt_none fun e he => by have := ((right_parts h).2.2.2.2.2 e ((Sy.nf_mem es e).1 he)).1; omega]
  rfl
set_option maxRecDepth 100000 in
set_option maxHeartbeats 8000000 in
theorem edges_any {B g bs bb cs cb n : Nat} {k s : Int} {es : List Sy.Ed} (w : World) (h : Gr w B g bs bb cs cb n k s es) : Calls Tryd.prog 52 #[.pointer (some ⟨g, 0, none⟩)] w fun r w' => ∃ u, r = .returned u ∧ BEdges.Own w' w.heap.size u (Sy.nf es) ∧ Below w.heap.size w w' := by
  obtain ⟨i0, hi0, hz0, hz1, hz2⟩ := info_parts BEdges.Tryd.infoE
  have hSt := states_any w h
  have hs := h.sizes
  have HG : Hid _ := And.intro h (And.intro hSt hs)
  have hn : n ≤ 1000 := hs.1
  obtain ⟨l, hl⟩ : ∃ l, l = Sy.nf es := ⟨_, rfl⟩
  have HL : Hid (l = Sy.nf es ∧ Sy.Rows l ∧ l.take (Sy.cnt l 0) = [] ∧ l.take (Sy.cnt l n) = l) := (by rw [hl]; exact ⟨rfl, nf_rows es, Sy.take_none h.right, Sy.take_all h.right⟩ : l = Sy.nf es ∧ Sy.Rows l ∧ l.take (Sy.cnt l 0) = [] ∧ l.take (Sy.cnt l n) = l)
  rw [← hl]
  clear h hSt hs hl
  go_enter Tryd.func52, Tryd.ntmps52
  go_wp2_with (go_at_call 49; refine Calls.mono HG.out.2.1 ?_; rintro r w1 ⟨rfl, hw⟩; obtain rfl := hw.symm)
  go_loopg [3, 9] n (fun q uv iv wr => ∃ st : Nat, q = n - st ∧ st ≤ n ∧ iv = .int .i64 st ∧ BEdges.Own wr w.heap.size uv (l.take (Sy.cnt l (st : Int))) ∧ Below w.heap.size w wr)
  case atStart => exact ⟨0, rfl, Nat.zero_le _, rfl, by show BEdges.Own w w.heap.size _ (l.take (Sy.cnt l 0)); rw [HL.out.2.2.1]; exact World.ownsRow_nil _ _ _ _, Below.refl _ _⟩
  case round =>
    obtain ⟨st, rfl, hst, rfl, hO, hb⟩ := hrel
    obtain ⟨wq, rfl⟩ : ∃ wq, wq = wr := ⟨_, rfl⟩
    by_cases hlt : st < n
    · have hG := HG.out.1.below hb
      obtain ⟨_, _, _, ⟨c0, c1⟩, _, _⟩ := hG.cells
      have hR := hG.row (st : Int)
      have hT := hG.out
      obtain ⟨L, hL⟩ : ∃ L, L = (Sy.nf es).length := ⟨_, rfl⟩
      have hl1 := Sy.steps_len (Sy.nf es) (st : Int)
      have hsz := HG.out.2.2.2
      rw [rowOf_in _ hlt] at hR
      have HR : Hid _ := And.intro hR (And.intro hb (And.intro hO (And.intro hL hT)))
      rw [← hL] at HR c0 hsz hl1
      have r1 : (st : Int) < (n : Int) := by omega
      clear hG hR hb hL hT hO
      go_wp2_with fail
      refine Calls.mono HR.out.1 ?_
      rintro r w1 ⟨v, rfl, hv, hb1⟩
      obtain ⟨av, cv, rfl, _⟩ := hv wq HR.out.2.2.2.2
      obtain ⟨M, hM⟩ : ∃ M, M = (Sy.steps (Sy.nf es) (st : Int)).length := ⟨_, rfl⟩
      rw [← hM]
      rw [← hM] at hv hl1
      have H1 : Hid _ := And.intro hv (And.intro hb1 hM)
      clear hv hb1 hM c0 c1
      go_wp2_with fail
      go_loopg [3, 19] M (fun q uv kv wr => ∃ k2 : Nat, q = M - k2 ∧ k2 ≤ M ∧ kv = .int .i64 k2 ∧ BEdges.Own wr w.heap.size uv (l.take (Sy.cnt l (st : Int)) ++ Sy.es1 st ((Sy.steps l st).take k2)) ∧ Below w.heap.size w wr)
      case atStart =>
        refine ⟨0, rfl, Nat.zero_le _, rfl, ?_, HR.out.2.1.trans (H1.out.2.1.mono HR.out.2.1.size)⟩
        have h1 : l.take (Sy.cnt l (st : Int)) ++ Sy.es1 st ((Sy.steps l st).take 0) = l.take (Sy.cnt l (st : Int)) := by simp [Sy.es1]
        rw [h1]
        exact trow_at HR.out.2.2.1 fun b hb => H1.out.2.1.block b (HR.out.2.2.1.lt b hb).2
      case round =>
        obtain ⟨k2, rfl, hk, rfl, hO, hb⟩ := hrel
        obtain ⟨ys, hys⟩ : ∃ ys, ys = l.take (Sy.cnt l (st : Int)) ++ Sy.es1 st ((Sy.steps l st).take k2) := ⟨_, rfl⟩
        rw [← hys] at hO
        obtain ⟨au, cu, hu⟩ := row_shape hO
        obtain ⟨N, hN⟩ : ∃ N, N = ys.length := ⟨_, rfl⟩
        rw [← hN] at hu
        subst hu
        have hys1 : N ≤ 100000 := by
          have h2 := List.length_take_le (Sy.cnt l (st : Int)) l
          have h3 := Sy.cnt_le l (st : Int)
          have h4 := List.length_take_le k2 (Sy.steps l st)
          have h5 := HG.out.2.2.2
          rw [← HL.out.1] at h5
          rw [hN, hys, List.length_append, Sy.es1_len]
          omega
        by_cases hkm : k2 < M
        · obtain ⟨x, hx⟩ : ∃ x, (Sy.steps l st)[k2]? = some x := ⟨(Sy.steps l st)[k2]'(by have := H1.out.2.2; rw [← HL.out.1] at this; omega), List.getElem?_eq_getElem _⟩
          have hx' := hx
          rw [HL.out.1] at hx'
          obtain ⟨a, rfl, d0, d1⟩ := step_at (H1.out.1 wr (HG.out.1.out.below hb)) hx'
          have hs1 := Sy.es1_snoc (st := (st : Int)) hx
          obtain ⟨x1, x2⟩ := x
          simp only at d0 d1 hs1
          obtain ⟨wb, hwb⟩ : ∃ wb, wb = wr.alloc (.cells #[.int .i64 x1, .int .i64 x2] 42) := ⟨_, rfl⟩
          have hbb : Below wr.heap.size wr wb := by rw [hwb]; exact (Below.refl _ _).alloc (Nat.le_refl _) _
          have hgb : wb.heap[wr.heap.size]? = some (.cells #[.int .i64 x1, .int .i64 x2] 42 (0, 0)) := by rw [hwb]; exact heap_alloc_new wr _
          have f0 : wb.cell? ⟨wr.heap.size, 0, none⟩ = some (.int .i64 x1) := cell0_of hgb rfl
          have f1 : wb.cell? ⟨wr.heap.size, 1, none⟩ = some (.int .i64 x2) := cell0_of hgb rfl
          have hOb : BEdges.Own wb w.heap.size (.slice au N cu) ys := trow_at hO fun b hb => hbb.block b (hO.lt b hb).2
          have hOz : wb.ownsRow w.heap.size 46 3 (.slice au N cu) N (BEdges.C ys) := by have h1 := hOb; unfold BEdges.Own at h1; rw [← hN] at h1; exact h1
          have hbw : Below w.heap.size w wb := hb.trans (hbb.mono hb.size)
          have hle : w.heap.size ≤ (wb.alloc (.cells #[.int .i64 st, .int .i64 x1, .int .i64 x2] 46)).heap.size := by have := hbw.size; simp; omega
          have hml : N + 1 ≤ maxLen := by unfold maxLen; omega
          have hby : (N + 1) * 24 ≤ 140737488355328 := by omega
          have k0 : (0 : Int) ≤ (k2 : Int) := by omega
          have k1 : (k2 : Int) < (M : Int) := by omega
          have HZ : Hid _ := And.intro hOz (And.intro hbw (And.intro hwb (And.intro hys (And.intro hs1 hN))))
          clear hO hOb hOz hbw hwb hbb hgb hys hs1 hN hx hx' hb
          go_upto_region 8 with fail
          rw [← HZ.out.2.2.1]
          go_wp2_with (at_builtin; refine wpList_append_own_at _ rfl _ _ 22 rfl w.heap.size 46 i0 (.agg #[.int .i64 0, .int .i64 0, .int .i64 0]) 3 24 Tryd.underlying22 hi0 hz0 hz1 hz2 rfl (by decide) (.slice au N cu) N (BEdges.C ys) rfl (HZ.out.1.alloc _) ⟨wb.heap.size, 0, none⟩ 1 1 [.int .i64 st, .int .i64 x1, .int .i64 x2] rfl rfl (World.news_of_block (cs := #[.int .i64 st, .int .i64 x1, .int .i64 x2]) (t := 46) (fr := (0, 0)) (heap_alloc_new wb _)) (by simp [Value.oneCell']) hml hby hle ?_; intro v5 w5 hO5 hg5 hnil5 hat5; have H2 : Hid _ := And.intro hO5 hg5; clear hO5 hg5 hnil5 hat5)
          go_roundg (M - (k2 + 1))
          case measure => omega
          case rel =>
            refine ⟨k2 + 1, rfl, by omega, by go_num, ?_, ?_⟩
            · rw [HZ.out.2.2.2.2.1, ← List.append_assoc, ← HZ.out.2.2.2.1]
              unfold BEdges.Own
              rw [BEdges.C_snoc, List.length_append, ← HZ.out.2.2.2.2.2]
              exact H2.out.1
            · exact HZ.out.2.1.trans ((grown_alloc H2.out.2).below HZ.out.2.1.size fun b hb => (HZ.out.1.lt b hb).1)
        · obtain rfl : k2 = M := by omega
          have k1 : ¬ (k2 : Int) < (k2 : Int) := by omega
          have hfull : ys = l.take (Sy.cnt l ((st : Int) + 1)) := by
            have ht : (Sy.steps l st).take k2 = Sy.steps l st := List.take_of_length_le (by have := H1.out.2.2; rw [← HL.out.1] at this; omega)
            rw [hys, ht]
            exact Sy.take_row HL.out.2.1 st
          have HJ : Hid _ := And.intro hO (And.intro hfull (And.intro hb hN))
          clear hO hfull hb hN hys
          go_wp2_with fail
          go_roundg (n - (st + 1))
          case measure => omega
          case rel =>
            refine ⟨st + 1, rfl, by omega, by go_num, ?_, HJ.out.2.2.1⟩
            rw [show (((st + 1 : Nat) : Int)) = (st : Int) + 1 by omega, ← HJ.out.2.1]
            exact HJ.out.1
    · obtain rfl : st = n := by omega
      have r1 : ¬ (st : Int) < (st : Int) := by omega
      rw [HL.out.2.2.2] at hO
      have HJ : Hid _ := And.intro hO hb
      obtain ⟨au, cu, hu⟩ := row_shape hO
      obtain ⟨N, hN⟩ : ∃ N, N = l.length := ⟨_, rfl⟩
      rw [← hN] at hu
      subst hu
      clear hO hb hN
      go_wp2_with fail
      go_ret
      exact ⟨_, rfl, HJ.out.1, HJ.out.2⟩
end
section
open Go.RowKit Go.Maps
attribute [local go_sem ↓] Go.wp_at_zero Go.wp_at_succ
set_option maxRecDepth 100000 in
theorem labelsG_any {B g bs bb cs cb n : Nat} {k s : Int} {es : List Sy.Ed} (w : World) (h : Gr w B g bs bb cs cb n k s es) : Calls Tryd.prog 50 #[.pointer (some ⟨g, 0, none⟩)] w fun r w' => r = .returned (.int .i64 k) ∧ w' = w := by
  obtain ⟨_, c1, _, _, _, _⟩ := h.cells
  have hq := Tryd.eqG g
  clear h
  go_enter Tryd.func50, Tryd.ntmps50
  go_wp2
  go_ret
  exact ⟨rfl, rfl⟩
/-- Rows one behind the other have no cell in common. -/
theorem off_mul {g d p q : Nat} (h : q ≠ p) : Lc.off d ⟨g, q * d, d⟩ ⟨g, p * d, d⟩ := by
  refine .inr ?_
  show q * d + d ≤ p * d ∨ p * d + d ≤ q * d
  rcases Nat.lt_or_ge q p with h1 | h1
  · have := Nat.mul_le_mul_right d (Nat.succ_le_of_lt h1)
    rw [Nat.succ_mul] at this
    exact .inl this
  · have := Nat.mul_le_mul_right d (Nat.succ_le_of_lt (Nat.lt_of_le_of_ne h1 fun e => h e.symm))
    rw [Nat.succ_mul] at this
    exact .inr this
theorem rws_of_sev {w w' : World} {B g0 g1 n d : Nat} (h : Sev w w' g0 g1 n d) (hB : B ≤ w.heap.size) : Rws w' B g1 n d (fun p => ⟨g0, p * d, d⟩) fun _ _ => false :=
  ⟨h.rw, fun _ hp => h.row hp, Nat.le_trans hB h.u1, fun _ _ => Nat.le_trans hB h.u0⟩
/-- What has been made. (i: so many labels have their rows.) -/
structure Bld (w wr : World) (gv gr n k d : Nat) (m : Ml) (aw lw i : Nat) (Z : Nat → Nat → Nat → Bool) (A L : Nat → Nat → Bool) : Prop where
  bl : Below w.heap.size w wr
  box : wr.heap[gv]? = some (.cells #[.pointer (some ⟨gr, 0, none⟩), .slice (some ⟨m.ge, 0, none⟩) k k, .slice (some ⟨m.ga, 0, none⟩) n n, .slice (some ⟨m.gl, 0, none⟩) n n] 82 (0, 0))
  uv : w.heap.size ≤ gv
  ue : w.heap.size ≤ m.ge
  ends : ListAt 52 wr m.ge k fun a => if a < i then .slice (some ⟨m.er a, 0, none⟩) n n else .slice none 0 0
  end1 : ∀ a, a < i → Rws wr w.heap.size (m.er a) n d (fun p => ⟨m.ew a, p * d, d⟩) (Z a)
  above : Rws wr w.heap.size m.ga n d (fun p => ⟨aw, p * d, d⟩) A
  lost : Rws wr w.heap.size m.gl n d (fun p => ⟨lw, p * d, d⟩) L
  nal : aw ≠ lw
  gal : m.ga ≠ m.gl
  nea : ∀ a, a < i → m.ew a ≠ aw ∧ m.ew a ≠ lw ∧ m.er a ≠ m.ga ∧ m.er a ≠ m.gl
  nee : ∀ a a', a < i → a' < i → a ≠ a' → m.ew a ≠ m.ew a'
  lt : aw < wr.heap.size ∧ lw < wr.heap.size ∧ ∀ a, a < i → m.ew a < wr.heap.size
theorem Bld.below {w wr w' : World} {gv gr n k d : Nat} {m : Ml} {aw lw i : Nat} {Z : Nat → Nat → Nat → Bool} {A L : Nat → Nat → Bool} (h : Bld w wr gv gr n k d m aw lw i Z A L) (hb : Below wr.heap.size wr w') : Bld w w' gv gr n k d m aw lw i Z A L :=
  ⟨h.bl.trans (hb.mono h.bl.size), (hb.block _ (t_lt h.box)).trans h.box, h.uv, h.ue, h.ends.below hb, fun a ha => (h.end1 a ha).below hb, h.above.below hb, h.lost.below hb, h.nal, h.gal, h.nea, h.nee, by have := hb.size; have := h.lt; exact ⟨by omega, by omega, fun a ha => by have := h.lt.2.2 a ha; omega⟩⟩
theorem Bld.cells {w wr : World} {gv gr n k d : Nat} {m : Ml} {aw lw i : Nat} {Z : Nat → Nat → Nat → Bool} {A L : Nat → Nat → Bool} (h : Bld w wr gv gr n k d m aw lw i Z A L) : wr.cell? ⟨gv, 1, none⟩ = some (.slice (some ⟨m.ge, 0, none⟩) k k) ∧ wr.cell? ⟨gv, 2, none⟩ = some (.slice (some ⟨m.ga, 0, none⟩) n n) ∧ wr.cell? ⟨gv, 3, none⟩ = some (.slice (some ⟨m.gl, 0, none⟩) n n) := ⟨cell0_of h.box rfl, cell0_of h.box rfl, cell0_of h.box rfl⟩
/-- One more label has its rows. -/
theorem Bld.more {w wr w4 : World} {gv gr n k d g0 g1 : Nat} {m : Ml} {aw lw i : Nat} {A L : Nat → Nat → Bool} (h : Bld w wr gv gr n k d m aw lw i (fun _ _ _ => false) A L) (hs : Sev wr w4 g0 g1 n d) (h01 : g0 < w4.heap.size) : Bld w (w4.setCell ⟨m.ge, i, none⟩ (.slice (some ⟨g1, 0, none⟩) n n)) gv gr n k d { m with er := upd m.er i g1, ew := upd m.ew i g0 } aw lw (i + 1) (fun _ _ _ => false) A L := by
  have h4 := h.below hs.bl
  have hne : gv ≠ m.ge := box_list_ne h4.box h4.ends (by decide)
  have hne2 : ∀ {g mm : Nat} {f : Nat → Value}, ListAt 72 w4 g mm f → g ≠ m.ge := fun hl => list_list_ne hl h4.ends (by decide)
  have hset : ∀ {g nn dd : Nat} {r : Nat → Lc} {X : Nat → Nat → Bool}, Rws w4 w.heap.size g nn dd r X → Rws (w4.setCell ⟨m.ge, i, none⟩ (.slice (some ⟨g1, 0, none⟩) n n)) w.heap.size g nn dd r X := fun hR => hR.other h4.ends (by decide) (hne2 hR.lst)
  have l0 := h.lt
  have u0 := hs.u0
  have u1 := hs.u1
  have hga := h.above.lst.lt
  have hgl := h.lost.lst.lt
  have hsz : (w4.setCell ⟨m.ge, i, none⟩ (.slice (some ⟨g1, 0, none⟩) n n)).heap.size = w4.heap.size := by simp [World.setCell]
  refine ⟨h4.bl.trans ((Kept.setCell w4 m.ge i _).below h4.bl.size fun x hx => by have := h.ue; omega), (set_other _ _ _ _ _ hne).trans h4.box, h.uv, h.ue, (h4.ends.put _).congr fun a _ => ?_, fun a ha => ?_, hset h4.above, hset h4.lost, h.nal, h.gal, fun a ha => ?_, fun a a' ha ha' hn => ?_, ?_⟩
  · show (if a = i then _ else _) = _
    by_cases e : a = i
    · subst e; rw [if_pos rfl, if_pos (by omega)]; show _ = Value.slice (some ⟨upd m.er a g1 a, 0, none⟩) n n; rw [upd_same]
    · rw [if_neg e]
      by_cases e2 : a < i
      · rw [if_pos e2, if_pos (by omega)]; show _ = Value.slice (some ⟨upd m.er i g1 a, 0, none⟩) n n; rw [upd_ne _ _ e]
      · rw [if_neg e2, if_neg (by omega)]
  · show Rws _ _ (upd m.er i g1 a) n d (fun p => ⟨upd m.ew i g0 a, p * d, d⟩) _
    by_cases e : a = i
    · subst e; rw [upd_same, upd_same]; exact hset (rws_of_sev hs h.bl.size)
    · rw [upd_ne _ _ e, upd_ne _ _ e]; exact hset (h4.end1 a (by omega))
  · show upd m.ew i g0 a ≠ aw ∧ upd m.ew i g0 a ≠ lw ∧ upd m.er i g1 a ≠ m.ga ∧ upd m.er i g1 a ≠ m.gl
    by_cases e : a = i
    · subst e; rw [upd_same, upd_same]; omega
    · rw [upd_ne _ _ e, upd_ne _ _ e]; exact h.nea a (by omega)
  · show upd m.ew i g0 a ≠ upd m.ew i g0 a'
    by_cases e : a = i
    · subst e; rw [upd_same, upd_ne _ _ fun e => hn e.symm]; have := l0.2.2 a' (by omega); omega
    · rw [upd_ne _ _ e]
      by_cases e2 : a' = i
      · subst e2; rw [upd_same]; have := l0.2.2 a (by omega); omega
      · rw [upd_ne _ _ e2]; exact h.nee a a' (by omega) (by omega) hn
  · rw [hsz]
    have := hs.bl.size
    refine ⟨by omega, by omega, fun a ha => ?_⟩
    show upd m.ew i g0 a < _
    by_cases e : a = i
    · subst e; rw [upd_same]; exact h01
    · rw [upd_ne _ _ e]; have := l0.2.2 a (by omega); omega
/-- One of a label's rows turned. -/
theorem Bld.end_ {w wr w' : World} {gv gr n k d a p : Nat} {m : Ml} {aw lw i : Nat} {Z : Nat → Nat → Nat → Bool} {A L : Nat → Nat → Bool} {T : Nat → Bool} (h : Bld w wr gv gr n k d m aw lw i Z A L) (ha : a < i) (hp : p < n) (hw : Wr (m.ew a) (p * d) d wr w') (hT : RowAt w' (m.ew a) (p * d) d T) : Bld w w' gv gr n k d m aw lw i (upd Z a (upd (Z a) p T)) A L := by
  have hS := (h.end1 a ha).row p hp
  have hn := h.nea a ha
  refine ⟨h.bl.trans (hw.below h.bl.size ((h.end1 a ha).ur p hp)), (hw.kp.block _ (t_lt h.box) (box_row_ne h.box hS (by decide))).trans h.box, h.uv, h.ue, h.ends.kept hw.kp (row_list_ne (i := 0) hS h.ends (by decide) rfl), fun x hx => ?_, h.above.wr hw hS fun q hq => .inl fun e => hn.1 e.symm, h.lost.wr hw hS fun q hq => .inl fun e => hn.2.1 e.symm, h.nal, h.gal, h.nea, h.nee, by have := hw.kp.size; have := h.lt; exact ⟨by omega, by omega, fun x hx => by have := h.lt.2.2 x hx; omega⟩⟩
  by_cases e : x = a
  · subst e; rw [upd_same]; exact (h.end1 x ha).put hp hw hT fun q _ hne => off_mul hne
  · rw [upd_ne _ _ e]; exact (h.end1 x hx).wr hw hS fun q hq => .inl (h.nee x a hx ha e)
/-- Another row of one's own turned, or one of those above, or of the lost ones. -/
theorem Bld.away {w wr w' : World} {gv gr n k d b o dk : Nat} {m : Ml} {aw lw i : Nat} {Z : Nat → Nat → Nat → Bool} {A L : Nat → Nat → Bool} {S : Nat → Bool} (h : Bld w wr gv gr n k d m aw lw i Z A L) (hw : Wr b o dk wr w') (hS : RowAt wr b o dk S) (hb : w.heap.size ≤ b) (h1 : b ≠ aw) (h2 : b ≠ lw) (h3 : ∀ a, a < i → b ≠ m.ew a) : Bld w w' gv gr n k d m aw lw i Z A L := by
  have far : ∀ {g : Nat} {r : Nat → Lc} {X : Nat → Nat → Bool}, Rws wr w.heap.size g n d r X → (∀ p, p < n → (r p).b ≠ b) → Rws w' w.heap.size g n d r X := fun hR hr =>
    ⟨hR.lst.kept hw.kp (row_list_ne (i := 0) hS hR.lst (by decide) rfl), fun p hp => (hR.row p hp).kept hw.kp (hr p hp), hR.ug, hR.ur⟩
  exact ⟨h.bl.trans (hw.below h.bl.size hb), (hw.kp.block _ (t_lt h.box) (box_row_ne h.box hS (by decide))).trans h.box, h.uv, h.ue, h.ends.kept hw.kp (row_list_ne (i := 0) hS h.ends (by decide) rfl), fun x hx => far (h.end1 x hx) fun p hp e => h3 x hx e.symm, far h.above fun p hp e => h1 e.symm, far h.lost fun p hp e => h2 e.symm, h.nal, h.gal, h.nea, h.nee, by have := hw.kp.size; have := h.lt; exact ⟨by omega, by omega, fun x hx => by have := h.lt.2.2 x hx; omega⟩⟩
theorem Bld.ab {w wr w' : World} {gv gr n k d p : Nat} {m : Ml} {aw lw i : Nat} {Z : Nat → Nat → Nat → Bool} {A L : Nat → Nat → Bool} {T : Nat → Bool} (h : Bld w wr gv gr n k d m aw lw i Z A L) (hp : p < n) (hw : Wr aw (p * d) d wr w') (hT : RowAt w' aw (p * d) d T) : Bld w w' gv gr n k d m aw lw i Z (upd A p T) L := by
  have hS := h.above.row p hp
  exact ⟨h.bl.trans (hw.below h.bl.size (h.above.ur p hp)), (hw.kp.block _ (t_lt h.box) (box_row_ne h.box hS (by decide))).trans h.box, h.uv, h.ue, h.ends.kept hw.kp (row_list_ne (i := 0) hS h.ends (by decide) rfl), fun x hx => (h.end1 x hx).wr hw hS fun q _ => .inl (h.nea x hx).1, h.above.put hp hw hT fun q _ hne => off_mul hne, h.lost.wr hw hS fun q _ => .inl fun e => h.nal e.symm, h.nal, h.gal, h.nea, h.nee, by have := hw.kp.size; have := h.lt; exact ⟨by omega, by omega, fun x hx => by have := h.lt.2.2 x hx; omega⟩⟩
theorem Bld.lo {w wr w' : World} {gv gr n k d p : Nat} {m : Ml} {aw lw i : Nat} {Z : Nat → Nat → Nat → Bool} {A L : Nat → Nat → Bool} {T : Nat → Bool} (h : Bld w wr gv gr n k d m aw lw i Z A L) (hp : p < n) (hw : Wr lw (p * d) d wr w') (hT : RowAt w' lw (p * d) d T) : Bld w w' gv gr n k d m aw lw i Z A (upd L p T) := by
  have hS := h.lost.row p hp
  exact ⟨h.bl.trans (hw.below h.bl.size (h.lost.ur p hp)), (hw.kp.block _ (t_lt h.box) (box_row_ne h.box hS (by decide))).trans h.box, h.uv, h.ue, h.ends.kept hw.kp (row_list_ne (i := 0) hS h.ends (by decide) rfl), fun x hx => (h.end1 x hx).wr hw hS fun q _ => .inl (h.nea x hx).2.1, h.above.wr hw hS fun q _ => .inl h.nal, h.lost.put hp hw hT fun q _ hne => off_mul hne, h.nal, h.gal, h.nea, h.nee, by have := hw.kp.size; have := h.lt; exact ⟨by omega, by omega, fun x hx => by have := h.lt.2.2 x hx; omega⟩⟩
end
end Go.Proofs.YtladdlkfnfdhaaaDoor
