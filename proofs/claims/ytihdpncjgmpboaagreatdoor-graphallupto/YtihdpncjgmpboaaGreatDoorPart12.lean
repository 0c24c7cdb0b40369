/- Texts of this claim, joined: SyRch, SyAlive, SyRow2, SyBin. -/
import Derived.Test.YtihdpncjgmpboaaGreatDoorPart11
import Derived.Deep.AppendLies
import Derived.Test.YtihdpncjgmpboaaGreatDoorPart7
import Derived.Test.YtihdpncjgmpboaaGreatDoorPart9
import Derived.Deep.DeepCutAuto
/- Contracts of the program's Degree and Reach. -/
namespace Go.Proofs.YtihdpncjgmpboaaGreatDoor
open Go.RowKit Go.Maps
attribute [local go_sem ↓] Go.wp_at_zero Go.wp_at_succ
/-- The greatest number of steps of the first states. -/
def Sy.degTo (l : List Sy.Ed) : Nat → Nat
  | 0 => 0
  | st + 1 => max (Sy.degTo l st) (Sy.steps l (st : Int)).length
theorem Sy.degTo_le (l : List Sy.Ed) (n : Nat) : Sy.degTo l n ≤ l.length := by
  induction n with
  | zero => exact Nat.zero_le _
  | succ n ih => have := Sy.steps_len l (n : Int); unfold Sy.degTo; omega
theorem rowOf_in {n q : Nat} (l : List Sy.Ed) (h : q < n) : Sy.rowOf n l (q : Int) = Sy.steps l q := by
  unfold Sy.rowOf
  rw [if_pos ⟨by omega, by omega⟩]
set_option maxRecDepth 100000 in
set_option maxHeartbeats 4000000 in
theorem degree_any {B g bs bb cs cb n : Nat} {k s : Int} {es : List Sy.Ed} (w : World) (h : Gr w B g bs bb cs cb n k s es) : Calls Tryz.prog 23 #[.pointer (some ⟨g, 0, none⟩)] w fun r w' => r = .returned (.int .i64 (Sy.degTo (Sy.nf es) n : Nat)) ∧ Below w.heap.size w w' := by
  have hSt := states_any w h
  have hs := h.sizes
  have HG : Hid _ := And.intro h (And.intro hSt hs)
  have hn : n ≤ 1000 := hs.1
  clear h hSt hs
  go_enter Tryz.func23, Tryz.ntmps23
  go_wp2_with (go_at_call 31; refine Calls.mono HG.out.2.1 ?_; rintro r w1 ⟨rfl, hw⟩; obtain rfl := hw.symm)
  go_loopg [3, 7] n (fun q dv iv wr => ∃ st : Nat, q = n - st ∧ st ≤ n ∧ dv = .int .i64 (Sy.degTo (Sy.nf es) st : Nat) ∧ iv = .int .i64 st ∧ Below w.heap.size w wr)
  case atStart => exact ⟨0, rfl, Nat.zero_le _, rfl, rfl, Below.refl _ _⟩
  case round =>
    obtain ⟨st, rfl, hst, rfl, rfl, hb⟩ := hrel
    by_cases hlt : st < n
    · have hG := HG.out.1.below hb
      obtain ⟨_, _, _, ⟨c0, c1⟩, _, _⟩ := hG.cells
      have hR := hG.row (st : Int)
      have hT := hG.out
      have hd := Sy.degTo_le (Sy.nf es) st
      have hl := Sy.steps_len (Sy.nf es) (st : Int)
      have hsz := HG.out.2.2.2
      obtain ⟨D, hD⟩ : ∃ D, D = Sy.degTo (Sy.nf es) st := ⟨_, rfl⟩
      obtain ⟨L, hL⟩ : ∃ L, L = (Sy.nf es).length := ⟨_, rfl⟩
      rw [← hD]
      rw [← hD] at hd
      have HR : Hid _ := And.intro hR (And.intro hb (And.intro hD (And.intro hL hT)))
      rw [← hL] at HR c0 hsz hd hl
      have r0 : (0 : Int) ≤ (st : Int) := by omega
      have r1 : (st : Int) < (n : Int) := by omega
      clear hG hR hb hD hL hT
      go_wp2_with fail
      refine Calls.mono HR.out.1 ?_
      rintro r w1 ⟨v, rfl, hv, hb1⟩
      obtain ⟨av, cv, rfl, _⟩ := hv wr HR.out.2.2.2.2
      rw [rowOf_in _ hlt]
      obtain ⟨R, hRR⟩ : ∃ R, R = (Sy.steps (Sy.nf es) (st : Int)).length := ⟨_, rfl⟩
      rw [← hRR]
      rw [← hRR] at hl
      have H1 : Hid _ := And.intro hb1 hRR
      clear hv hb1 hRR c0 c1
      go_wp2_with fail
      go_roundg (n - (st + 1))
      case measure => omega
      case rel =>
        refine ⟨st + 1, rfl, by omega, ?_, by go_num, HR.out.2.1.trans (H1.out.1.mono HR.out.2.1.size)⟩
        have e9 : Sy.degTo (Sy.nf es) (st + 1) = max D R := by rw [HR.out.2.2.1, H1.out.2]; rfl
        rw [e9]
        congr 1
        omega
    · obtain rfl : st = n := by omega
      have HB : Hid _ := hb
      clear hb
      have r1 : ¬ (st : Int) < (st : Int) := by omega
      go_wp2_with fail
      go_ret
      exact ⟨rfl, HB.out⟩
/-- The marked places, rising. -/
def Sy.marked (bs : List Bool) : List Int := ((List.range bs.length).filter fun p => bs[p]? == some true).map fun (p : Nat) => (p : Int)
theorem Sy.marked_mem (bs : List Bool) (z : Int) : z ∈ Sy.marked bs ↔ ∃ p : Nat, z = (p : Int) ∧ bs[p]? = some true := by
  unfold Sy.marked
  rw [List.mem_map]
  constructor
  · rintro ⟨p, hp, rfl⟩
    obtain ⟨_, h2⟩ := List.mem_filter.1 hp
    exact ⟨p, rfl, by simpa using h2⟩
  · rintro ⟨p, rfl, h⟩
    refine ⟨p, List.mem_filter.2 ⟨List.mem_range.2 (List.getElem?_eq_some_iff.1 h).1, by simpa using h⟩, rfl⟩
theorem Sy.marked_rise (bs : List Bool) : (Sy.marked bs).Pairwise (· < ·) := by
  unfold Sy.marked
  refine List.Pairwise.map _ (fun a b h => ?_) ((List.pairwise_lt_range).sublist List.filter_sublist)
  omega
theorem count_filter (bs : List Bool) : ((List.range bs.length).filter fun p => bs[p]? == some true).length = bs.count true := by
  suffices h : ∀ i, i ≤ bs.length → ((List.range i).filter fun p => bs[p]? == some true).length = (bs.take i).count true by simpa using h bs.length (Nat.le_refl _)
  intro i
  induction i with
  | zero => intro _; simp
  | succ i ih =>
    intro hi
    obtain ⟨b, hb⟩ : ∃ b, bs[i]? = some b := ⟨bs[i], List.getElem?_eq_getElem _⟩
    rw [List.range_succ, List.filter_append, List.length_append, ih (by omega), take_succ_of hb, List.count_append]
    cases b <;> simp [hb]
theorem perm_of_sub {l : List Int} : ∀ {m : List Int}, l.Nodup → (∀ x ∈ l, x ∈ m) → m.length ≤ l.length → m.Perm l := by
  induction l with
  | nil => intro m _ _ h; rw [List.eq_nil_of_length_eq_zero (Nat.le_zero.1 h)]
  | cons a r ih =>
    intro m hn hs hl
    obtain ⟨h1, h2⟩ := List.nodup_cons.1 hn
    have ha := hs a List.mem_cons_self
    have hp := List.perm_cons_erase ha
    refine hp.trans (List.Perm.cons a (ih h2 (fun x hx => ?_) ?_))
    · have hne : x ≠ a := fun e => h1 (e ▸ hx)
      exact (List.mem_erase_of_ne hne).2 (hs x (List.mem_cons_of_mem _ hx))
    · rw [List.length_erase_of_mem ha]
      simp only [List.length_cons] at hl
      omega
theorem Sy.sorted_marked {es : List Sy.Ed} {s : Int} {n i : Nat} {zs : List Int} {bs : List Bool} (h : Sy.RInv es s n zs bs i) : (zs.mergeSort fun x y => decide (x ≤ y)) = Sy.marked bs := by
  have hr := Sy.marked_rise bs
  have hp : zs.Perm (Sy.marked bs) := by
    refine perm_of_sub (hr.imp fun h => by omega) (fun x hx => ?_) ?_
    · obtain ⟨p, rfl, h1⟩ := (Sy.marked_mem bs x).1 hx
      exact (h.iff p).1 h1
    · rw [h.cnt]
      unfold Sy.marked
      rw [List.length_map, count_filter]
      exact Nat.le_refl _
  refine List.Perm.eq_of_pairwise (le := fun a b => a ≤ b) (fun a b _ _ h1 h2 => by omega) (sort_rise zs) (hr.imp fun h => by omega) ((sort_perm zs).trans hp)
/-- What stands in memory while Reach works. -/
structure RpAt (w wr : World) (gi : Nat) (u : Value) (zs : List Int) (bs : List Bool) : Prop where
  inn : Arr 4 w wr gi (bC bs)
  lst : OwnI wr w.heap.size u zs
theorem RpAt.below {w wr w' : World} {gi : Nat} {u : Value} {zs : List Int} {bs : List Bool} (h : RpAt w wr gi u zs bs) (hb : Below wr.heap.size wr w') : RpAt w w' gi u zs bs := ⟨h.inn.below hb, trow_at h.lst fun b e => hb.block _ (World.ownsRow.lt h.lst b e).2⟩
theorem RpAt.mark {w wr : World} {gi : Nat} {u : Value} {zs : List Int} {bs : List Bool} (h : RpAt w wr gi u zs bs) (q : Nat) : RpAt w (wr.setCell ⟨gi, q, none⟩ (.bool true)) gi u zs (bs.set q true) := by
  refine ⟨?_, trow_at h.lst fun b e => ?_⟩
  · rw [← bC_set]; exact h.inn.set q _
  · obtain ⟨cs, hc, _⟩ := h.inn.ids
    exact set_other _ _ _ _ _ fun e2 => own_bk h.lst hc (by decide) (e2 ▸ e)
theorem RpAt.push {w wr w2 : World} {gi : Nat} {u u2 : Value} {zs : List Int} {bs : List Bool} (h : RpAt w wr gi u zs bs) {q : Int} {N : Nat} (hN : N = zs.length) (hown : w2.ownsRow w.heap.size 3 1 u2 (N + 1) (iC zs ++ [.int .i64 q])) (hk : Kept (fun b => u.ownBlock = some b) wr w2) : RpAt w w2 gi u2 (zs ++ [q]) bs := by
  obtain ⟨cs, hc, _⟩ := h.inn.ids
  refine ⟨h.inn.kept hk fun b e => ⟨(World.ownsRow.lt h.lst b e).1, fun e2 => own_bk h.lst hc (by decide) (e2 ▸ e)⟩, ?_⟩
  unfold OwnI
  rw [iC_snoc, List.length_append, ← hN]
  exact hown
set_option maxRecDepth 100000 in
set_option maxHeartbeats 8000000 in
theorem reach_any {B g bs bb cs cb n : Nat} {k s : Int} {es : List Sy.Ed} (w : World) (h : Gr w B g bs bb cs cb n k s es) : Calls Tryz.prog 14 #[.pointer (some ⟨g, 0, none⟩)] w fun r w' => ∃ u ms, r = .returned u ∧ OwnI w' w.heap.size u (Sy.marked ms) ∧ ms.length = n ∧ (∀ p : Nat, p < n → (ms[p]? = some true ↔ Sy.Rea es s p)) ∧ Below w.heap.size w w' := by
  obtain ⟨i0, hi0, hz0, hz1, hz2⟩ := info_parts Tryz.infoI4
  have hSt := states_any w h
  have hs := h.sizes
  have hrp := right_parts h.right
  have HG : Hid _ := And.intro h (And.intro hSt (And.intro hs hrp))
  have hn : n ≤ 1000 := hs.1
  obtain ⟨c0, _, c2, _, _, _⟩ := h.cells
  clear h hSt hs
  by_cases h0 : n = 0
  · have e0 : ((n : Int) == 0) = true := by simp [h0]
    have HZ : Hid _ := h0
    clear h0 hrp
    go_enter Tryz.func14, Tryz.ntmps14
    go_wp2_with (go_at_call 31; refine Calls.mono HG.out.2.1 ?_; rintro r w1 ⟨rfl, hw⟩; obtain rfl := hw.symm)
    go_ret
    exact ⟨_, [], rfl, World.ownsRow_nil _ _ _ _, by rw [HZ.out]; rfl, fun p hp => by have := HZ.out; omega, Below.refl _ _⟩
  · have e0 : ((n : Int) == 0) = false := by simp; omega
    obtain ⟨t, rfl⟩ : ∃ t : Nat, s = (t : Int) := ⟨s.toNat, by have := hrp.2.2.2.2.1 (by omega); omega⟩
    have htn : t < n := by have := hrp.2.2.2.2.1 (by omega); omega
    have hmk := makeB n (by omega) w
    obtain ⟨w1, hw1⟩ : ∃ w1, w1 = w.alloc (.cells (madeV (.bool false) n) 4) := ⟨_, rfl⟩
    have hA1 := arr_new 4 (.bool false) rfl n w
    rw [← hw1] at hmk hA1
    rw [bC_rep] at hA1
    have cg := hA1.cell (i := t) (x := .bool false) (bC_at (by rw [List.getElem?_replicate, if_pos htn]))
    have cf := hA1.free t
    have hG1 := HG.out.1.below hA1.bl
    obtain ⟨_, _, d2, _, _, _⟩ := hG1.cells
    have hgl := t_lt HG.out.1.box
    have hne : ¬ g = w.heap.size := by omega
    have p0 : (0 : Int) ≤ (t : Int) := by omega
    have p1 : (t : Int) < (n : Int) := by omega
    have hR0 : RpAt w ((w1.setCell ⟨w.heap.size, t, none⟩ (.bool true)).alloc (.cells #[.int .i64 t] 3)) w.heap.size (.slice (some ⟨w1.heap.size, 0, none⟩) 1 1) [(t : Int)] ((List.replicate n false).set t true) := by
      have h1 : RpAt w w1 w.heap.size (.slice none 0 0) [] (List.replicate n false) := ⟨hA1, World.ownsRow_nil _ _ _ _⟩
      have h3 := (h1.mark t).below (w' := (w1.setCell ⟨w.heap.size, t, none⟩ (.bool true)).alloc (.cells #[.int .i64 t] 3)) ((Below.refl _ _).alloc (Nat.le_refl _) _)
      have h4 := heap_alloc_new (w1.setCell ⟨w.heap.size, t, none⟩ (.bool true)) (.cells #[.int .i64 t] 3)
      have h5 : (w1.setCell ⟨w.heap.size, t, none⟩ (.bool true)).heap.size = w1.heap.size := by simp
      rw [h5] at h4
      exact ⟨h3.inn, rfl, .inr ⟨w1.heap.size, 1, #[.int .i64 t], rfl, hA1.bl.size, h4, Nat.le_refl _, by unfold maxLen; omega, rfl, rfl⟩⟩
    have HH : Hid _ := And.intro hR0 (And.intro (Sy.RInv.begin es (t : Int) n rfl htn) hw1)
    have hz1 : ¬ w.heap.size = w1.heap.size := by have := hA1.lt; omega
    clear hR0 hA1 hG1 hw1 hrp h0
    go_enter Tryz.func14, Tryz.ntmps14
    go_wp2_with (go_at_call 31; refine Calls.mono HG.out.2.1 ?_; rintro r w9 ⟨rfl, hw⟩; obtain rfl := hw.symm)
    go_loopg [4, 5] n (fun q u iv wr => ∃ (i : Nat) (zs : List Int) (ms : List Bool), q = n - i ∧ i ≤ zs.length ∧ iv = .int .i64 i ∧ RpAt w wr w.heap.size u zs ms ∧ Sy.RInv es t n zs ms i)
    case atStart => exact ⟨0, _, _, rfl, Nat.zero_le _, rfl, HH.out.1, HH.out.2.1⟩
    case round =>
      obtain ⟨i, zs, ms, rfl, hi, rfl, hC, hI⟩ := hrel
      obtain ⟨wq, rfl⟩ : ∃ wq, wq = wr := ⟨_, rfl⟩
      have hzn := hI.short
      obtain ⟨N, hN⟩ : ∃ N, N = zs.length := ⟨_, rfl⟩
      obtain ⟨au, cu, hu⟩ := row_shape hC.lst
      rw [← hN] at hu hi hzn
      obtain rfl := hu
      clear c0 c2 cg cf d2 hmk hz1
      by_cases hlt : i < N
      · obtain ⟨z, hz⟩ : ∃ z, zs[i]? = some z := ⟨zs[i]'(by omega), List.getElem?_eq_getElem _⟩
        obtain ⟨ga, rfl, cz⟩ := own_num hC.lst hz
        have hzr := hI.rng z (List.mem_of_getElem? hz)
        obtain ⟨p, rfl⟩ : ∃ p : Nat, z = (p : Int) := ⟨z.toNat, by omega⟩
        have hpn : p < n := by omega
        have hG := HG.out.1.below hC.inn.bl
        obtain ⟨_, _, _, ⟨c0, c1⟩, _, _⟩ := hG.cells
        have hR : ∀ W, Below wq.heap.size wq W → Calls Tryz.prog 29 #[.agg #[.slice (some ⟨bs, 0, none⟩) (Sy.nf es).length (Sy.nf es).length, .slice (some ⟨bb, 0, none⟩) (n + 1) (n + 1)], .int .i64 p] W fun r w' => ∃ v, r = .returned v ∧ (∀ W, Tb W B bs bb n (Sy.nf es) → BSteps.Has W v (Sy.rowOf n (Sy.nf es) p)) ∧ Below W.heap.size W w' := fun W hb => (hG.below hb).row p
        obtain ⟨L, hL⟩ : ∃ L, L = (Sy.nf es).length := ⟨_, rfl⟩
        have HR : Hid _ := And.intro hR hL
        rw [← hL] at HR c0
        have q0 : (0 : Int) ≤ (i : Int) := by omega
        have q1 : (i : Int) < (N : Int) := by omega
        have HI : Hid _ := And.intro hC (And.intro hI (And.intro hz hN))
        clear hC hI hz hN hzr hG hR hL
        go_upto_region 9 with fail
        go_region_held3 (fun w' => (w'.cell? ⟨g, 3, none⟩ = some (.slice (some ⟨bs, 0, none⟩) L L) ∧ w'.cell? ⟨g, 4, none⟩ = some (.slice (some ⟨bb, 0, none⟩) (n + 1) (n + 1)) ∧ w'.cell? ⟨ga, i, none⟩ = some (.int .i64 p) ∧ w'.cell? ⟨ga, i, none⟩ = some (.int .i64 p)) ∧ Hid (Below wq.heap.size wq w')) (first | exact rg_up4 hb3 (by assumption) | exact ⟨⟨c0, c1, cz, cz⟩, ((Below.refl _ _).drew : Below wq.heap.size wq wq.drew)⟩ | go_keep)
          ((first
            | (go_at_call 29; refine (HR.out.1 _ (rg_b (by assumption))).mono ?_; rintro r w3 ⟨v, rfl, hv, hb3⟩; obtain ⟨av, cv, rfl, hv0⟩ := hv w HG.out.1.out; clear hv0)
            | fail))
        have hbq : Below wq.heap.size wq w3 := rg_b (by assumption)
        clear hb3 c0 c1 cz
        rename_i hS3
        clear hS3
        rw [rowOf_in _ hpn]
        rw [rowOf_in _ hpn] at hv
        obtain ⟨M, hM⟩ : ∃ M, M = (Sy.steps (Sy.nf es) p).length := ⟨_, rfl⟩
        rw [← hM]
        rw [← hM] at hv
        have hMl : M ≤ 100000 := by have := Sy.steps_len (Sy.nf es) p; have := HG.out.2.2.1.2; omega
        have HV : Hid _ := And.intro hv (And.intro hbq hM)
        clear hv hbq hM
        go_wp2_with fail
        go_loopg [4, 43] M (fun q u kv wr => ∃ (k : Nat) (zs : List Int) (bs : List Bool), q = M - k ∧ k ≤ M ∧ kv = .int .i64 k ∧ RpAt w wr w.heap.size u zs bs ∧ Sy.RInv es t n zs bs i ∧ i < zs.length ∧ zs[i]? = some (p : Int) ∧ ∀ x ∈ (Sy.steps (Sy.nf es) p).take k, x.2 ∈ zs)
        case atStart => exact ⟨0, zs, ms, rfl, Nat.zero_le _, rfl, HI.out.1.below HV.out.2.1, HI.out.2.1, by have := HI.out.2.2.2; omega, HI.out.2.2.1, fun x hx => by simp at hx⟩
        case round =>
          obtain ⟨k2, ys, ds, rfl, hk, rfl, hC, hJ, hil, hyp, hall⟩ := hrel
          obtain ⟨wp, rfl⟩ : ∃ wp, wp = wr := ⟨_, rfl⟩
          obtain ⟨N2, hN2⟩ : ∃ N2, N2 = ys.length := ⟨_, rfl⟩
          have hyn := hJ.short
          obtain ⟨ay, cy, hv2⟩ := row_shape hC.lst
          rw [← hN2] at hv2 hil hyn
          obtain rfl := hv2
          by_cases hkm : k2 < M
          · obtain ⟨x, hx⟩ : ∃ x, (Sy.steps (Sy.nf es) p)[k2]? = some x := ⟨(Sy.steps (Sy.nf es) p)[k2]'(by have := HV.out.2.2; omega), List.getElem?_eq_getElem _⟩
            obtain ⟨a, rfl, d0, d1⟩ := step_at (HV.out.1 wp (HG.out.1.out.below hC.inn.bl)) hx
            have hxe : ((p : Int), x.1, x.2) ∈ es := (Sy.nf_mem es _).1 (Sy.steps_mem.1 (List.mem_of_getElem? hx))
            have hxr : 0 ≤ x.2 ∧ x.2 < (n : Int) := by have := HG.out.2.2.2.2.2.2.2.2 _ hxe; exact ⟨this.2.2.1, this.2.2.2.1⟩
            obtain ⟨q, hq⟩ : ∃ q : Nat, x.2 = (q : Int) := ⟨x.2.toNat, by omega⟩
            have hqn : q < n := by omega
            rw [hq] at d1
            obtain ⟨b, hb⟩ : ∃ b, ds[q]? = some b := ⟨ds[q]'(by rw [hJ.len]; exact hqn), List.getElem?_eq_getElem _⟩
            obtain ⟨x1, x2⟩ := x
            simp only at d0 hq hxe
            obtain ⟨wb, hwb⟩ : ∃ wb, wb = wp.alloc (.cells #[.int .i64 x1, .int .i64 q] 76) := ⟨_, rfl⟩
            have hbb : Below wp.heap.size wp wb := by rw [hwb]; exact (Below.refl _ _).alloc (Nat.le_refl _) _
            have hgb : wb.heap[wp.heap.size]? = some (.cells #[.int .i64 x1, .int .i64 q] 76 (0, 0)) := by rw [hwb]; exact heap_alloc_new wp _
            have hCb := hC.below hbb
            have f0 : wb.cell? ⟨wp.heap.size, 0, none⟩ = some (.int .i64 x1) := cell0_of hgb rfl
            have f1 : wb.cell? ⟨wp.heap.size, 1, none⟩ = some (.int .i64 q) := cell0_of hgb rfl
            have cbm := hCb.inn.cell (bC_at hb)
            have cff := hCb.inn.free q
            have k0 : (0 : Int) ≤ (k2 : Int) := by omega
            have k1 : (k2 : Int) < (M : Int) := by omega
            have k3 : (0 : Int) ≤ (q : Int) := by omega
            have k4 : (q : Int) < (n : Int) := by omega
            cases b with
            | true =>
              have HJ : Hid _ := And.intro hCb (And.intro hJ (And.intro hyp (And.intro hall (And.intro hx (And.intro hq (And.intro hb (And.intro hN2 hwb)))))))
              clear hC hCb hJ hyp hall hx hq hb hN2 hxe hxr hwb hbb hgb
              go_upto_region 12 with fail
              rw [← HJ.out.2.2.2.2.2.2.2.2]
              go_wp2_with fail
              go_roundg (M - (k2 + 1))
              case measure => omega
              case rel =>
                exact ⟨k2 + 1, ys, ds, rfl, by omega, by go_num, HJ.out.1, HJ.out.2.1, by have := HJ.out.2.2.2.2.2.2.2.1; omega, HJ.out.2.2.1, fun y hy => by
                  rw [take_succ_of HJ.out.2.2.2.2.1] at hy
                  rcases List.mem_append.1 hy with hy | hy
                  · exact HJ.out.2.2.2.1 y hy
                  · rw [List.mem_singleton.1 hy]; simp only; rw [HJ.out.2.2.2.2.2.1]; exact (HJ.out.2.1.iff q).1 HJ.out.2.2.2.2.2.2.1⟩
            | false =>
              have hlt9 := hC.inn.lt
              have hne9 : ¬ wp.heap.size = w.heap.size := by omega
              obtain ⟨wz, hwz⟩ : ∃ wz, wz = wb.setCell ⟨w.heap.size, q, none⟩ (.bool true) := ⟨_, rfl⟩
              have hCz : RpAt w wz w.heap.size (.slice ay N2 cy) ys (ds.set q true) := by rw [hwz]; exact hCb.mark q
              have dz : wz.cell? ⟨wp.heap.size, 1, none⟩ = some (.int .i64 q) := by rw [hwz]; exact (World.cell?_of_block (a := ⟨wp.heap.size, 1, none⟩) (set_other _ _ _ _ _ hne9)).trans f1
              have hOz : wz.ownsRow w.heap.size 3 1 (.slice ay N2 cy) N2 (iC ys) := by have h1 := hCz.lst; unfold OwnI at h1; rw [← hN2] at h1; exact h1
              have hle : w.heap.size ≤ (wz.alloc (.cells #[.int .i64 q] 3)).heap.size := by have := hCz.inn.bl.size; simp; omega
              have hml : N2 + 1 ≤ maxLen := by unfold maxLen; omega
              have hby : (N2 + 1) * 8 ≤ 140737488355328 := by omega
              have hpush := hJ.push hqn hb (by rw [← hq]; exact Sy.Rea.step _ hxe (hJ.rea _ (List.mem_of_getElem? hyp))) (by omega)
              have HZ : Hid _ := And.intro hCz (And.intro hOz (And.intro hwz hwb))
              have HJ : Hid _ := And.intro hpush (And.intro hyp (And.intro hall (And.intro hx (And.intro hq hN2))))
              clear hC hCb hJ hyp hall hx hq hb hN2 hxe hxr hCz hOz hwz hpush hwb hbb hgb
              go_upto_region 12 with fail
              rw [← HZ.out.2.2.2]
              go_upto_region 14 with fail
              rw [← HZ.out.2.2.1]
              go_wp2_with (at_builtin; refine wpList_append_own_at _ rfl _ _ 49 rfl w.heap.size 3 i0 (.int .i64 0) 1 8 Tryz.underlying49 hi0 hz0 hz1 hz2 rfl (by decide) (.slice ay N2 cy) N2 (iC ys) rfl (HZ.out.2.1.alloc _) ⟨wz.heap.size, 0, none⟩ 1 1 [.int .i64 q] rfl rfl (World.news_of_block (cs := #[.int .i64 q]) (t := 3) (fr := (0, 0)) (heap_alloc_new wz _)) (by simp [Value.oneCell']) hml hby hle ?_; intro v5 w5 hO5 hg5 hnil5 hat5; have H2 : Hid _ := And.intro hO5 hg5; clear hO5 hg5 hnil5 hat5)
              go_roundg (M - (k2 + 1))
              case measure => omega
              case rel =>
                have hlen := HJ.out.2.2.2.2.2
                refine ⟨k2 + 1, ys ++ [(q : Int)], ds.set q true, rfl, by omega, by go_num, HZ.out.1.push hlen H2.out.1 (grown_alloc H2.out.2), HJ.out.1, by rw [List.length_append]; omega, by rw [List.getElem?_append_left (by omega)]; exact HJ.out.2.1, fun y hy => ?_⟩
                rw [take_succ_of HJ.out.2.2.2.1] at hy
                rcases List.mem_append.1 hy with hy | hy
                · exact List.mem_append_left _ (HJ.out.2.2.1 y hy)
                · rw [List.mem_singleton.1 hy]; simp only; rw [HJ.out.2.2.2.2.1]; exact List.mem_append_right _ (List.mem_singleton.2 rfl)
          · obtain rfl : k2 = M := by omega
            have k1 : ¬ (k2 : Int) < (k2 : Int) := by omega
            have hI2 := hJ.next hyp fun e he h1 => by
              have h2 : (e.2.1, e.2.2) ∈ Sy.steps (Sy.nf es) p := Sy.steps_mem.2 ((Sy.nf_mem es _).2 (by rw [← h1]; exact he))
              exact hall _ (by rw [List.take_of_length_le (by have := HV.out.2.2; omega)]; exact h2)
            have HJ : Hid _ := And.intro hC (And.intro hI2 hN2)
            clear hC hJ hI2 hyp hall hN2
            go_wp2_with fail
            go_roundg (n - (i + 1))
            case measure => omega
            case rel => exact ⟨i + 1, ys, ds, rfl, by have := HJ.out.2.2; omega, by go_num, HJ.out.1, HJ.out.2.1⟩
      · obtain rfl : i = N := by omega
        have hlst := hC.lst
        obtain ⟨ga, rfl⟩ : ∃ ga, au = some ⟨ga, 0, none⟩ := by
          have h1 : 0 < zs.length := List.length_pos_of_mem hI.st
          obtain ⟨g9, c9, hf, _, _⟩ := World.ownsRow.form hlst (by omega)
          injection hf with e1
          exact ⟨g9, e1⟩
        rw [hN] at hlst
        have hSo := sortI_any wq w.heap.size ga cu zs hlst (by omega)
        rw [← hN] at hSo
        have HI : Hid _ := And.intro hC (And.intro hI (And.intro hN hSo))
        clear hC hI hN hSo hlst
        have q1 : ¬ (i : Int) < (i : Int) := by omega
        go_wp2_with fail
        refine Calls.mono HI.out.2.2.2 ?_
        rintro r w5 ⟨rfl, hO5, hg5⟩
        have H5 : Hid _ := And.intro hO5 hg5
        clear hO5 hg5
        go_wp2_with fail
        go_ret
        have hR5 := HI.out.2.1
        rw [HI.out.2.2.1] at hR5
        have hO := H5.out.1
        rw [Sy.sorted_marked hR5] at hO
        refine ⟨_, ms, rfl, hO, hR5.len, fun p hp => hR5.all p, ?_⟩
        exact HI.out.1.inn.bl.grown H5.out.2 HI.out.1.inn.bl.size fun b e => by
          have h1 := (World.ownsRow.lt HI.out.1.lst b (by rw [← e]; rfl)).1
          exact h1
end Go.Proofs.YtihdpncjgmpboaaGreatDoor
/- Contract of the law's alive: a first call whose answer the document fixes. -/
namespace Go.Proofs.YtihdpncjgmpboaaGreatDoor
open Go.RowKit Go.Maps
attribute [local go_sem ↓] Go.wp_at_zero Go.wp_at_succ
def esA : List Sy.Ed := [(0, 1, 1), (1, 0, 0), (2, 1, 0)]
theorem esA_right : Sy.right ((3 : Nat) : Int) 2 0 esA = true := by decide
theorem esA_out : (Sy.rowOf 3 (Sy.nf esA) 0).length = 1 := by decide
theorem esA_in : (Sy.rowOf 3 (Sy.nf ((Sy.nf esA).map Sy.turn)) 0).length = 2 := by decide
theorem esA_deg : Sy.degTo (Sy.nf esA) 3 = 1 := by decide
theorem esA_rea {p : Int} (h : Sy.Rea esA 0 p) : p = 0 ∨ p = 1 := by
  induction h with
  | start => exact .inl rfl
  | step e he _ ih =>
    simp only [esA, List.mem_cons, List.not_mem_nil, or_false] at he
    rcases he with rfl | rfl | rfl
    · exact .inr rfl
    · exact .inl rfl
    · exact .inl rfl
theorem esA_marks {ms : List Bool} (hl : ms.length = 3) (h : ∀ p : Nat, p < 3 → (ms[p]? = some true ↔ Sy.Rea esA 0 p)) : (Sy.marked ms).length = 2 := by
  match ms, hl with
  | [a, b, c], _ =>
    have ha : a = true := by have := (h 0 (by omega)).2 .start; simpa using this
    have hb : b = true := by have := (h 1 (by omega)).2 (.step (0, 1, 1) (by simp [esA]) .start); simpa using this
    have hc : c = false := by
      cases c with
      | false => rfl
      | true =>
        rcases esA_rea ((h 2 (by omega)).1 rfl) with e | e <;> omega
    subst ha hb hc
    decide
theorem esA_has (w : World) : BEdges.Has (w.alloc (.cells #[.int .i64 0, .int .i64 1, .int .i64 1, .int .i64 1, .int .i64 0, .int .i64 0, .int .i64 2, .int .i64 1, .int .i64 0] 65)) (.slice (some ⟨w.heap.size, 0, none⟩) 3 3) esA := by
  refine ⟨some ⟨w.heap.size, 0, none⟩, 3, rfl, fun j u hj => ⟨_, rfl, ?_⟩⟩
  rw [addz]
  refine cell0_of (heap_alloc_new w _) ?_
  rw [← Array.getElem?_toList]
  exact hj
set_option maxRecDepth 100000 in
set_option maxHeartbeats 4000000 in
theorem pAlive (a : Addr) (w : World) (h : Sent w 0 a) : PAlive w := fun W hb => by
  have hA := h.below hb
  clear h hb
  obtain ⟨w1, hw1⟩ : ∃ w1, w1 = W.alloc (.cells #[.int .i64 0, .int .i64 1, .int .i64 1, .int .i64 1, .int .i64 0, .int .i64 0, .int .i64 2, .int .i64 1, .int .i64 0] 65) := ⟨_, rfl⟩
  have hb1 : Below W.heap.size W w1 := by rw [hw1]; exact (Below.refl _ _).alloc (Nat.le_refl _) _
  have hv := esA_has W
  rw [← hw1] at hv
  have hN := new_ok sort12 ((3 : Nat) : Int) 2 0 (.slice (some ⟨W.heap.size, 0, none⟩) 3 3) esA a w1 (hA.below hb1) hv (by decide) (by decide) esA_right
  unfold sysV at hN
  have HN : Hid _ := And.intro hN (And.intro hb1 hw1)
  clear hN hb1 hw1 hv hA
  go_enter Tryz.func4, Tryz.ntmps4
  go_wp2_with fail
  rw [← HN.out.2.2]
  refine Calls.mono HN.out.1 ?_
  rintro r w2 ⟨g, bs, bb, cs, cb, m, hm, rfl, hG, hb2⟩
  obtain rfl : m = 3 := by omega
  have hbw := HN.out.2.1.trans (hb2.mono HN.out.2.1.size)
  have H2 : Hid _ := And.intro hG hbw
  clear hG hb2 hm hbw HN
  go_wp2_with fail
  refine Calls.mono (out_any 0 _ H2.out.1) ?_
  rintro r w3 ⟨u3, rfl, hO3, hb3⟩
  obtain ⟨a3, c3, rfl⟩ := row_shape hO3
  rw [esA_out]
  have hG3 := H2.out.1.below hb3
  have H3 : Hid _ := And.intro hG3 (H2.out.2.trans (hb3.mono H2.out.2.size))
  clear hG3 hb3 hO3 H2
  go_wp2_with fail
  refine Calls.mono (in_any 0 _ H3.out.1) ?_
  rintro r w4 ⟨u4, rfl, hO4, hb4⟩
  obtain ⟨a4, c4, rfl⟩ := row_shape hO4
  rw [esA_in]
  have hG4 := H3.out.1.below hb4
  have H4 : Hid _ := And.intro hG4 (H3.out.2.trans (hb4.mono H3.out.2.size))
  clear hG4 hb4 hO4 H3
  go_wp2_with fail
  refine Calls.mono (reach_any _ H4.out.1) ?_
  rintro r w5 ⟨u5, ms, rfl, hO5, hl5, hm5, hb5⟩
  obtain ⟨a5, c5, rfl⟩ := row_shape hO5
  rw [esA_marks hl5 hm5]
  have hG5 := H4.out.1.below hb5
  have H5 : Hid _ := And.intro hG5 (H4.out.2.trans (hb5.mono H4.out.2.size))
  clear hG5 hb5 hO5 H4 hl5 hm5
  go_wp2_with fail
  refine Calls.mono (degree_any _ H5.out.1) ?_
  rintro r w6 ⟨rfl, hb6⟩
  rw [esA_deg]
  have H6 : Hid _ := H5.out.2.trans (hb6.mono H5.out.2.size)
  clear hb6 H5
  go_wp2_with fail
  go_ret
  exact ⟨rfl, H6.out⟩
end Go.Proofs.YtihdpncjgmpboaaGreatDoor
/- A row of a table once more: its capacity, too. -/
namespace Go.Proofs.YtihdpncjgmpboaaGreatDoor
open Go.RowKit Go.Maps
attribute [local go_sem ↓] Go.wp_at_zero Go.wp_at_succ
set_option maxRecDepth 100000 in
set_option maxHeartbeats 4000000 in
theorem row2_any (bs bb m n B : Nat) (l : List Sy.Ed) (i : Int) (w : World) (hn : n ≤ 100000) (hl : l.length = m) (hs : Sy.Rows l) (hT : Tb w B bs bb n l) :
    Calls Tryz.prog 29 #[tabV bs bb m n, .int .i64 i] w fun r w' => ∃ v, r = .returned v ∧ (∀ W, Tb W B bs bb n l → BSteps.Has W v (Sy.rowOf n l i)) ∧ (∃ a k c, v = .slice a k c ∧ k ≤ c) ∧ Below w.heap.size w w' := by
  obtain ⟨w1, hw1⟩ : ∃ w1, w1 = w.alloc (.cells #[.slice (some ⟨bs, 0, none⟩) m m, .slice (some ⟨bb, 0, none⟩) (n + 1) (n + 1)] 68) := ⟨_, rfl⟩
  have hb1 : Below w.heap.size w w1 := by rw [hw1]; exact (Below.refl _ _).alloc (Nat.le_refl _) _
  have hg1 : w1.heap[w.heap.size]? = some (.cells #[.slice (some ⟨bs, 0, none⟩) m m, .slice (some ⟨bb, 0, none⟩) (n + 1) (n + 1)] 68 (0, 0)) := by rw [hw1]; exact heap_alloc_new w _
  have hT1 := hT.below hb1
  have hB := fun W => below_any i (n : Int) W
  have HB : Hid _ := hB
  have r0 : IntKind.i64.wrap ((n : Int) + 1 - 1) = (n : Int) := by rw [IntKind.wrap_i64]; omega
  unfold tabV Sy.rowOf
  by_cases hi : 0 ≤ i ∧ i < (n : Int)
  · rw [if_pos hi]
    rw [decide_eq_true hi] at HB
    obtain ⟨q, rfl⟩ : ∃ q : Nat, i = (q : Int) := ⟨i.toNat, by omega⟩
    have hqn : q < n := by omega
    have c0 : w1.cell? ⟨w.heap.size, 0, none⟩ = some (.slice (some ⟨bs, 0, none⟩) m m) := cell0_of hg1 rfl
    have c1 : w1.cell? ⟨w.heap.size, 1, none⟩ = some (.slice (some ⟨bb, 0, none⟩) (n + 1) (n + 1)) := cell0_of hg1 rfl
    have x0 := hT1.nums.cell (i := q) (x := .int .i64 (Sy.cnt l (q : Int) : Nat)) (by unfold iC; rw [List.getElem?_map, Sy.bounds_at (by omega)]; rfl)
    have x1 := hT1.nums.cell (i := q + 1) (x := .int .i64 (Sy.cnt l ((q : Int) + 1) : Nat)) (by unfold iC; rw [List.getElem?_map, Sy.bounds_at (by omega)]; rfl)
    have hle := Sy.cnt_mono l (q : Int)
    have hlm := Sy.cnt_le l ((q : Int) + 1)
    have hpc : ∀ W, Tb W B bs bb n l → BSteps.Has W (.slice (some ⟨bs, Sy.cnt l (q : Int) * 2, none⟩) (Sy.cnt l ((q : Int) + 1) - Sy.cnt l (q : Int)) (Sy.cnt l ((q : Int) + 1) - Sy.cnt l (q : Int))) (Sy.steps l q) := fun W hW => by
      rw [map_stp l q hs]
      exact piece_has hW.steps (Sy.cnt l (q : Int)) (Sy.cnt l ((q : Int) + 1) - Sy.cnt l (q : Int)) (Sy.cnt l ((q : Int) + 1) - Sy.cnt l (q : Int)) (by rw [List.length_map]; omega)
    have hz : Sy.cnt l ((q : Int) + 1) - Sy.cnt l (q : Int) = 0 → Sy.steps l q = [] := fun e => by rw [map_stp l q hs, e]; simp
    generalize Sy.cnt l (q : Int) = b at x0 hle hpc hz
    generalize Sy.cnt l ((q : Int) + 1) = e at x1 hle hlm hpc hz
    have r1 : (0 : Int) ≤ (q : Int) := by omega
    have r2 : (q : Int) < (n : Int) + 1 := by omega
    have r3 : (0 : Int) ≤ (q : Int) + 1 := by omega
    have r4 : (q : Int) + 1 < (n : Int) + 1 := by omega
    have r5 : ((q : Int) + 1).toNat = q + 1 := by omega
    have r6 : IntKind.i64.wrap ((q : Int) + 1) = (q : Int) + 1 := by rw [IntKind.wrap_i64]; omega
    have r7 : (0 : Int) ≤ (b : Int) := by omega
    have r8 : (b : Int) ≤ (e : Int) := by omega
    have r9 : (e : Int) ≤ (m : Int) := by omega
    have H1 : Hid _ := And.intro hw1 (And.intro hb1 (And.intro hpc hz))
    clear hw1 hb1 hg1 hT1 hT hB hpc hz hs hl hi
    go_enter Tryz.func29, Tryz.ntmps29
    go_upto_region 1 with fail
    rw [← H1.out.1]
    go_wp2_with (go_at_call 86; refine (HB.out _).mono ?_; rintro r w2 ⟨rfl, hw2⟩; obtain rfl := hw2.symm)
    go_quiet (fail)
    go_wp2_with fail
    · go_ret
      refine ⟨_, rfl, fun W _ => ?_, ⟨_, _, _, rfl, by omega⟩, below_drewN H1.out.2.1 _⟩
      rw [H1.out.2.2.2 (by omega)]
      exact hasS_none _ _ _
    · go_ret
      exact ⟨_, rfl, H1.out.2.2.1, ⟨_, _, _, rfl, by omega⟩, below_drewN H1.out.2.1 _⟩
  · rw [if_neg hi]
    rw [decide_eq_false hi] at HB
    have c1 : w1.cell? ⟨w.heap.size, 1, none⟩ = some (.slice (some ⟨bb, 0, none⟩) (n + 1) (n + 1)) := cell0_of hg1 rfl
    have H1 : Hid _ := And.intro hw1 hb1
    clear hw1 hb1 hg1 hT1 hT hB hs hl hi
    go_enter Tryz.func29, Tryz.ntmps29
    go_upto_region 1 with fail
    rw [← H1.out.1]
    go_wp2_with (go_at_call 86; refine (HB.out _).mono ?_; rintro r w2 ⟨rfl, hw2⟩; obtain rfl := hw2.symm)
    go_ret
    exact ⟨_, rfl, fun W _ => hasS_nil _ _, ⟨_, _, _, rfl, Nat.le_refl _⟩, H1.out.2⟩
end Go.Proofs.YtihdpncjgmpboaaGreatDoor
/- Contracts of the program's comparison of a step's label, and of slices.BinarySearchFunc by it. -/
namespace Go.Proofs.YtihdpncjgmpboaaGreatDoor
open Go.RowKit Go.Maps
attribute [local go_sem ↓] Go.wp_at_zero Go.wp_at_succ
set_option maxRecDepth 100000 in
theorem ends1_any (a b l : Int) (w : World) : Calls Tryz.prog 88 #[.agg #[.int .i64 a, .int .i64 b], .int .i64 l] w fun r w' => r = .returned (.int .i64 (cmpI a l)) ∧ Below w.heap.size w w' := by
  obtain ⟨w1, hw1⟩ : ∃ w1, w1 = w.alloc (.cells #[.int .i64 a, .int .i64 b] 76) := ⟨_, rfl⟩
  have hb1 : Below w.heap.size w w1 := by rw [hw1]; exact (Below.refl _ _).alloc (Nat.le_refl _) _
  have hg1 : w1.heap[w.heap.size]? = some (.cells #[.int .i64 a, .int .i64 b] 76 (0, 0)) := by rw [hw1]; exact heap_alloc_new w _
  have c0 : w1.cell? ⟨w.heap.size, 0, none⟩ = some (.int .i64 a) := cell0_of hg1 rfl
  have H1 : Hid _ := And.intro hw1 (And.intro hb1 (cmpI_any a l w1))
  clear hw1 hb1 hg1
  go_enter Tryz.func88, Tryz.ntmps88
  go_upto_region 1 with fail
  rw [← H1.out.1]
  go_wp2_with fail
  refine Calls.mono H1.out.2.2 ?_
  rintro r w2 ⟨rfl, hw2⟩
  obtain rfl := hw2.symm
  clear hw2
  go_wp2_with fail
  go_ret
  exact ⟨rfl, H1.out.2.1⟩
theorem cmpI_neg (a b : Int) : cmpI a b < 0 ↔ a < b := by unfold cmpI; split <;> (try split) <;> omega
/-- Where a label begins in a row. -/
structure BinAt (zs : List BSteps.El) (l : Int) (i j : Nat) : Prop where
  lo : ∀ (k : Nat) (z : BSteps.El), k < i → zs[k]? = some z → z.1 < l
  hi : ∀ (k : Nat) (z : BSteps.El), j ≤ k → zs[k]? = some z → l ≤ z.1
theorem bin_begin (zs : List BSteps.El) (l : Int) : BinAt zs l 0 zs.length := ⟨fun k z h => by omega, fun k z h hz => by have := (List.getElem?_eq_some_iff.1 hz).1; omega⟩
theorem BinAt.left {zs : List BSteps.El} {l : Int} {i j h : Nat} (hB : BinAt zs l i j) (hs : zs.Pairwise fun x y => x.1 ≤ y.1) {z : BSteps.El} (hz : zs[h]? = some z) (hl : z.1 < l) : BinAt zs l (h + 1) j := by
  refine ⟨fun k y hk hy => ?_, hB.hi⟩
  by_cases e : k = h
  · subst e; rw [hz] at hy; cases hy; exact hl
  · obtain ⟨a1, a2⟩ := List.getElem?_eq_some_iff.1 hy
    obtain ⟨b1, b2⟩ := List.getElem?_eq_some_iff.1 hz
    have := List.pairwise_iff_getElem.1 hs k h a1 b1 (by omega)
    rw [a2, b2] at this
    omega
theorem BinAt.right {zs : List BSteps.El} {l : Int} {i j h : Nat} (hB : BinAt zs l i j) (hs : zs.Pairwise fun x y => x.1 ≤ y.1) {z : BSteps.El} (hz : zs[h]? = some z) (hl : ¬ z.1 < l) : BinAt zs l i h := by
  refine ⟨hB.lo, fun k y hk hy => ?_⟩
  by_cases e : k = h
  · subst e; rw [hz] at hy; cases hy; omega
  · obtain ⟨a1, a2⟩ := List.getElem?_eq_some_iff.1 hy
    obtain ⟨b1, b2⟩ := List.getElem?_eq_some_iff.1 hz
    have := List.pairwise_iff_getElem.1 hs h k b1 a1 (by omega)
    rw [a2, b2] at this
    omega
set_option maxRecDepth 100000 in
set_option maxHeartbeats 4000000 in
theorem bin_any (v : Value) (zs : List BSteps.El) (l : Int) (w : World) (hv : BSteps.Has w v zs) (hs : zs.Pairwise fun x y => x.1 ≤ y.1) (hn : zs.length ≤ 100000) :
    Calls Tryz.prog 87 #[v, .int .i64 l, .func (.func 88) #[] #[]] w fun r w' => ∃ (i : Nat) (b : Bool), r = .returned (.tuple #[.int .i64 i, .bool b]) ∧ i ≤ zs.length ∧ BinAt zs l i i ∧ Below w.heap.size w w' := by
  have hv0 := hv
  obtain ⟨ao, cap, rfl, _⟩ := hv0
  obtain ⟨n, hN⟩ : ∃ n, n = zs.length := ⟨_, rfl⟩
  rw [← hN] at hn hv ⊢
  have HV : Hid (BSteps.Has w (.slice ao n cap) zs ∧ n = zs.length ∧ zs.Pairwise (fun x y => x.1 ≤ y.1) ∧ BinAt zs l 0 n) := ⟨hv, hN, hs, by rw [hN]; exact bin_begin zs l⟩
  clear hv hN hs
  go_enter Tryz.func87, Tryz.ntmps87
  go_wp2_with fail
  go_loopg [9, 10] n (fun q iv jv wr => ∃ i j : Nat, q = j - i ∧ i ≤ j ∧ j ≤ n ∧ iv = .int .i64 i ∧ jv = .int .i64 j ∧ BinAt zs l i j ∧ Below w.heap.size w wr)
  case atStart => exact ⟨0, n, by omega, Nat.zero_le _, Nat.le_refl _, rfl, rfl, HV.out.2.2.2, Below.refl _ _⟩
  case round =>
    obtain ⟨i, j, rfl, hij, hjn, rfl, rfl, hB, hb⟩ := hrel
    obtain ⟨wq, rfl⟩ : ∃ wq, wq = wr := ⟨_, rfl⟩
    by_cases hlt : i < j
    · obtain ⟨h, hh⟩ : ∃ h, h = (i + j) / 2 := ⟨_, rfl⟩
      have h1 : i ≤ h := by omega
      have h2 : h < j := by omega
      have k0 : (i : Int) < (j : Int) := by omega
      have kh : ((i : Int) + (j : Int)) / 2 = (h : Int) := by omega
      obtain ⟨z, hz⟩ : ∃ z, zs[h]? = some z := ⟨zs[h]'(by have := HV.out.2.1; omega), List.getElem?_eq_getElem _⟩
      obtain ⟨a, rfl, d0, d1⟩ := step_at (HV.out.1.below hb) hz
      have k1 : (0 : Int) ≤ (h : Int) := by omega
      have k2 : (h : Int) < (n : Int) := by omega
      have hB1 := fun (hl : z.1 < l) => hB.left HV.out.2.2.1 hz hl
      have hB2 := fun (hl : ¬ z.1 < l) => hB.right HV.out.2.2.1 hz hl
      obtain ⟨z1, z2⟩ := z
      simp only at d0 d1 hB1 hB2
      have hE := ends1_any z1 z2 l wq
      have hcn := cmpI_neg z1 l
      obtain ⟨c, hc⟩ : ∃ c, c = cmpI z1 l := ⟨_, rfl⟩
      rw [← hc] at hE hcn
      have HE : Hid _ := And.intro hE (And.intro hb (And.intro hB1 hB2))
      clear hE hb hB1 hB2 hB hz hc hh
      by_cases hcl : c < 0
      · have HL : Hid (z1 < l) := hcn.1 hcl
        have k3 : decide (c < 0) = true := decide_eq_true hcl
        clear hcn
        go_wp2_with fail
        refine Calls.mono HE.out.1 ?_
        rintro r w2 ⟨rfl, hb2⟩
        have H2 : Hid _ := hb2
        clear hb2
        go_wp2_with fail
        go_roundg (j - (h + 1))
        case measure => omega
        case rel => exact ⟨h + 1, j, rfl, by omega, hjn, by go_num, rfl, HE.out.2.2.1 HL.out, HE.out.2.1.trans (H2.out.mono HE.out.2.1.size)⟩
      · have HL : Hid (¬ z1 < l) := fun h => hcl (hcn.2 h)
        have k3 : decide (c < 0) = false := decide_eq_false hcl
        clear hcn
        go_wp2_with fail
        refine Calls.mono HE.out.1 ?_
        rintro r w2 ⟨rfl, hb2⟩
        have H2 : Hid _ := hb2
        clear hb2
        go_wp2_with fail
        go_roundg (h - i)
        case measure => omega
        case rel => exact ⟨i, h, rfl, h1, by omega, rfl, rfl, HE.out.2.2.2 HL.out, HE.out.2.1.trans (H2.out.mono HE.out.2.1.size)⟩
    · obtain rfl : i = j := by omega
      have k0 : ¬ (i : Int) < (i : Int) := by omega
      by_cases hin : i < n
      · obtain ⟨z, hz⟩ : ∃ z, zs[i]? = some z := ⟨zs[i]'(by have := HV.out.2.1; omega), List.getElem?_eq_getElem _⟩
        obtain ⟨a, rfl, d0, d1⟩ := step_at (HV.out.1.below hb) hz
        have k1 : (0 : Int) ≤ (i : Int) := by omega
        have k2 : (i : Int) < (n : Int) := by omega
        have k3 : decide ((i : Int) < (n : Int)) = true := decide_eq_true k2
        obtain ⟨z1, z2⟩ := z
        simp only at d0 d1
        have hE := ends1_any z1 z2 l wq
        generalize cmpI z1 l = c at hE
        have HE : Hid _ := And.intro hE (And.intro hb hB)
        clear hE hb hB hz
        go_wp2_with fail
        refine Calls.mono HE.out.1 ?_
        rintro r w2 ⟨rfl, hb2⟩
        have H2 : Hid _ := hb2
        clear hb2
        go_wp2_with fail
        go_ret2
        exact ⟨i, _, rfl, hjn, HE.out.2.2, HE.out.2.1.trans (H2.out.mono HE.out.2.1.size)⟩
      · have k2 : ¬ (i : Int) < (n : Int) := by omega
        have HE : Hid _ := And.intro hb hB
        clear hb hB
        go_wp2_with fail
        go_ret2
        exact ⟨i, .inl rfl, hjn, HE.out.2, HE.out.1⟩
end Go.Proofs.YtihdpncjgmpboaaGreatDoor
