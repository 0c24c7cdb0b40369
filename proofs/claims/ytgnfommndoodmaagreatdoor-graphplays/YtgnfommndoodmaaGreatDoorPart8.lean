/- Texts of this claim, joined: SyRch, SyAlive, SyLent, SyPl0, SyRow2, SyBin. -/
import Derived.Test.YtgnfommndoodmaaGreatDoorPart7
import Derived.Deep.AppendLies
import Derived.Test.YtgnfommndoodmaaGreatDoorPart5
import Derived.Test.YtgnfommndoodmaaGreatDoorPart1
import Derived.Deep.DeepCutAuto
/- Contracts of the program's Degree and Reach. -/
namespace Go.Proofs.YtgnfommndoodmaaGreatDoor
open Go.RowKit Go.Maps
attribute [local go_sem ↓] Go.wp_at_zero Go.wp_at_succ
/-- The greatest number of steps of the first states. -/
def Sy.degTo (l : List Sy.Ed) : Nat → Nat
  | 0 => 0
  | st + 1 => max (Sy.degTo l st) (Sy.steps l (st : Int)).length
theorem Sy.degTo_le (l : List Sy.Ed) (n : Nat) : Sy.degTo l n ≤ l.length := by
  induction n with
  | zero => exact Nat.zero_le _
  | succ n ih => have := Sy.steps_len l (n : Int); unfold Sy.degTo; omega
theorem rowOf_in {n q : Nat} (l : List Sy.Ed) (h : q < n) : Sy.rowOf n l (q : Int) = Sy.steps l q := by
  unfold Sy.rowOf
  rw [if_pos ⟨by omega, by omega⟩]
set_option maxRecDepth 100000 in
set_option maxHeartbeats 4000000 in
theorem degree_any {B g bs bb cs cb n : Nat} {k s : Int} {es : List Sy.Ed} (w : World) (h : Gr w B g bs bb cs cb n k s es) : Calls Tryz.prog 28 #[.pointer (some ⟨g, 0, none⟩)] w fun r w' => r = .returned (.int .i64 (Sy.degTo (Sy.nf es) n : Nat)) ∧ Below w.heap.size w w' := by
  have hSt := states_any w h
  have hs := h.sizes
  have HG : Hid _ := And.intro h (And.intro hSt hs)
  have hn : n ≤ 1000 := hs.1
  clear h hSt hs
  go_enter Tryz.func28, Tryz.ntmps28
  go_wp2_with (go_at_call 22; refine Calls.mono HG.out.2.1 ?_; rintro r w1 ⟨rfl, hw⟩; obtain rfl := hw.symm)
  go_loopg [3, 7] n (fun q dv iv wr => ∃ st : Nat, q = n - st ∧ st ≤ n ∧ dv = .int .i64 (Sy.degTo (Sy.nf es) st : Nat) ∧ iv = .int .i64 st ∧ Below w.heap.size w wr)
  case atStart => exact ⟨0, rfl, Nat.zero_le _, rfl, rfl, Below.refl _ _⟩
  case round =>
    obtain ⟨st, rfl, hst, rfl, rfl, hb⟩ := hrel
    by_cases hlt : st < n
    · have hG := HG.out.1.below hb
      obtain ⟨_, _, _, ⟨c0, c1⟩, _, _⟩ := hG.cells
      have hR := hG.row (st : Int)
      have hT := hG.out
      have hd := Sy.degTo_le (Sy.nf es) st
      have hl := Sy.steps_len (Sy.nf es) (st : Int)
      have hsz := HG.out.2.2.2
      obtain ⟨D, hD⟩ : ∃ D, D = Sy.degTo (Sy.nf es) st := ⟨_, rfl⟩
      obtain ⟨L, hL⟩ : ∃ L, L = (Sy.nf es).length := ⟨_, rfl⟩
      rw [← hD]
      rw [← hD] at hd
      have HR : Hid _ := And.intro hR (And.intro hb (And.intro hD (And.intro hL hT)))
      rw [← hL] at HR c0 hsz hd hl
      have r0 : (0 : Int) ≤ (st : Int) := by omega
      have r1 : (st : Int) < (n : Int) := by omega
      clear hG hR hb hD hL hT
      go_wp2_with fail
      refine Calls.mono HR.out.1 ?_
      rintro r w1 ⟨v, rfl, hv, hb1⟩
      obtain ⟨av, cv, rfl, _⟩ := hv wr HR.out.2.2.2.2
      rw [rowOf_in _ hlt]
      obtain ⟨R, hRR⟩ : ∃ R, R = (Sy.steps (Sy.nf es) (st : Int)).length := ⟨_, rfl⟩
      rw [← hRR]
      rw [← hRR] at hl
      have H1 : Hid _ := And.intro hb1 hRR
      clear hv hb1 hRR c0 c1
      go_wp2_with fail
      go_roundg (n - (st + 1))
      case measure => omega
      case rel =>
        refine ⟨st + 1, rfl, by omega, ?_, by go_num, HR.out.2.1.trans (H1.out.1.mono HR.out.2.1.size)⟩
        have e9 : Sy.degTo (Sy.nf es) (st + 1) = max D R := by rw [HR.out.2.2.1, H1.out.2]; rfl
        rw [e9]
        congr 1
        omega
    · obtain rfl : st = n := by omega
      have HB : Hid _ := hb
      clear hb
      have r1 : ¬ (st : Int) < (st : Int) := by omega
      go_wp2_with fail
      go_ret
      exact ⟨rfl, HB.out⟩
/-- The marked places, rising. -/
def Sy.marked (bs : List Bool) : List Int := ((List.range bs.length).filter fun p => bs[p]? == some true).map fun (p : Nat) => (p : Int)
theorem Sy.marked_mem (bs : List Bool) (z : Int) : z ∈ Sy.marked bs ↔ ∃ p : Nat, z = (p : Int) ∧ bs[p]? = some true := by
  unfold Sy.marked
  rw [List.mem_map]
  constructor
  · rintro ⟨p, hp, rfl⟩
    obtain ⟨_, h2⟩ := List.mem_filter.1 hp
    exact ⟨p, rfl, by simpa using h2⟩
  · rintro ⟨p, rfl, h⟩
    refine ⟨p, List.mem_filter.2 ⟨List.mem_range.2 (List.getElem?_eq_some_iff.1 h).1, by simpa using h⟩, rfl⟩
theorem Sy.marked_rise (bs : List Bool) : (Sy.marked bs).Pairwise (· < ·) := by
  unfold Sy.marked
  refine List.Pairwise.map _ (fun a b h => ?_) ((List.pairwise_lt_range).sublist List.filter_sublist)
  omega
theorem count_filter (bs : List Bool) : ((List.range bs.length).filter fun p => bs[p]? == some true).length = bs.count true := by
  suffices h : ∀ i, i ≤ bs.length → ((List.range i).filter fun p => bs[p]? == some true).length = (bs.take i).count true by simpa using h bs.length (Nat.le_refl _)
  intro i
  induction i with
  | zero => intro _; simp
  | succ i ih =>
    intro hi
    obtain ⟨b, hb⟩ : ∃ b, bs[i]? = some b := ⟨bs[i], List.getElem?_eq_getElem _⟩
    rw [List.range_succ, List.filter_append, List.length_append, ih (by omega), take_succ_of hb, List.count_append]
    cases b <;> simp [hb]
theorem perm_of_sub {l : List Int} : ∀ {m : List Int}, l.Nodup → (∀ x ∈ l, x ∈ m) → m.length ≤ l.length → m.Perm l := by
  induction l with
  | nil => intro m _ _ h; rw [List.eq_nil_of_length_eq_zero (Nat.le_zero.1 h)]
  | cons a r ih =>
    intro m hn hs hl
    obtain ⟨h1, h2⟩ := List.nodup_cons.1 hn
    have ha := hs a List.mem_cons_self
    have hp := List.perm_cons_erase ha
    refine hp.trans (List.Perm.cons a (ih h2 (fun x hx => ?_) ?_))
    · have hne : x ≠ a := fun e => h1 (e ▸ hx)
      exact (List.mem_erase_of_ne hne).2 (hs x (List.mem_cons_of_mem _ hx))
    · rw [List.length_erase_of_mem ha]
      simp only [List.length_cons] at hl
      omega
theorem Sy.sorted_marked {es : List Sy.Ed} {s : Int} {n i : Nat} {zs : List Int} {bs : List Bool} (h : Sy.RInv es s n zs bs i) : (zs.mergeSort fun x y => decide (x ≤ y)) = Sy.marked bs := by
  have hr := Sy.marked_rise bs
  have hp : zs.Perm (Sy.marked bs) := by
    refine perm_of_sub (hr.imp fun h => by omega) (fun x hx => ?_) ?_
    · obtain ⟨p, rfl, h1⟩ := (Sy.marked_mem bs x).1 hx
      exact (h.iff p).1 h1
    · rw [h.cnt]
      unfold Sy.marked
      rw [List.length_map, count_filter]
      exact Nat.le_refl _
  refine List.Perm.eq_of_pairwise (le := fun a b => a ≤ b) (fun a b _ _ h1 h2 => by omega) (sort_rise zs) (hr.imp fun h => by omega) ((sort_perm zs).trans hp)
/-- What stands in memory while Reach works. -/
structure RpAt (w wr : World) (gi : Nat) (u : Value) (zs : List Int) (bs : List Bool) : Prop where
  inn : Arr 4 w wr gi (bC bs)
  lst : OwnI wr w.heap.size u zs
theorem RpAt.below {w wr w' : World} {gi : Nat} {u : Value} {zs : List Int} {bs : List Bool} (h : RpAt w wr gi u zs bs) (hb : Below wr.heap.size wr w') : RpAt w w' gi u zs bs := ⟨h.inn.below hb, trow_at h.lst fun b e => hb.block _ (World.ownsRow.lt h.lst b e).2⟩
theorem RpAt.mark {w wr : World} {gi : Nat} {u : Value} {zs : List Int} {bs : List Bool} (h : RpAt w wr gi u zs bs) (q : Nat) : RpAt w (wr.setCell ⟨gi, q, none⟩ (.bool true)) gi u zs (bs.set q true) := by
  refine ⟨?_, trow_at h.lst fun b e => ?_⟩
  · rw [← bC_set]; exact h.inn.set q _
  · obtain ⟨cs, hc, _⟩ := h.inn.ids
    exact set_other _ _ _ _ _ fun e2 => own_bk h.lst hc (by decide) (e2 ▸ e)
theorem RpAt.push {w wr w2 : World} {gi : Nat} {u u2 : Value} {zs : List Int} {bs : List Bool} (h : RpAt w wr gi u zs bs) {q : Int} {N : Nat} (hN : N = zs.length) (hown : w2.ownsRow w.heap.size 3 1 u2 (N + 1) (iC zs ++ [.int .i64 q])) (hk : Kept (fun b => u.ownBlock = some b) wr w2) : RpAt w w2 gi u2 (zs ++ [q]) bs := by
  obtain ⟨cs, hc, _⟩ := h.inn.ids
  refine ⟨h.inn.kept hk fun b e => ⟨(World.ownsRow.lt h.lst b e).1, fun e2 => own_bk h.lst hc (by decide) (e2 ▸ e)⟩, ?_⟩
  unfold OwnI
  rw [iC_snoc, List.length_append, ← hN]
  exact hown
set_option maxRecDepth 100000 in
set_option maxHeartbeats 8000000 in
theorem reach_any {B g bs bb cs cb n : Nat} {k s : Int} {es : List Sy.Ed} (w : World) (h : Gr w B g bs bb cs cb n k s es) : Calls Tryz.prog 27 #[.pointer (some ⟨g, 0, none⟩)] w fun r w' => ∃ u ms, r = .returned u ∧ OwnI w' w.heap.size u (Sy.marked ms) ∧ ms.length = n ∧ (∀ p : Nat, p < n → (ms[p]? = some true ↔ Sy.Rea es s p)) ∧ Below w.heap.size w w' := by
  obtain ⟨i0, hi0, hz0, hz1, hz2⟩ := info_parts Tryz.infoI4
  have hSt := states_any w h
  have hs := h.sizes
  have hrp := right_parts h.right
  have HG : Hid _ := And.intro h (And.intro hSt (And.intro hs hrp))
  have hn : n ≤ 1000 := hs.1
  obtain ⟨c0, _, c2, _, _, _⟩ := h.cells
  clear h hSt hs
  by_cases h0 : n = 0
  · have e0 : ((n : Int) == 0) = true := by simp [h0]
    have HZ : Hid _ := h0
    clear h0 hrp
    go_enter Tryz.func27, Tryz.ntmps27
    go_wp2_with (go_at_call 22; refine Calls.mono HG.out.2.1 ?_; rintro r w1 ⟨rfl, hw⟩; obtain rfl := hw.symm)
    go_ret
    exact ⟨_, [], rfl, World.ownsRow_nil _ _ _ _, by rw [HZ.out]; rfl, fun p hp => by have := HZ.out; omega, Below.refl _ _⟩
  · have e0 : ((n : Int) == 0) = false := by simp; omega
    obtain ⟨t, rfl⟩ : ∃ t : Nat, s = (t : Int) := ⟨s.toNat, by have := hrp.2.2.2.2.1 (by omega); omega⟩
    have htn : t < n := by have := hrp.2.2.2.2.1 (by omega); omega
    have hmk := makeB n (by omega) w
    obtain ⟨w1, hw1⟩ : ∃ w1, w1 = w.alloc (.cells (madeV (.bool false) n) 4) := ⟨_, rfl⟩
    have hA1 := arr_new 4 (.bool false) rfl n w
    rw [← hw1] at hmk hA1
    rw [bC_rep] at hA1
    have cg := hA1.cell (i := t) (x := .bool false) (bC_at (by rw [List.getElem?_replicate, if_pos htn]))
    have cf := hA1.free t
    have hG1 := HG.out.1.below hA1.bl
    obtain ⟨_, _, d2, _, _, _⟩ := hG1.cells
    have hgl := t_lt HG.out.1.box
    have hne : ¬ g = w.heap.size := by omega
    have p0 : (0 : Int) ≤ (t : Int) := by omega
    have p1 : (t : Int) < (n : Int) := by omega
    have hR0 : RpAt w ((w1.setCell ⟨w.heap.size, t, none⟩ (.bool true)).alloc (.cells #[.int .i64 t] 3)) w.heap.size (.slice (some ⟨w1.heap.size, 0, none⟩) 1 1) [(t : Int)] ((List.replicate n false).set t true) := by
      have h1 : RpAt w w1 w.heap.size (.slice none 0 0) [] (List.replicate n false) := ⟨hA1, World.ownsRow_nil _ _ _ _⟩
      have h3 := (h1.mark t).below (w' := (w1.setCell ⟨w.heap.size, t, none⟩ (.bool true)).alloc (.cells #[.int .i64 t] 3)) ((Below.refl _ _).alloc (Nat.le_refl _) _)
      have h4 := heap_alloc_new (w1.setCell ⟨w.heap.size, t, none⟩ (.bool true)) (.cells #[.int .i64 t] 3)
      have h5 : (w1.setCell ⟨w.heap.size, t, none⟩ (.bool true)).heap.size = w1.heap.size := by simp
      rw [h5] at h4
      exact ⟨h3.inn, rfl, .inr ⟨w1.heap.size, 1, #[.int .i64 t], rfl, hA1.bl.size, h4, Nat.le_refl _, by unfold maxLen; omega, rfl, rfl⟩⟩
    have HH : Hid _ := And.intro hR0 (And.intro (Sy.RInv.begin es (t : Int) n rfl htn) hw1)
    have hz1 : ¬ w.heap.size = w1.heap.size := by have := hA1.lt; omega
    clear hR0 hA1 hG1 hw1 hrp h0
    go_enter Tryz.func27, Tryz.ntmps27
    go_wp2_with (go_at_call 22; refine Calls.mono HG.out.2.1 ?_; rintro r w9 ⟨rfl, hw⟩; obtain rfl := hw.symm)
    go_loopg [4, 5] n (fun q u iv wr => ∃ (i : Nat) (zs : List Int) (ms : List Bool), q = n - i ∧ i ≤ zs.length ∧ iv = .int .i64 i ∧ RpAt w wr w.heap.size u zs ms ∧ Sy.RInv es t n zs ms i)
    case atStart => exact ⟨0, _, _, rfl, Nat.zero_le _, rfl, HH.out.1, HH.out.2.1⟩
    case round =>
      obtain ⟨i, zs, ms, rfl, hi, rfl, hC, hI⟩ := hrel
      obtain ⟨wq, rfl⟩ : ∃ wq, wq = wr := ⟨_, rfl⟩
      have hzn := hI.short
      obtain ⟨N, hN⟩ : ∃ N, N = zs.length := ⟨_, rfl⟩
      obtain ⟨au, cu, hu⟩ := row_shape hC.lst
      rw [← hN] at hu hi hzn
      obtain rfl := hu
      clear c0 c2 cg cf d2 hmk hz1
      by_cases hlt : i < N
      · obtain ⟨z, hz⟩ : ∃ z, zs[i]? = some z := ⟨zs[i]'(by omega), List.getElem?_eq_getElem _⟩
        obtain ⟨ga, rfl, cz⟩ := own_num hC.lst hz
        have hzr := hI.rng z (List.mem_of_getElem? hz)
        obtain ⟨p, rfl⟩ : ∃ p : Nat, z = (p : Int) := ⟨z.toNat, by omega⟩
        have hpn : p < n := by omega
        have hG := HG.out.1.below hC.inn.bl
        obtain ⟨_, _, _, ⟨c0, c1⟩, _, _⟩ := hG.cells
        have hR : ∀ W, Below wq.heap.size wq W → Calls Tryz.prog 45 #[.agg #[.slice (some ⟨bs, 0, none⟩) (Sy.nf es).length (Sy.nf es).length, .slice (some ⟨bb, 0, none⟩) (n + 1) (n + 1)], .int .i64 p] W fun r w' => ∃ v, r = .returned v ∧ (∀ W, Tb W B bs bb n (Sy.nf es) → BSteps.Has W v (Sy.rowOf n (Sy.nf es) p)) ∧ Below W.heap.size W w' := fun W hb => (hG.below hb).row p
        obtain ⟨L, hL⟩ : ∃ L, L = (Sy.nf es).length := ⟨_, rfl⟩
        have HR : Hid _ := And.intro hR hL
        rw [← hL] at HR c0
        have q0 : (0 : Int) ≤ (i : Int) := by omega
        have q1 : (i : Int) < (N : Int) := by omega
        have HI : Hid _ := And.intro hC (And.intro hI (And.intro hz hN))
        clear hC hI hz hN hzr hG hR hL
        go_upto_region 9 with fail
        go_region_held3 (fun w' => (w'.cell? ⟨g, 3, none⟩ = some (.slice (some ⟨bs, 0, none⟩) L L) ∧ w'.cell? ⟨g, 4, none⟩ = some (.slice (some ⟨bb, 0, none⟩) (n + 1) (n + 1)) ∧ w'.cell? ⟨ga, i, none⟩ = some (.int .i64 p) ∧ w'.cell? ⟨ga, i, none⟩ = some (.int .i64 p)) ∧ Hid (Below wq.heap.size wq w')) (first | exact rg_up4 hb3 (by assumption) | exact ⟨⟨c0, c1, cz, cz⟩, ((Below.refl _ _).drew : Below wq.heap.size wq wq.drew)⟩ | go_keep)
          ((first
            | (go_at_call 45; refine (HR.out.1 _ (rg_b (by assumption))).mono ?_; rintro r w3 ⟨v, rfl, hv, hb3⟩; obtain ⟨av, cv, rfl, hv0⟩ := hv w HG.out.1.out; clear hv0)
            | fail))
        have hbq : Below wq.heap.size wq w3 := rg_b (by assumption)
        clear hb3 c0 c1 cz
        rename_i hS3
        clear hS3
        rw [rowOf_in _ hpn]
        rw [rowOf_in _ hpn] at hv
        obtain ⟨M, hM⟩ : ∃ M, M = (Sy.steps (Sy.nf es) p).length := ⟨_, rfl⟩
        rw [← hM]
        rw [← hM] at hv
        have hMl : M ≤ 100000 := by have := Sy.steps_len (Sy.nf es) p; have := HG.out.2.2.1.2; omega
        have HV : Hid _ := And.intro hv (And.intro hbq hM)
        clear hv hbq hM
        go_wp2_with fail
        go_loopg [4, 43] M (fun q u kv wr => ∃ (k : Nat) (zs : List Int) (bs : List Bool), q = M - k ∧ k ≤ M ∧ kv = .int .i64 k ∧ RpAt w wr w.heap.size u zs bs ∧ Sy.RInv es t n zs bs i ∧ i < zs.length ∧ zs[i]? = some (p : Int) ∧ ∀ x ∈ (Sy.steps (Sy.nf es) p).take k, x.2 ∈ zs)
        case atStart => exact ⟨0, zs, ms, rfl, Nat.zero_le _, rfl, HI.out.1.below HV.out.2.1, HI.out.2.1, by have := HI.out.2.2.2; omega, HI.out.2.2.1, fun x hx => by simp at hx⟩
        case round =>
          obtain ⟨k2, ys, ds, rfl, hk, rfl, hC, hJ, hil, hyp, hall⟩ := hrel
          obtain ⟨wp, rfl⟩ : ∃ wp, wp = wr := ⟨_, rfl⟩
          obtain ⟨N2, hN2⟩ : ∃ N2, N2 = ys.length := ⟨_, rfl⟩
          have hyn := hJ.short
          obtain ⟨ay, cy, hv2⟩ := row_shape hC.lst
          rw [← hN2] at hv2 hil hyn
          obtain rfl := hv2
          by_cases hkm : k2 < M
          · obtain ⟨x, hx⟩ : ∃ x, (Sy.steps (Sy.nf es) p)[k2]? = some x := ⟨(Sy.steps (Sy.nf es) p)[k2]'(by have := HV.out.2.2; omega), List.getElem?_eq_getElem _⟩
            obtain ⟨a, rfl, d0, d1⟩ := step_at (HV.out.1 wp (HG.out.1.out.below hC.inn.bl)) hx
            have hxe : ((p : Int), x.1, x.2) ∈ es := (Sy.nf_mem es _).1 (Sy.steps_mem.1 (List.mem_of_getElem? hx))
            have hxr : 0 ≤ x.2 ∧ x.2 < (n : Int) := by have := HG.out.2.2.2.2.2.2.2.2 _ hxe; exact ⟨this.2.2.1, this.2.2.2.1⟩
            obtain ⟨q, hq⟩ : ∃ q : Nat, x.2 = (q : Int) := ⟨x.2.toNat, by omega⟩
            have hqn : q < n := by omega
            rw [hq] at d1
            obtain ⟨b, hb⟩ : ∃ b, ds[q]? = some b := ⟨ds[q]'(by rw [hJ.len]; exact hqn), List.getElem?_eq_getElem _⟩
            obtain ⟨x1, x2⟩ := x
            simp only at d0 hq hxe
            obtain ⟨wb, hwb⟩ : ∃ wb, wb = wp.alloc (.cells #[.int .i64 x1, .int .i64 q] 92) := ⟨_, rfl⟩
            have hbb : Below wp.heap.size wp wb := by rw [hwb]; exact (Below.refl _ _).alloc (Nat.le_refl _) _
            have hgb : wb.heap[wp.heap.size]? = some (.cells #[.int .i64 x1, .int .i64 q] 92 (0, 0)) := by rw [hwb]; exact heap_alloc_new wp _
            have hCb := hC.below hbb
            have f0 : wb.cell? ⟨wp.heap.size, 0, none⟩ = some (.int .i64 x1) := cell0_of hgb rfl
            have f1 : wb.cell? ⟨wp.heap.size, 1, none⟩ = some (.int .i64 q) := cell0_of hgb rfl
            have cbm := hCb.inn.cell (bC_at hb)
            have cff := hCb.inn.free q
            have k0 : (0 : Int) ≤ (k2 : Int) := by omega
            have k1 : (k2 : Int) < (M : Int) := by omega
            have k3 : (0 : Int) ≤ (q : Int) := by omega
            have k4 : (q : Int) < (n : Int) := by omega
            cases b with
            | true =>
              have HJ : Hid _ := And.intro hCb (And.intro hJ (And.intro hyp (And.intro hall (And.intro hx (And.intro hq (And.intro hb (And.intro hN2 hwb)))))))
              clear hC hCb hJ hyp hall hx hq hb hN2 hxe hxr hwb hbb hgb
              go_upto_region 12 with fail
              rw [← HJ.out.2.2.2.2.2.2.2.2]
              go_wp2_with fail
              go_roundg (M - (k2 + 1))
              case measure => omega
              case rel =>
                exact ⟨k2 + 1, ys, ds, rfl, by omega, by go_num, HJ.out.1, HJ.out.2.1, by have := HJ.out.2.2.2.2.2.2.2.1; omega, HJ.out.2.2.1, fun y hy => by
                  rw [take_succ_of HJ.out.2.2.2.2.1] at hy
                  rcases List.mem_append.1 hy with hy | hy
                  · exact HJ.out.2.2.2.1 y hy
                  · rw [List.mem_singleton.1 hy]; simp only; rw [HJ.out.2.2.2.2.2.1]; exact (HJ.out.2.1.iff q).1 HJ.out.2.2.2.2.2.2.1⟩
            | false =>
              have hlt9 := hC.inn.lt
              have hne9 : ¬ wp.heap.size = w.heap.size := by omega
              obtain ⟨wz, hwz⟩ : ∃ wz, wz = wb.setCell ⟨w.heap.size, q, none⟩ (.bool true) := ⟨_, rfl⟩
              have hCz : RpAt w wz w.heap.size (.slice ay N2 cy) ys (ds.set q true) := by rw [hwz]; exact hCb.mark q
              have dz : wz.cell? ⟨wp.heap.size, 1, none⟩ = some (.int .i64 q) := by rw [hwz]; exact (World.cell?_of_block (a := ⟨wp.heap.size, 1, none⟩) (set_other _ _ _ _ _ hne9)).trans f1
              have hOz : wz.ownsRow w.heap.size 3 1 (.slice ay N2 cy) N2 (iC ys) := by have h1 := hCz.lst; unfold OwnI at h1; rw [← hN2] at h1; exact h1
              have hle : w.heap.size ≤ (wz.alloc (.cells #[.int .i64 q] 3)).heap.size := by have := hCz.inn.bl.size; simp; omega
              have hml : N2 + 1 ≤ maxLen := by unfold maxLen; omega
              have hby : (N2 + 1) * 8 ≤ 140737488355328 := by omega
              have hpush := hJ.push hqn hb (by rw [← hq]; exact Sy.Rea.step _ hxe (hJ.rea _ (List.mem_of_getElem? hyp))) (by omega)
              have HZ : Hid _ := And.intro hCz (And.intro hOz (And.intro hwz hwb))
              have HJ : Hid _ := And.intro hpush (And.intro hyp (And.intro hall (And.intro hx (And.intro hq hN2))))
              clear hC hCb hJ hyp hall hx hq hb hN2 hxe hxr hCz hOz hwz hpush hwb hbb hgb
              go_upto_region 12 with fail
              rw [← HZ.out.2.2.2]
              go_upto_region 14 with fail
              rw [← HZ.out.2.2.1]
              go_wp2_with (at_builtin; refine wpList_append_own_at _ rfl _ _ 44 rfl w.heap.size 3 i0 (.int .i64 0) 1 8 Tryz.underlying44 hi0 hz0 hz1 hz2 rfl (by decide) (.slice ay N2 cy) N2 (iC ys) rfl (HZ.out.2.1.alloc _) ⟨wz.heap.size, 0, none⟩ 1 1 [.int .i64 q] rfl rfl (World.news_of_block (cs := #[.int .i64 q]) (t := 3) (fr := (0, 0)) (heap_alloc_new wz _)) (by simp [Value.oneCell']) hml hby hle ?_; intro v5 w5 hO5 hg5 hnil5 hat5; have H2 : Hid _ := And.intro hO5 hg5; clear hO5 hg5 hnil5 hat5)
              go_roundg (M - (k2 + 1))
              case measure => omega
              case rel =>
                have hlen := HJ.out.2.2.2.2.2
                refine ⟨k2 + 1, ys ++ [(q : Int)], ds.set q true, rfl, by omega, by go_num, HZ.out.1.push hlen H2.out.1 (grown_alloc H2.out.2), HJ.out.1, by rw [List.length_append]; omega, by rw [List.getElem?_append_left (by omega)]; exact HJ.out.2.1, fun y hy => ?_⟩
                rw [take_succ_of HJ.out.2.2.2.1] at hy
                rcases List.mem_append.1 hy with hy | hy
                · exact List.mem_append_left _ (HJ.out.2.2.1 y hy)
                · rw [List.mem_singleton.1 hy]; simp only; rw [HJ.out.2.2.2.2.1]; exact List.mem_append_right _ (List.mem_singleton.2 rfl)
          · obtain rfl : k2 = M := by omega
            have k1 : ¬ (k2 : Int) < (k2 : Int) := by omega
            have hI2 := hJ.next hyp fun e he h1 => by
              have h2 : (e.2.1, e.2.2) ∈ Sy.steps (Sy.nf es) p := Sy.steps_mem.2 ((Sy.nf_mem es _).2 (by rw [← h1]; exact he))
              exact hall _ (by rw [List.take_of_length_le (by have := HV.out.2.2; omega)]; exact h2)
            have HJ : Hid _ := And.intro hC (And.intro hI2 hN2)
            clear hC hJ hI2 hyp hall hN2
            go_wp2_with fail
            go_roundg (n - (i + 1))
            case measure => omega
            case rel => exact ⟨i + 1, ys, ds, rfl, by have := HJ.out.2.2; omega, by go_num, HJ.out.1, HJ.out.2.1⟩
      · obtain rfl : i = N := by omega
        have hlst := hC.lst
        obtain ⟨ga, rfl⟩ : ∃ ga, au = some ⟨ga, 0, none⟩ := by
          have h1 : 0 < zs.length := List.length_pos_of_mem hI.st
          obtain ⟨g9, c9, hf, _, _⟩ := World.ownsRow.form hlst (by omega)
          injection hf with e1
          exact ⟨g9, e1⟩
        rw [hN] at hlst
        have hSo := sortI_any wq w.heap.size ga cu zs hlst (by omega)
        rw [← hN] at hSo
        have HI : Hid _ := And.intro hC (And.intro hI (And.intro hN hSo))
        clear hC hI hN hSo hlst
        have q1 : ¬ (i : Int) < (i : Int) := by omega
        go_wp2_with fail
        refine Calls.mono HI.out.2.2.2 ?_
        rintro r w5 ⟨rfl, hO5, hg5⟩
        have H5 : Hid _ := And.intro hO5 hg5
        clear hO5 hg5
        go_wp2_with fail
        go_ret
        have hR5 := HI.out.2.1
        rw [HI.out.2.2.1] at hR5
        have hO := H5.out.1
        rw [Sy.sorted_marked hR5] at hO
        refine ⟨_, ms, rfl, hO, hR5.len, fun p hp => hR5.all p, ?_⟩
        exact HI.out.1.inn.bl.grown H5.out.2 HI.out.1.inn.bl.size fun b e => by
          have h1 := (World.ownsRow.lt HI.out.1.lst b (by rw [← e]; rfl)).1
          exact h1
end Go.Proofs.YtgnfommndoodmaaGreatDoor
/- Contract of the law's alive: a first call whose answer the document fixes. -/
namespace Go.Proofs.YtgnfommndoodmaaGreatDoor
open Go.RowKit Go.Maps
attribute [local go_sem ↓] Go.wp_at_zero Go.wp_at_succ
def esA : List Sy.Ed := [(0, 1, 1), (1, 0, 0), (2, 1, 0)]
theorem esA_right : Sy.right ((3 : Nat) : Int) 2 0 esA = true := by decide
theorem esA_out : (Sy.rowOf 3 (Sy.nf esA) 0).length = 1 := by decide
theorem esA_in : (Sy.rowOf 3 (Sy.nf ((Sy.nf esA).map Sy.turn)) 0).length = 2 := by decide
theorem esA_deg : Sy.degTo (Sy.nf esA) 3 = 1 := by decide
theorem esA_rea {p : Int} (h : Sy.Rea esA 0 p) : p = 0 ∨ p = 1 := by
  induction h with
  | start => exact .inl rfl
  | step e he _ ih =>
    simp only [esA, List.mem_cons, List.not_mem_nil, or_false] at he
    rcases he with rfl | rfl | rfl
    · exact .inr rfl
    · exact .inl rfl
    · exact .inl rfl
theorem esA_marks {ms : List Bool} (hl : ms.length = 3) (h : ∀ p : Nat, p < 3 → (ms[p]? = some true ↔ Sy.Rea esA 0 p)) : (Sy.marked ms).length = 2 := by
  match ms, hl with
  | [a, b, c], _ =>
    have ha : a = true := by have := (h 0 (by omega)).2 .start; simpa using this
    have hb : b = true := by have := (h 1 (by omega)).2 (.step (0, 1, 1) (by simp [esA]) .start); simpa using this
    have hc : c = false := by
      cases c with
      | false => rfl
      | true =>
        rcases esA_rea ((h 2 (by omega)).1 rfl) with e | e <;> omega
    subst ha hb hc
    decide
theorem esA_has (w : World) : BEdges.Has (w.alloc (.cells #[.int .i64 0, .int .i64 1, .int .i64 1, .int .i64 1, .int .i64 0, .int .i64 0, .int .i64 2, .int .i64 1, .int .i64 0] 38)) (.slice (some ⟨w.heap.size, 0, none⟩) 3 3) esA := by
  refine ⟨some ⟨w.heap.size, 0, none⟩, 3, rfl, fun j u hj => ⟨_, rfl, ?_⟩⟩
  rw [addz]
  refine cell0_of (heap_alloc_new w _) ?_
  rw [← Array.getElem?_toList]
  exact hj
set_option maxRecDepth 100000 in
set_option maxHeartbeats 4000000 in
theorem pAlive (a : Addr) (w : World) (h : Sent w 10 a) : PAlive w := fun W hb => by
  have hA := h.below hb
  clear h hb
  obtain ⟨w1, hw1⟩ : ∃ w1, w1 = W.alloc (.cells #[.int .i64 0, .int .i64 1, .int .i64 1, .int .i64 1, .int .i64 0, .int .i64 0, .int .i64 2, .int .i64 1, .int .i64 0] 38) := ⟨_, rfl⟩
  have hb1 : Below W.heap.size W w1 := by rw [hw1]; exact (Below.refl _ _).alloc (Nat.le_refl _) _
  have hv := esA_has W
  rw [← hw1] at hv
  have hN := new_ok sort12 ((3 : Nat) : Int) 2 0 (.slice (some ⟨W.heap.size, 0, none⟩) 3 3) esA a w1 (hA.below hb1) hv (by decide) (by decide) esA_right
  unfold sysV at hN
  have HN : Hid _ := And.intro hN (And.intro hb1 hw1)
  clear hN hb1 hw1 hv hA
  go_enter Tryz.func5, Tryz.ntmps5
  go_wp2_with fail
  rw [← HN.out.2.2]
  refine Calls.mono HN.out.1 ?_
  rintro r w2 ⟨g, bs, bb, cs, cb, m, hm, rfl, hG, hb2⟩
  obtain rfl : m = 3 := by omega
  have hbw := HN.out.2.1.trans (hb2.mono HN.out.2.1.size)
  have H2 : Hid _ := And.intro hG hbw
  clear hG hb2 hm hbw HN
  go_wp2_with fail
  refine Calls.mono (out_any 0 _ H2.out.1) ?_
  rintro r w3 ⟨u3, rfl, hO3, hb3⟩
  obtain ⟨a3, c3, rfl⟩ := row_shape hO3
  rw [esA_out]
  have hG3 := H2.out.1.below hb3
  have H3 : Hid _ := And.intro hG3 (H2.out.2.trans (hb3.mono H2.out.2.size))
  clear hG3 hb3 hO3 H2
  go_wp2_with fail
  refine Calls.mono (in_any 0 _ H3.out.1) ?_
  rintro r w4 ⟨u4, rfl, hO4, hb4⟩
  obtain ⟨a4, c4, rfl⟩ := row_shape hO4
  rw [esA_in]
  have hG4 := H3.out.1.below hb4
  have H4 : Hid _ := And.intro hG4 (H3.out.2.trans (hb4.mono H3.out.2.size))
  clear hG4 hb4 hO4 H3
  go_wp2_with fail
  refine Calls.mono (reach_any _ H4.out.1) ?_
  rintro r w5 ⟨u5, ms, rfl, hO5, hl5, hm5, hb5⟩
  obtain ⟨a5, c5, rfl⟩ := row_shape hO5
  rw [esA_marks hl5 hm5]
  have hG5 := H4.out.1.below hb5
  have H5 : Hid _ := And.intro hG5 (H4.out.2.trans (hb5.mono H4.out.2.size))
  clear hG5 hb5 hO5 H4 hl5 hm5
  go_wp2_with fail
  refine Calls.mono (degree_any _ H5.out.1) ?_
  rintro r w6 ⟨rfl, hb6⟩
  rw [esA_deg]
  have H6 : Hid _ := H5.out.2.trans (hb6.mono H5.out.2.size)
  clear hb6 H5
  go_wp2_with fail
  go_ret
  exact ⟨rfl, H6.out⟩
end Go.Proofs.YtgnfommndoodmaaGreatDoor
/- Contracts of the book's SameSystem, Lent and Stays. -/
namespace Go.Proofs.YtgnfommndoodmaaGreatDoor
open Go.RowKit Go.Maps
attribute [local go_sem ↓] Go.wp_at_zero Go.wp_at_succ
/-- The marks behind what is lent. -/
def mk3 : List Sy.Ed := [(-7, 0, 0), (-7, 1, 0), (-7, 2, 0)]
/-- A list with room behind it, in which the marks stand. -/
def LentE (w : World) (B : Nat) (u : Value) (es : List Sy.Ed) : Prop := ∃ g cap, u = .slice (some ⟨g, 0, none⟩) es.length cap ∧ es.length + 3 ≤ cap ∧ BEdges.Own w B (.slice (some ⟨g, 0, none⟩) (es.length + 3) cap) (es ++ mk3)
theorem LentE.below {w w' : World} {B : Nat} {u : Value} {es : List Sy.Ed} (h : LentE w B u es) (hb : Below w.heap.size w w') : LentE w' B u es := by
  obtain ⟨g, cap, h1, h2, h3⟩ := h
  exact ⟨g, cap, h1, h2, trow_at h3 fun b hb' => hb.block b (h3.lt b hb').2⟩
theorem LentE.hasE {w : World} {B : Nat} {u : Value} {es : List Sy.Ed} (h : LentE w B u es) : HasE w u es := by
  obtain ⟨g, cap, rfl, h2, h3⟩ := h
  have h4 := HasE.of_own h3
  have h5 := hasE_take h4 es.length (by rw [List.length_append]; omega)
  rw [List.take_left' rfl] at h5
  exact h5
set_option maxRecDepth 100000 in
set_option maxHeartbeats 4000000 in
theorem lentS_any (n k s : Int) (v : Value) (es : List Sy.Ed) (w : World) (hn : es.length ≤ 1000000) (hv : BEdges.Has w v es) :
    Calls Tryz.prog 6 #[sysV n k s v] w fun e w' => ∃ u, e = .returned (sysV n k s u) ∧ LentE w' w.heap.size u es ∧ Below w.heap.size w w' := by
  obtain ⟨i0, hi0, hz0, hz1, hz2⟩ := info_parts BEdges.Tryz.infoE
  obtain ⟨w1, hw1⟩ : ∃ w1, w1 = (w.alloc (.cells #[.int .i64 n, .int .i64 k, .int .i64 s, v] 24)).alloc (.cells #[.int .i64 0, .int .i64 0, .int .i64 0, .slice none 0 0] 24) := ⟨_, rfl⟩
  have hb1 : Below w.heap.size w w1 := by rw [hw1]; exact ((Below.refl _ _).alloc (Nat.le_refl _) _).alloc (by simp) _
  have hg : w1.heap[w.heap.size + 1]? = some (.cells #[.int .i64 0, .int .i64 0, .int .i64 0, .slice none 0 0] 24 (0, 0)) := by rw [hw1]; exact two_alloc w _ _
  have hg0 : w1.heap[w.heap.size]? = some (.cells #[.int .i64 n, .int .i64 k, .int .i64 s, v] 24 (0, 0)) := by rw [hw1, Below.heap_alloc _ _ _ (by simp)]; exact heap_alloc_new w _
  obtain ⟨ao, cap, rfl, _⟩ := _root_.id hv
  have hC := BEdges.copy_of (hv.below hb1)
  obtain ⟨m, hm⟩ : ∃ m, m = es.length := ⟨_, rfl⟩
  rw [← hm] at hC hn hg0 hw1 ⊢
  have hcl : (BEdges.C es).length = m * 3 := by rw [BEdges.C_len, hm]
  have HC : Hid _ := And.intro hC (And.intro hb1 (And.intro hg (And.intro hg0 (And.intro hw1 hm))))
  have hL1 : m ≤ maxLen := by unfold maxLen; omega
  have hL8 : m * 24 ≤ 140737488355328 := by omega
  have hle1 : w.heap.size ≤ w1.heap.size := hb1.size
  unfold sysV
  clear hv hC hb1 hg hg0 hw1 hm
  go_enter Tryz.func6, Tryz.ntmps6
  go_upto_region 1 with fail
  rw [← HC.out.2.2.2.2.1]
  obtain ⟨x0, x1, x2, x3⟩ := four_cells HC.out.2.2.2.1
  go_wp2_with (at_builtin; refine wpList_copy_at _ rfl _ _ 22 rfl w.heap.size 38 i0 (.agg #[.int .i64 0, .int .i64 0, .int .i64 0]) 3 24 Tryz.underlying22 hi0 hz0 hz1 hz2 rfl (by decide) rfl ao m cap (BEdges.C es) rfl HC.out.1.1 hcl HC.out.1.2 (BEdges.C_one _) hL1 hL8 hle1 ?_; intro v2 w2 hown2 hgrow2 hat2; have H2 : Hid _ := And.intro hown2 (tgrown0 hgrow2); clear hown2 hgrow2 hat2)
  clear x0 x1 x2 x3
  go_loopg [3, 4] 3 (fun q lv iv wr => ∃ (i : Nat), q = 3 - i ∧ i ≤ 3 ∧ iv = .int .i64 i ∧ BEdges.Own wr w.heap.size lv (es ++ mk3.take i) ∧ Below w.heap.size w wr ∧ wr.heap[w.heap.size + 1]? = some (.cells #[.int .i64 0, .int .i64 0, .int .i64 0, .slice none 0 0] 24 (0, 0)) ∧ wr.heap[w.heap.size]? = some (.cells #[.int .i64 n, .int .i64 k, .int .i64 s, .slice ao m cap] 24 (0, 0)))
  case atStart => exact ⟨0, rfl, by omega, rfl, by rw [List.take_zero, List.append_nil]; unfold BEdges.Own; rw [← HC.out.2.2.2.2.2]; exact H2.out.1, HC.out.2.1.trans (H2.out.2.mono hle1), (H2.out.2.block _ (t_lt HC.out.2.2.1)).trans HC.out.2.2.1, (H2.out.2.block _ (t_lt HC.out.2.2.2.1)).trans HC.out.2.2.2.1⟩
  case round =>
    obtain ⟨i, rfl, hi, rfl, hO, hb, hg, hg0⟩ := hrel
    clear H2
    have hlen : (es ++ mk3.take i).length = m + i := by rw [List.length_append, List.length_take, ← HC.out.2.2.2.2.2]; show m + min i 3 = _; omega
    obtain ⟨al, cl, rfl⟩ := row_shape hO
    rw [hlen]
    obtain ⟨N, hN⟩ : ∃ N, N = m + i := ⟨_, rfl⟩
    have hO' : wr.ownsRow w.heap.size 38 3 (.slice al N cl) N (BEdges.C (es ++ mk3.take i)) := by have h1 := hO; unfold BEdges.Own at h1; rw [hlen, ← hN] at h1; exact h1
    rw [← hN]
    have HR : Hid _ := And.intro hO' (And.intro hb (And.intro hg (And.intro hg0 hN)))
    have hNl : N ≤ 1000003 := by omega
    clear hO hO' hb hg hg0 hlen hN
    by_cases hlt : i < 3
    · have q1 : (i : Int) < 3 := by omega
      have hml : N + 1 ≤ maxLen := by unfold maxLen; omega
      have hby : (N + 1) * 24 ≤ 140737488355328 := by omega
      have hle : w.heap.size ≤ (wr.alloc (.cells #[.int .i64 (-7), .int .i64 i, .int .i64 0] 38)).heap.size := by have := HR.out.2.1.size; simp; omega
      go_wp2_with (at_builtin; refine wpList_append_own_at _ rfl _ _ 22 rfl w.heap.size 38 i0 (.agg #[.int .i64 0, .int .i64 0, .int .i64 0]) 3 24 Tryz.underlying22 hi0 hz0 hz1 hz2 rfl (by decide) (.slice al N cl) N (BEdges.C (es ++ mk3.take i)) rfl (HR.out.1.alloc _) ⟨wr.heap.size, 0, none⟩ 1 1 [.int .i64 (-7), .int .i64 i, .int .i64 0] rfl rfl (World.news_of_block (cs := #[.int .i64 (-7), .int .i64 i, .int .i64 0]) (t := 38) (fr := (0, 0)) (heap_alloc_new wr _)) (by simp [Value.oneCell']) hml hby hle ?_; intro v3 w3 hown3 hgrow3 hnil3 hat3; have H3 : Hid _ := And.intro hown3 hgrow3; clear hown3 hgrow3 hnil3 hat3)
      have hk3 := grown_alloc H3.out.2
      have hn1 := own_bk HR.out.1 HR.out.2.2.1 (by decide)
      have hn2 := own_bk HR.out.1 HR.out.2.2.2.1 (by decide)
      have HK : Hid _ := And.intro hk3 (And.intro hn1 hn2)
      clear hk3 hn1 hn2
      go_roundg (3 - (i + 1))
      case measure => omega
      case rel =>
        have hz : mk3[i]? = some (-7, (i : Int), 0) := by
          have h9 : i = 0 ∨ i = 1 ∨ i = 2 := by omega
          rcases h9 with rfl | rfl | rfl <;> rfl
        exact ⟨i + 1, rfl, by omega, by go_num, by
          rw [take_succ_of hz, ← List.append_assoc]
          unfold BEdges.Own
          rw [BEdges.C_snoc, List.length_append]
          have h1 : (es ++ mk3.take i).length = N := by rw [List.length_append, List.length_take, ← HC.out.2.2.2.2.2, HR.out.2.2.2.2]; show m + min i 3 = _; omega
          rw [h1]
          exact H3.out.1, HR.out.2.1.trans (HK.out.1.below HR.out.2.1.size fun b hb => (HR.out.1.lt b hb).1), (HK.out.1.block _ (t_lt HR.out.2.2.1) fun e => HK.out.2.1 e).trans HR.out.2.2.1, (HK.out.1.block _ (t_lt HR.out.2.2.2.1) fun e => HK.out.2.2 e).trans HR.out.2.2.2.1⟩
    · obtain rfl : i = 3 := by omega
      have q1 : ¬ ((3 : Nat) : Int) < 3 := by omega
      obtain ⟨g, c, hf, hgl, _⟩ := World.ownsRow.form HR.out.1 (by have := HR.out.2.2.2.2; omega)
      injection hf with e1 e2 e3
      subst e1; subst e3
      obtain ⟨_, _, hcap⟩ : N ≤ cl ∧ True ∧ N ≤ cl := by
        rcases HR.out.1.2 with ⟨h9, _⟩ | ⟨g2, c2, cur, h9, _, _, hc2, _⟩
        · cases h9
        · injection h9 with f1 f2 f3; subst f3; exact ⟨hc2, trivial, hc2⟩
      have p0 : (0 : Int) ≤ (m : Int) := by omega
      have p1 : (m : Int) ≤ (cl : Int) := by have := HR.out.2.2.2.2; omega
      obtain ⟨y0, y1, y2, y3⟩ := four_cells HR.out.2.2.1
      obtain ⟨x0, x1, x2, x3⟩ := four_cells HR.out.2.2.2.1
      have z0 := blk_free HR.out.2.2.1 0
      have z1 := blk_free HR.out.2.2.1 1
      have z2 := blk_free HR.out.2.2.1 2
      have z3 := blk_free HR.out.2.2.1 3
      have z4 := blk_free HR.out.2.2.2.1 3
      have nn : ¬ w.heap.size + 1 = w.heap.size := by omega
      have nn2 : ¬ w.heap.size = w.heap.size + 1 := by omega
      have HE : Hid _ := hcap
      clear e2 hcap
      go_wp2_with fail
      have hgm : (wr.setCell ⟨w.heap.size, 3, none⟩ (.slice (some ⟨g, 0, none⟩) m cl)).heap[w.heap.size + 1]? = some (.cells #[.int .i64 0, .int .i64 0, .int .i64 0, .slice none 0 0] 24 (0, 0)) := (set_other _ _ _ _ _ nn).trans HR.out.2.2.1
      have hbm : Below w.heap.size w (wr.setCell ⟨w.heap.size, 3, none⟩ (.slice (some ⟨g, 0, none⟩) m cl)) := HR.out.2.1.setCell (Nat.le_refl _) _
      have hgf := four_set (a0 := .int .i64 n) (a1 := .int .i64 k) (a2 := .int .i64 s) (a3 := .slice (some ⟨g, 0, none⟩) m cl) hgm
      have hbf := four_below hbm (b := w.heap.size + 1) (by omega) (.int .i64 n) (.int .i64 k) (.int .i64 s) (.slice (some ⟨g, 0, none⟩) m cl)
      have hOf : (((((wr.setCell ⟨w.heap.size, 3, none⟩ (.slice (some ⟨g, 0, none⟩) m cl)).setCell ⟨w.heap.size + 1, 0, none⟩ (.int .i64 n)).setCell ⟨w.heap.size + 1, 1, none⟩ (.int .i64 k)).setCell ⟨w.heap.size + 1, 2, none⟩ (.int .i64 s)).setCell ⟨w.heap.size + 1, 3, none⟩ (.slice (some ⟨g, 0, none⟩) m cl)).ownsRow w.heap.size 38 3 (.slice (some ⟨g, 0, none⟩) N cl) N (BEdges.C (es ++ mk3.take 3)) := trow_at HR.out.1 fun b hb => by
        have h1 := own_bk HR.out.1 HR.out.2.2.1 (by decide)
        have h2 := own_bk HR.out.1 HR.out.2.2.2.1 (by decide)
        have e1 : b ≠ w.heap.size + 1 := fun e => h1 (by rw [← e]; exact hb)
        have e2 : b ≠ w.heap.size := fun e => h2 (by rw [← e]; exact hb)
        rw [set_other _ _ _ _ _ e1, set_other _ _ _ _ _ e1, set_other _ _ _ _ _ e1, set_other _ _ _ _ _ e1, set_other _ _ _ _ _ e2]
      generalize (((((wr.setCell ⟨w.heap.size, 3, none⟩ (.slice (some ⟨g, 0, none⟩) m cl)).setCell ⟨w.heap.size + 1, 0, none⟩ (.int .i64 n)).setCell ⟨w.heap.size + 1, 1, none⟩ (.int .i64 k)).setCell ⟨w.heap.size + 1, 2, none⟩ (.int .i64 s)).setCell ⟨w.heap.size + 1, 3, none⟩ (.slice (some ⟨g, 0, none⟩) m cl)) = wf at hgf hbf hOf ⊢
      clear y0 y1 y2 y3 z0 z1 z2 z3 z4 x0 x1 x2 x3
      obtain ⟨c0, c1, c2, c3⟩ := four_cells hgf
      refine bodyPost_ret (v := .agg #[.int .i64 n, .int .i64 k, .int .i64 s, .slice (some ⟨g, 0, none⟩) m cl]) (by simp [results, Tryz.results6, go_sem, c0, c1, c2, c3]) rfl ⟨_, rfl, ⟨g, cl, by rw [HC.out.2.2.2.2.2], by have := HE.out; have := HR.out.2.2.2.2; have := HC.out.2.2.2.2.2; omega, ?_⟩, hbf⟩
      have h1 : N = es.length + 3 := by rw [HR.out.2.2.2.2, HC.out.2.2.2.2.2]
      unfold BEdges.Own
      rw [List.length_append]
      show wf.ownsRow w.heap.size 38 3 (.slice (some ⟨g, 0, none⟩) (es.length + 3) cl) (es.length + 3) (BEdges.C (es ++ mk3))
      rw [← h1]
      exact hOf
set_option maxRecDepth 100000 in
set_option maxHeartbeats 4000000 in
theorem staysS_any (n k s n' k' s' : Int) (B : Nat) (va vb : Value) (es : List Sy.Ed) (w : World) (hn : es.length ≤ 1000000) (hA : LentE w B va es) (hB : BEdges.Has w vb es) :
    Calls Tryz.prog 10 #[sysV n k s va, sysV n' k' s' vb] w fun e w' => e = .returned (.bool true) ∧ Below w.heap.size w w' := by
  obtain ⟨w1, hw1⟩ : ∃ w1, w1 = (w.alloc (.cells #[.int .i64 n, .int .i64 k, .int .i64 s, va] 24)).alloc (.cells #[.int .i64 n', .int .i64 k', .int .i64 s', vb] 24) := ⟨_, rfl⟩
  have hb1 : Below w.heap.size w w1 := by rw [hw1]; exact ((Below.refl _ _).alloc (Nat.le_refl _) _).alloc (by simp) _
  have hg0 : w1.heap[w.heap.size]? = some (.cells #[.int .i64 n, .int .i64 k, .int .i64 s, va] 24 (0, 0)) := by rw [hw1, Below.heap_alloc _ _ _ (by simp)]; exact heap_alloc_new w _
  have hS := BEdges.same_b va vb es w1 (by omega) (hA.hasE.below hb1 |> fun ⟨_, _, _, _, h⟩ => h) (hB.below hb1)
  obtain ⟨bo, cbp, rfl, _⟩ := hB
  have hA1 := hA.below hb1
  obtain ⟨g, cap, rfl, hcap, _⟩ := hA
  obtain ⟨m, hm⟩ : ∃ m, m = es.length := ⟨_, rfl⟩
  rw [← hm] at hS hcap hg0 hw1 hn ⊢
  have H1 : Hid _ := And.intro hS (And.intro hb1 (And.intro hg0 (And.intro hw1 (And.intro hm hA1))))
  unfold sysV
  have nn : ¬ w.heap.size + 1 = w.heap.size := by omega
  have e3 : IntKind.i64.wrap ((m : Int) + 3) = (m : Int) + 3 := by rw [IntKind.wrap_i64]; omega
  have p0 : (0 : Int) ≤ (m : Int) + 3 := by omega
  have p1 : (m : Int) + 3 ≤ (cap : Int) := by omega
  clear hS hb1 hg0 hw1 hm hA1
  go_enter Tryz.func10, Tryz.ntmps10
  go_wp2_with fail
  rw [← H1.out.2.2.2.1]
  refine Calls.mono H1.out.1 ?_
  rintro e w2 ⟨rfl, hb2⟩
  have hg2 := (hb2.block _ (t_lt H1.out.2.2.1)).trans H1.out.2.2.1
  obtain ⟨x0, x1, x2, x3⟩ := four_cells hg2
  have hA2 := H1.out.2.2.2.2.2.below hb2
  obtain ⟨g', cap', hu, _, hO⟩ := hA2
  injection hu with f1 f2 f3
  injection f1 with f1
  injection f1 with f1
  subst f1; subst f3
  have H2 : Hid _ := And.intro (H1.out.2.1.trans (hb2.mono H1.out.2.1.size)) (And.intro hO hg2)
  clear hb2 hg2 hO f2
  go_wp2_with fail
  go_loopg [6] 3 (fun q iv wr => ∃ i : Nat, q = 3 - i ∧ i ≤ 3 ∧ iv = .int .i64 i ∧ Below w2.heap.size w2 wr)
  case atStart => exact ⟨0, rfl, by omega, rfl, Below.refl _ _⟩
  case round =>
    obtain ⟨i, rfl, hi, rfl, hb⟩ := hrel
    by_cases hlt : i < 3
    · have q1 : (i : Int) < 3 := by omega
      have hz : (es ++ mk3)[m + i]? = some (-7, (i : Int), 0) := by
        rw [H1.out.2.2.2.2.1, List.getElem?_append_right (by omega), Nat.add_sub_cancel_left]
        have h9 : i = 0 ∨ i = 1 ∨ i = 2 := by omega
        rcases h9 with rfl | rfl | rfl <;> rfl
      obtain ⟨g2, hg3, c0, c1, c2⟩ := own_edge (trow_at (w' := wr) H2.out.2.1 fun b hb' => hb.block b (H2.out.2.1.lt b hb').2) hz
      cases hg3
      have y3 := cell_up x3 hb
      obtain ⟨M, hM⟩ : ∃ M, M = m + i := ⟨_, rfl⟩
      have e4 : IntKind.i64.wrap ((m : Int) + (i : Int)) = (M : Int) := by rw [IntKind.wrap_i64]; omega
      have r0 : (0 : Int) ≤ (M : Int) := by omega
      have r1 : (M : Int) < (m : Int) + 3 := by omega
      rw [← hM] at c0 c1 c2
      have HB : Hid _ := hb
      clear hb hz hM
      go_wp2_with fail
      go_roundg (3 - (i + 1))
      case measure => omega
      case rel => exact ⟨i + 1, rfl, by omega, by go_num, by first | exact HB.out | exact HB.out.alloc HB.out.size _⟩
    · obtain rfl : i = 3 := by omega
      have q1 : ¬ ((3 : Nat) : Int) < 3 := by omega
      have HB : Hid _ := hb
      clear hb
      go_wp2_with fail
      go_ret
      exact ⟨rfl, H2.out.1.trans (HB.out.mono H2.out.1.size)⟩
end Go.Proofs.YtgnfommndoodmaaGreatDoor
/- GraphPlays as a call: of great systems, and of systems that are none. -/
namespace Go.Proofs.YtgnfommndoodmaaGreatDoor
open Go.RowKit Go.Maps
attribute [local go_sem ↓] Go.wp_at_zero Go.wp_at_succ
theorem bel5 {w W w8 : World} (hb : Below W.heap.size W w8) (h : Below w.heap.size w W) : Below w.heap.size w w8 := h.trans (hb.mono h.size)
theorem res_up5 {W w8 : World} {b : Nat} {o : Obj} (hb : Below W.heap.size W w8) (h : W.heap[b]? = some o) : w8.heap[b]? = some o := (hb.block b (t_lt h)).trans h
theorem Tryz.eqNo (w : World) : (binOp BinOp.eql 27 (.pointer none) (.pointer none)).run Tryz.prog w = .ok (.bool true) w := by kernel_rfl
theorem told_bad5 (e : Nat → Addr) (w : World) (x : Value) (hE : Er 19 w e) (hx : Chain w 0 0 (e 14) [sysB] x) : Calls Tryz.prog 9 #[x, .agg #[.int .i64 14, .int .i64 0, .int .i64 0, .string sysB1]] w fun r w' => r = .returned (.bool true) ∧ Below w.heap.size w w' := by
  have h2 := told_chain 14 (by decide) (by decide) (by decide) x [sysB] 0 0 e w hE hx (by decide) (by decide)
  rw [show joinS ⟨#[]⟩ [sysB] = sysB1 from by decide] at h2
  exact h2
set_option maxRecDepth 100000 in
set_option maxHeartbeats 4000000 in
theorem lawPlays_out (n k s i b : Int) (v : Value) (es : List Sy.Ed) (w : World) (hA : PAlive w) (hv : HasE w v es) (hlen : 2000 < es.length) :
    Calls Tryz.prog 3 #[sysV n k s v, .int .i64 i, .int .i64 b] w fun r w' => r = .returned (.bool true) ∧ Below w.heap.size w w' := by
  obtain ⟨ao, cap, rfl, hcap, hH⟩ := hv
  obtain ⟨L, hL⟩ : ∃ L, L = es.length := ⟨_, rfl⟩
  rw [← hL] at hcap hlen ⊢
  have HA : Hid (PAlive w) := hA
  have hb0 : ∀ o, Below w.heap.size w (w.alloc o) := fun o => (Below.refl _ _).alloc (Nat.le_refl _) _
  have HB : Hid (∀ o, Below w.heap.size w (w.alloc o)) := hb0
  unfold sysV
  have q1 : (2000 : Int) < (L : Int) := by omega
  clear hA hH hcap hb0 hL hlen
  go_enter Tryz.func3, Tryz.ntmps3
  go_wp2_with (go_at_call 5; refine Calls.mono (HA.out _ (HB.out _)) ?_; rintro r w1 ⟨rfl, hb1⟩; have hb2 := bel5 hb1 (HB.out _))
  go_ret
  exact ⟨rfl, hb2⟩
set_option maxRecDepth 100000 in
set_option maxHeartbeats 8000000 in
theorem lawPlays_bad (hS : SortOk 1000000) (n k s i b : Int) (v : Value) (es : List Sy.Ed) (e : Nat → Addr) (w : World) (hA : PAlive w) (hE : Er 19 w e) (hv : HasE w v es) (hlen : es.length ≤ 2000) (hq : Sy.right n k s es = false) :
    Calls Tryz.prog 3 #[sysV n k s v, .int .i64 i, .int .i64 b] w fun r w' => r = .returned (.bool true) ∧ Below w.heap.size w w' := by
  have hvs := hv
  obtain ⟨ao, cap, rfl, hcap, hH⟩ := hvs
  obtain ⟨L, hL⟩ : ∃ L, L = es.length := ⟨_, rfl⟩
  rw [← hL] at hcap hlen hv hH ⊢
  obtain ⟨w1, hw1⟩ : ∃ w1, w1 = w.alloc (.cells #[.int .i64 n, .int .i64 k, .int .i64 s, .slice ao L cap] 24) := ⟨_, rfl⟩
  have hb1 : Below w.heap.size w w1 := by rw [hw1]; exact (Below.refl _ _).alloc (Nat.le_refl _) _
  have hg1 : w1.heap[w.heap.size]? = some (.cells #[.int .i64 n, .int .i64 k, .int .i64 s, .slice ao L cap] 24 (0, 0)) := by rw [hw1]; exact heap_alloc_new w _
  have hH0 : BEdges.Has w (.slice ao L cap) es := by obtain ⟨_, _, _, _, h⟩ := hv; exact h
  have hLe := lentS_any n k s (.slice ao L cap) es w1 (by omega) (hH0.below hb1)
  have HV : Hid (BEdges.Has w (.slice ao L cap) es ∧ L = es.length ∧ PAlive w ∧ Er 19 w e ∧ Sy.right n k s es = false) := ⟨hH0, hL, hA, hE, hq⟩
  unfold sysV at hLe ⊢
  have H1 : Hid _ := And.intro hw1 (And.intro hb1 (And.intro hg1 hLe))
  obtain ⟨x0, x1, x2, x3⟩ := four_cells hg1
  have q1 : ¬ (2000 : Int) < (L : Int) := by omega
  clear hA hE hv hH hcap hL hw1 hb1 hg1 hq hLe hH0
  go_enter Tryz.func3, Tryz.ntmps3
  go_upto_region 1 with fail
  rw [← H1.out.1]
  go_wp2_with fail
  refine Calls.mono H1.out.2.2.2 ?_
  rintro r w2 ⟨u, rfl, hLn, hb2⟩
  have hLn0 := hLn
  obtain ⟨gl, cl, hu, _, _⟩ := hLn0
  rw [← HV.out.2.1] at hu
  subst hu
  obtain ⟨w3, hw3⟩ : ∃ w3, w3 = w2.alloc (.cells #[.int .i64 n, .int .i64 k, .int .i64 s, .slice (some ⟨gl, 0, none⟩) L cl] 24) := ⟨_, rfl⟩
  have hb3 : Below w2.heap.size w2 w3 := by rw [hw3]; exact (Below.refl _ _).alloc (Nat.le_refl _) _
  have hg3 : w3.heap[w2.heap.size]? = some (.cells #[.int .i64 n, .int .i64 k, .int .i64 s, .slice (some ⟨gl, 0, none⟩) L cl] 24 (0, 0)) := by rw [hw3]; exact heap_alloc_new w2 _
  have hb03 := bel5 hb3 (bel5 hb2 H1.out.2.1)
  have hL3 := hLn.below hb3
  have hN := new_bad hS n k s (.slice (some ⟨gl, 0, none⟩) L cl) es (e 14) w3 ((HV.out.2.2.2.1.below hb03).s14 (by decide)) (by obtain ⟨_, _, _, _, h⟩ := hL3.hasE; exact h) (by have := HV.out.2.1; omega) (by have := HV.out.2.1; omega) HV.out.2.2.2.2
  unfold sysV at hN
  have H3 : Hid _ := And.intro hw3 (And.intro hb03 (And.intro hg3 (And.intro hL3 (And.intro (res_up5 (bel5 hb3 hb2) H1.out.2.2.1) hN))))
  clear x0 x1 x2 x3
  obtain ⟨x0, x1, x2, x3⟩ := four_cells hg3
  clear hw3 hb3 hg3 hb03 hL3 hN hLn hb2
  go_upto_region 4 with fail
  rw [← H3.out.1]
  go_wp2_with fail
  refine Calls.mono H3.out.2.2.2.2.2 ?_
  rintro r w4 ⟨x, rfl, hC, hb4⟩
  have hb04 := bel5 hb4 H3.out.2.1
  have hg4 := res_up5 hb4 H3.out.2.2.2.2.1
  have hK := refCheck_any n k s (.slice ao L cap) es w4 (HV.out.1.below hb04)
  rw [HV.out.2.2.2.2] at hK
  unfold sysV chkV at hK
  simp only [Bool.false_eq_true, if_false] at hK
  have hx := hC
  obtain ⟨bx, ux, hx1, _, _⟩ := hx
  have H4 : Hid _ := And.intro hb04 (And.intro hg4 (And.intro hC (And.intro (res_up5 hb4 H3.out.2.2.1) (And.intro (H3.out.2.2.2.1.below hb4) hK))))
  subst hx1
  clear x0 x1 x2 x3
  obtain ⟨x0, x1, x2, x3⟩ := four_cells hg4
  clear hb04 hg4 hK hC hb4
  go_wp2_with fail
  refine Calls.mono H4.out.2.2.2.2.2 ?_
  rintro r w5 ⟨rfl, hb5⟩
  obtain ⟨w6, hw6⟩ : ∃ w6, w6 = w5.alloc (.cells #[.int .i64 14, .int .i64 0, .int .i64 0, .string sysB1] 33) := ⟨_, rfl⟩
  have hb6 : Below w5.heap.size w5 w6 := by rw [hw6]; exact (Below.refl _ _).alloc (Nat.le_refl _) _
  have hg6 : w6.heap[w5.heap.size]? = some (.cells #[.int .i64 14, .int .i64 0, .int .i64 0, .string sysB1] 33 (0, 0)) := by rw [hw6]; exact heap_alloc_new w5 _
  have hb46 := bel5 hb6 hb5
  have hb06 := bel5 hb46 H4.out.1
  have H6 : Hid _ := And.intro hw6 (And.intro hb06 (And.intro (res_up5 hb46 H4.out.2.1) (And.intro (res_up5 hb46 H4.out.2.2.2.1) (And.intro (H4.out.2.2.2.2.1.below hb46) (And.intro hg6 (told_bad5 e w6 _ (HV.out.2.2.2.1.below hb06) (H4.out.2.2.1.below hb46)))))))
  clear x0 x1 x2 x3
  obtain ⟨x0, x1, x2, x3⟩ := four_cells hg6
  clear hw6 hb6 hg6 hb46 hb06 hb5
  go_upto_region 6 with fail
  rw [← H6.out.1]
  go_wp2_with fail
  refine Calls.mono H6.out.2.2.2.2.2.2 ?_
  rintro r w7 ⟨rfl, hb7⟩
  have hb07 := bel5 hb7 H6.out.2.1
  have hS7 := staysS_any n k s n k s _ (.slice (some ⟨gl, 0, none⟩) L cl) (.slice ao L cap) es w7 (by have := HV.out.2.1; omega) (H6.out.2.2.2.2.1.below hb7) (HV.out.1.below hb07)
  unfold sysV at hS7
  clear x0 x1 x2 x3
  obtain ⟨x0, x1, x2, x3⟩ := four_cells (res_up5 hb7 H6.out.2.2.1)
  obtain ⟨y0, y1, y2, y3⟩ := four_cells (res_up5 hb7 H6.out.2.2.2.1)
  obtain ⟨z0, z1, z2, z3⟩ := four_cells (res_up5 hb7 H6.out.2.2.2.2.2.1)
  have H7 : Hid _ := And.intro hb07 hS7
  have hN := Tryz.eqNo
  clear hb07 hS7 hb7
  go_wp2_with fail
  refine Calls.mono H7.out.2 ?_
  rintro r w8 ⟨rfl, hb8⟩
  have H8 : Hid _ := bel5 hb8 H7.out.1
  clear hb8 x0 x1 x2 x3 y0 y1 y2 y3 z0 z1 z2 z3
  go_wp2_with fail
  refine Calls.mono (HV.out.2.2.1 _ H8.out) ?_
  rintro r w9 ⟨rfl, hb9⟩
  have H9 : Hid _ := bel5 hb9 H8.out
  clear hb9
  go_wp2_with fail
  go_ret
  exact ⟨rfl, H9.out⟩
end Go.Proofs.YtgnfommndoodmaaGreatDoor
/- A row of a table once more: its capacity, too. -/
namespace Go.Proofs.YtgnfommndoodmaaGreatDoor
open Go.RowKit Go.Maps
attribute [local go_sem ↓] Go.wp_at_zero Go.wp_at_succ
set_option maxRecDepth 100000 in
set_option maxHeartbeats 4000000 in
theorem row2_any (bs bb m n B : Nat) (l : List Sy.Ed) (i : Int) (w : World) (hn : n ≤ 100000) (hl : l.length = m) (hs : Sy.Rows l) (hT : Tb w B bs bb n l) :
    Calls Tryz.prog 45 #[tabV bs bb m n, .int .i64 i] w fun r w' => ∃ v, r = .returned v ∧ (∀ W, Tb W B bs bb n l → BSteps.Has W v (Sy.rowOf n l i)) ∧ (∃ a k c, v = .slice a k c ∧ k ≤ c) ∧ Below w.heap.size w w' := by
  obtain ⟨w1, hw1⟩ : ∃ w1, w1 = w.alloc (.cells #[.slice (some ⟨bs, 0, none⟩) m m, .slice (some ⟨bb, 0, none⟩) (n + 1) (n + 1)] 79) := ⟨_, rfl⟩
  have hb1 : Below w.heap.size w w1 := by rw [hw1]; exact (Below.refl _ _).alloc (Nat.le_refl _) _
  have hg1 : w1.heap[w.heap.size]? = some (.cells #[.slice (some ⟨bs, 0, none⟩) m m, .slice (some ⟨bb, 0, none⟩) (n + 1) (n + 1)] 79 (0, 0)) := by rw [hw1]; exact heap_alloc_new w _
  have hT1 := hT.below hb1
  have hB := fun W => below_any i (n : Int) W
  have HB : Hid _ := hB
  have r0 : IntKind.i64.wrap ((n : Int) + 1 - 1) = (n : Int) := by rw [IntKind.wrap_i64]; omega
  unfold tabV Sy.rowOf
  by_cases hi : 0 ≤ i ∧ i < (n : Int)
  · rw [if_pos hi]
    rw [decide_eq_true hi] at HB
    obtain ⟨q, rfl⟩ : ∃ q : Nat, i = (q : Int) := ⟨i.toNat, by omega⟩
    have hqn : q < n := by omega
    have c0 : w1.cell? ⟨w.heap.size, 0, none⟩ = some (.slice (some ⟨bs, 0, none⟩) m m) := cell0_of hg1 rfl
    have c1 : w1.cell? ⟨w.heap.size, 1, none⟩ = some (.slice (some ⟨bb, 0, none⟩) (n + 1) (n + 1)) := cell0_of hg1 rfl
    have x0 := hT1.nums.cell (i := q) (x := .int .i64 (Sy.cnt l (q : Int) : Nat)) (by unfold iC; rw [List.getElem?_map, Sy.bounds_at (by omega)]; rfl)
    have x1 := hT1.nums.cell (i := q + 1) (x := .int .i64 (Sy.cnt l ((q : Int) + 1) : Nat)) (by unfold iC; rw [List.getElem?_map, Sy.bounds_at (by omega)]; rfl)
    have hle := Sy.cnt_mono l (q : Int)
    have hlm := Sy.cnt_le l ((q : Int) + 1)
    have hpc : ∀ W, Tb W B bs bb n l → BSteps.Has W (.slice (some ⟨bs, Sy.cnt l (q : Int) * 2, none⟩) (Sy.cnt l ((q : Int) + 1) - Sy.cnt l (q : Int)) (Sy.cnt l ((q : Int) + 1) - Sy.cnt l (q : Int))) (Sy.steps l q) := fun W hW => by
      rw [map_stp l q hs]
      exact piece_has hW.steps (Sy.cnt l (q : Int)) (Sy.cnt l ((q : Int) + 1) - Sy.cnt l (q : Int)) (Sy.cnt l ((q : Int) + 1) - Sy.cnt l (q : Int)) (by rw [List.length_map]; omega)
    have hz : Sy.cnt l ((q : Int) + 1) - Sy.cnt l (q : Int) = 0 → Sy.steps l q = [] := fun e => by rw [map_stp l q hs, e]; simp
    generalize Sy.cnt l (q : Int) = b at x0 hle hpc hz
    generalize Sy.cnt l ((q : Int) + 1) = e at x1 hle hlm hpc hz
    have r1 : (0 : Int) ≤ (q : Int) := by omega
    have r2 : (q : Int) < (n : Int) + 1 := by omega
    have r3 : (0 : Int) ≤ (q : Int) + 1 := by omega
    have r4 : (q : Int) + 1 < (n : Int) + 1 := by omega
    have r5 : ((q : Int) + 1).toNat = q + 1 := by omega
    have r6 : IntKind.i64.wrap ((q : Int) + 1) = (q : Int) + 1 := by rw [IntKind.wrap_i64]; omega
    have r7 : (0 : Int) ≤ (b : Int) := by omega
    have r8 : (b : Int) ≤ (e : Int) := by omega
    have r9 : (e : Int) ≤ (m : Int) := by omega
    have H1 : Hid _ := And.intro hw1 (And.intro hb1 (And.intro hpc hz))
    clear hw1 hb1 hg1 hT1 hT hB hpc hz hs hl hi
    go_enter Tryz.func45, Tryz.ntmps45
    go_upto_region 1 with fail
    rw [← H1.out.1]
    go_wp2_with (go_at_call 102; refine (HB.out _).mono ?_; rintro r w2 ⟨rfl, hw2⟩; obtain rfl := hw2.symm)
    go_quiet (fail)
    go_wp2_with fail
    · go_ret
      refine ⟨_, rfl, fun W _ => ?_, ⟨_, _, _, rfl, by omega⟩, below_drewN H1.out.2.1 _⟩
      rw [H1.out.2.2.2 (by omega)]
      exact hasS_none _ _ _
    · go_ret
      exact ⟨_, rfl, H1.out.2.2.1, ⟨_, _, _, rfl, by omega⟩, below_drewN H1.out.2.1 _⟩
  · rw [if_neg hi]
    rw [decide_eq_false hi] at HB
    have c1 : w1.cell? ⟨w.heap.size, 1, none⟩ = some (.slice (some ⟨bb, 0, none⟩) (n + 1) (n + 1)) := cell0_of hg1 rfl
    have H1 : Hid _ := And.intro hw1 hb1
    clear hw1 hb1 hg1 hT1 hT hB hs hl hi
    go_enter Tryz.func45, Tryz.ntmps45
    go_upto_region 1 with fail
    rw [← H1.out.1]
    go_wp2_with (go_at_call 102; refine (HB.out _).mono ?_; rintro r w2 ⟨rfl, hw2⟩; obtain rfl := hw2.symm)
    go_ret
    exact ⟨_, rfl, fun W _ => hasS_nil _ _, ⟨_, _, _, rfl, Nat.le_refl _⟩, H1.out.2⟩
end Go.Proofs.YtgnfommndoodmaaGreatDoor
/- Contracts of the program's comparison of a step's label, and of slices.BinarySearchFunc by it. -/
namespace Go.Proofs.YtgnfommndoodmaaGreatDoor
open Go.RowKit Go.Maps
attribute [local go_sem ↓] Go.wp_at_zero Go.wp_at_succ
set_option maxRecDepth 100000 in
theorem ends1_any (a b l : Int) (w : World) : Calls Tryz.prog 104 #[.agg #[.int .i64 a, .int .i64 b], .int .i64 l] w fun r w' => r = .returned (.int .i64 (cmpI a l)) ∧ Below w.heap.size w w' := by
  obtain ⟨w1, hw1⟩ : ∃ w1, w1 = w.alloc (.cells #[.int .i64 a, .int .i64 b] 92) := ⟨_, rfl⟩
  have hb1 : Below w.heap.size w w1 := by rw [hw1]; exact (Below.refl _ _).alloc (Nat.le_refl _) _
  have hg1 : w1.heap[w.heap.size]? = some (.cells #[.int .i64 a, .int .i64 b] 92 (0, 0)) := by rw [hw1]; exact heap_alloc_new w _
  have c0 : w1.cell? ⟨w.heap.size, 0, none⟩ = some (.int .i64 a) := cell0_of hg1 rfl
  have H1 : Hid _ := And.intro hw1 (And.intro hb1 (cmpI_any a l w1))
  clear hw1 hb1 hg1
  go_enter Tryz.func104, Tryz.ntmps104
  go_upto_region 1 with fail
  rw [← H1.out.1]
  go_wp2_with fail
  refine Calls.mono H1.out.2.2 ?_
  rintro r w2 ⟨rfl, hw2⟩
  obtain rfl := hw2.symm
  clear hw2
  go_wp2_with fail
  go_ret
  exact ⟨rfl, H1.out.2.1⟩
theorem cmpI_neg (a b : Int) : cmpI a b < 0 ↔ a < b := by unfold cmpI; split <;> (try split) <;> omega
/-- Where a label begins in a row. -/
structure BinAt (zs : List BSteps.El) (l : Int) (i j : Nat) : Prop where
  lo : ∀ (k : Nat) (z : BSteps.El), k < i → zs[k]? = some z → z.1 < l
  hi : ∀ (k : Nat) (z : BSteps.El), j ≤ k → zs[k]? = some z → l ≤ z.1
theorem bin_begin (zs : List BSteps.El) (l : Int) : BinAt zs l 0 zs.length := ⟨fun k z h => by omega, fun k z h hz => by have := (List.getElem?_eq_some_iff.1 hz).1; omega⟩
theorem BinAt.left {zs : List BSteps.El} {l : Int} {i j h : Nat} (hB : BinAt zs l i j) (hs : zs.Pairwise fun x y => x.1 ≤ y.1) {z : BSteps.El} (hz : zs[h]? = some z) (hl : z.1 < l) : BinAt zs l (h + 1) j := by
  refine ⟨fun k y hk hy => ?_, hB.hi⟩
  by_cases e : k = h
  · subst e; rw [hz] at hy; cases hy; exact hl
  · obtain ⟨a1, a2⟩ := List.getElem?_eq_some_iff.1 hy
    obtain ⟨b1, b2⟩ := List.getElem?_eq_some_iff.1 hz
    have := List.pairwise_iff_getElem.1 hs k h a1 b1 (by omega)
    rw [a2, b2] at this
    omega
theorem BinAt.right {zs : List BSteps.El} {l : Int} {i j h : Nat} (hB : BinAt zs l i j) (hs : zs.Pairwise fun x y => x.1 ≤ y.1) {z : BSteps.El} (hz : zs[h]? = some z) (hl : ¬ z.1 < l) : BinAt zs l i h := by
  refine ⟨hB.lo, fun k y hk hy => ?_⟩
  by_cases e : k = h
  · subst e; rw [hz] at hy; cases hy; omega
  · obtain ⟨a1, a2⟩ := List.getElem?_eq_some_iff.1 hy
    obtain ⟨b1, b2⟩ := List.getElem?_eq_some_iff.1 hz
    have := List.pairwise_iff_getElem.1 hs h k b1 a1 (by omega)
    rw [a2, b2] at this
    omega
set_option maxRecDepth 100000 in
set_option maxHeartbeats 4000000 in
theorem bin_any (v : Value) (zs : List BSteps.El) (l : Int) (w : World) (hv : BSteps.Has w v zs) (hs : zs.Pairwise fun x y => x.1 ≤ y.1) (hn : zs.length ≤ 100000) :
    Calls Tryz.prog 103 #[v, .int .i64 l, .func (.func 104) #[] #[]] w fun r w' => ∃ (i : Nat) (b : Bool), r = .returned (.tuple #[.int .i64 i, .bool b]) ∧ i ≤ zs.length ∧ BinAt zs l i i ∧ Below w.heap.size w w' := by
  have hv0 := hv
  obtain ⟨ao, cap, rfl, _⟩ := hv0
  obtain ⟨n, hN⟩ : ∃ n, n = zs.length := ⟨_, rfl⟩
  rw [← hN] at hn hv ⊢
  have HV : Hid (BSteps.Has w (.slice ao n cap) zs ∧ n = zs.length ∧ zs.Pairwise (fun x y => x.1 ≤ y.1) ∧ BinAt zs l 0 n) := ⟨hv, hN, hs, by rw [hN]; exact bin_begin zs l⟩
  clear hv hN hs
  go_enter Tryz.func103, Tryz.ntmps103
  go_wp2_with fail
  go_loopg [9, 10] n (fun q iv jv wr => ∃ i j : Nat, q = j - i ∧ i ≤ j ∧ j ≤ n ∧ iv = .int .i64 i ∧ jv = .int .i64 j ∧ BinAt zs l i j ∧ Below w.heap.size w wr)
  case atStart => exact ⟨0, n, by omega, Nat.zero_le _, Nat.le_refl _, rfl, rfl, HV.out.2.2.2, Below.refl _ _⟩
  case round =>
    obtain ⟨i, j, rfl, hij, hjn, rfl, rfl, hB, hb⟩ := hrel
    obtain ⟨wq, rfl⟩ : ∃ wq, wq = wr := ⟨_, rfl⟩
    by_cases hlt : i < j
    · obtain ⟨h, hh⟩ : ∃ h, h = (i + j) / 2 := ⟨_, rfl⟩
      have h1 : i ≤ h := by omega
      have h2 : h < j := by omega
      have k0 : (i : Int) < (j : Int) := by omega
      have kh : ((i : Int) + (j : Int)) / 2 = (h : Int) := by omega
      obtain ⟨z, hz⟩ : ∃ z, zs[h]? = some z := ⟨zs[h]'(by have := HV.out.2.1; omega), List.getElem?_eq_getElem _⟩
      obtain ⟨a, rfl, d0, d1⟩ := step_at (HV.out.1.below hb) hz
      have k1 : (0 : Int) ≤ (h : Int) := by omega
      have k2 : (h : Int) < (n : Int) := by omega
      have hB1 := fun (hl : z.1 < l) => hB.left HV.out.2.2.1 hz hl
      have hB2 := fun (hl : ¬ z.1 < l) => hB.right HV.out.2.2.1 hz hl
      obtain ⟨z1, z2⟩ := z
      simp only at d0 d1 hB1 hB2
      have hE := ends1_any z1 z2 l wq
      have hcn := cmpI_neg z1 l
      obtain ⟨c, hc⟩ : ∃ c, c = cmpI z1 l := ⟨_, rfl⟩
      rw [← hc] at hE hcn
      have HE : Hid _ := And.intro hE (And.intro hb (And.intro hB1 hB2))
      clear hE hb hB1 hB2 hB hz hc hh
      by_cases hcl : c < 0
      · have HL : Hid (z1 < l) := hcn.1 hcl
        have k3 : decide (c < 0) = true := decide_eq_true hcl
        clear hcn
        go_wp2_with fail
        refine Calls.mono HE.out.1 ?_
        rintro r w2 ⟨rfl, hb2⟩
        have H2 : Hid _ := hb2
        clear hb2
        go_wp2_with fail
        go_roundg (j - (h + 1))
        case measure => omega
        case rel => exact ⟨h + 1, j, rfl, by omega, hjn, by go_num, rfl, HE.out.2.2.1 HL.out, HE.out.2.1.trans (H2.out.mono HE.out.2.1.size)⟩
      · have HL : Hid (¬ z1 < l) := fun h => hcl (hcn.2 h)
        have k3 : decide (c < 0) = false := decide_eq_false hcl
        clear hcn
        go_wp2_with fail
        refine Calls.mono HE.out.1 ?_
        rintro r w2 ⟨rfl, hb2⟩
        have H2 : Hid _ := hb2
        clear hb2
        go_wp2_with fail
        go_roundg (h - i)
        case measure => omega
        case rel => exact ⟨i, h, rfl, h1, by omega, rfl, rfl, HE.out.2.2.2 HL.out, HE.out.2.1.trans (H2.out.mono HE.out.2.1.size)⟩
    · obtain rfl : i = j := by omega
      have k0 : ¬ (i : Int) < (i : Int) := by omega
      by_cases hin : i < n
      · obtain ⟨z, hz⟩ : ∃ z, zs[i]? = some z := ⟨zs[i]'(by have := HV.out.2.1; omega), List.getElem?_eq_getElem _⟩
        obtain ⟨a, rfl, d0, d1⟩ := step_at (HV.out.1.below hb) hz
        have k1 : (0 : Int) ≤ (i : Int) := by omega
        have k2 : (i : Int) < (n : Int) := by omega
        have k3 : decide ((i : Int) < (n : Int)) = true := decide_eq_true k2
        obtain ⟨z1, z2⟩ := z
        simp only at d0 d1
        have hE := ends1_any z1 z2 l wq
        generalize cmpI z1 l = c at hE
        have HE : Hid _ := And.intro hE (And.intro hb hB)
        clear hE hb hB hz
        go_wp2_with fail
        refine Calls.mono HE.out.1 ?_
        rintro r w2 ⟨rfl, hb2⟩
        have H2 : Hid _ := hb2
        clear hb2
        go_wp2_with fail
        go_ret2
        exact ⟨i, _, rfl, hjn, HE.out.2.2, HE.out.2.1.trans (H2.out.mono HE.out.2.1.size)⟩
      · have k2 : ¬ (i : Int) < (n : Int) := by omega
        have HE : Hid _ := And.intro hb hB
        clear hb hB
        go_wp2_with fail
        go_ret2
        exact ⟨i, .inl rfl, hjn, HE.out.2, HE.out.1⟩
end Go.Proofs.YtgnfommndoodmaaGreatDoor
