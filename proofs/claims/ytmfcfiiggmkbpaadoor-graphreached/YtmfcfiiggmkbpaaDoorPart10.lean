/- Texts of this claim, joined: SyRch, SyEdg, SyCup0, SyCut1. -/
import Derived.Test.YtmfcfiiggmkbpaaDoorPart9
import Derived.Deep.AppendLies
import Derived.Maps.AppendAt
import Derived.Test.YtmfcfiiggmkbpaaDoorPart6
/- Contracts of the program's Degree and Reach. -/
namespace Go.Proofs.YtmfcfiiggmkbpaaDoor
open Go.RowKit Go.Maps
attribute [local go_sem ↓] Go.wp_at_zero Go.wp_at_succ
/-- The greatest number of steps of the first states. -/
def Sy.degTo (l : List Sy.Ed) : Nat → Nat
  | 0 => 0
  | st + 1 => max (Sy.degTo l st) (Sy.steps l (st : Int)).length
theorem Sy.degTo_le (l : List Sy.Ed) (n : Nat) : Sy.degTo l n ≤ l.length := by
  induction n with
  | zero => exact Nat.zero_le _
  | succ n ih => have := Sy.steps_len l (n : Int); unfold Sy.degTo; omega
theorem rowOf_in {n q : Nat} (l : List Sy.Ed) (h : q < n) : Sy.rowOf n l (q : Int) = Sy.steps l q := by
  unfold Sy.rowOf
  rw [if_pos ⟨by omega, by omega⟩]
set_option maxRecDepth 100000 in
set_option maxHeartbeats 4000000 in
theorem degree_any {B g bs bb cs cb n : Nat} {k s : Int} {es : List Sy.Ed} (w : World) (h : Gr w B g bs bb cs cb n k s es) : Calls Tryd.prog 12 #[.pointer (some ⟨g, 0, none⟩)] w fun r w' => r = .returned (.int .i64 (Sy.degTo (Sy.nf es) n : Nat)) ∧ Below w.heap.size w w' := by
  have hSt := states_any w h
  have hs := h.sizes
  have HG : Hid _ := And.intro h (And.intro hSt hs)
  have hn : n ≤ 1000 := hs.1
  clear h hSt hs
  go_enter Tryd.func12, Tryd.ntmps12
  go_wp2_with (go_at_call 10; refine Calls.mono HG.out.2.1 ?_; rintro r w1 ⟨rfl, hw⟩; obtain rfl := hw.symm)
  go_loopg [3, 7] n (fun q dv iv wr => ∃ st : Nat, q = n - st ∧ st ≤ n ∧ dv = .int .i64 (Sy.degTo (Sy.nf es) st : Nat) ∧ iv = .int .i64 st ∧ Below w.heap.size w wr)
  case atStart => exact ⟨0, rfl, Nat.zero_le _, rfl, rfl, Below.refl _ _⟩
  case round =>
    obtain ⟨st, rfl, hst, rfl, rfl, hb⟩ := hrel
    by_cases hlt : st < n
    · have hG := HG.out.1.below hb
      obtain ⟨_, _, _, ⟨c0, c1⟩, _, _⟩ := hG.cells
      have hR := hG.row (st : Int)
      have hT := hG.out
      have hd := Sy.degTo_le (Sy.nf es) st
      have hl := Sy.steps_len (Sy.nf es) (st : Int)
      have hsz := HG.out.2.2.2
      obtain ⟨D, hD⟩ : ∃ D, D = Sy.degTo (Sy.nf es) st := ⟨_, rfl⟩
      obtain ⟨L, hL⟩ : ∃ L, L = (Sy.nf es).length := ⟨_, rfl⟩
      rw [← hD]
      rw [← hD] at hd
      have HR : Hid _ := And.intro hR (And.intro hb (And.intro hD (And.intro hL hT)))
      rw [← hL] at HR c0 hsz hd hl
      have r0 : (0 : Int) ≤ (st : Int) := by omega
      have r1 : (st : Int) < (n : Int) := by omega
      clear hG hR hb hD hL hT
      go_wp2_with fail
      refine Calls.mono HR.out.1 ?_
      rintro r w1 ⟨v, rfl, hv, hb1⟩
      obtain ⟨av, cv, rfl, _⟩ := hv wr HR.out.2.2.2.2
      rw [rowOf_in _ hlt]
      obtain ⟨R, hRR⟩ : ∃ R, R = (Sy.steps (Sy.nf es) (st : Int)).length := ⟨_, rfl⟩
      rw [← hRR]
      rw [← hRR] at hl
      have H1 : Hid _ := And.intro hb1 hRR
      clear hv hb1 hRR c0 c1
      go_wp2_with fail
      go_roundg (n - (st + 1))
      case measure => omega
      case rel =>
        refine ⟨st + 1, rfl, by omega, ?_, by go_num, HR.out.2.1.trans (H1.out.1.mono HR.out.2.1.size)⟩
        have e9 : Sy.degTo (Sy.nf es) (st + 1) = max D R := by rw [HR.out.2.2.1, H1.out.2]; rfl
        rw [e9]
        congr 1
        omega
    · obtain rfl : st = n := by omega
      have HB : Hid _ := hb
      clear hb
      have r1 : ¬ (st : Int) < (st : Int) := by omega
      go_wp2_with fail
      go_ret
      exact ⟨rfl, HB.out⟩
/-- The marked places, rising. -/
def Sy.marked (bs : List Bool) : List Int := ((List.range bs.length).filter fun p => bs[p]? == some true).map fun (p : Nat) => (p : Int)
theorem Sy.marked_mem (bs : List Bool) (z : Int) : z ∈ Sy.marked bs ↔ ∃ p : Nat, z = (p : Int) ∧ bs[p]? = some true := by
  unfold Sy.marked
  rw [List.mem_map]
  constructor
  · rintro ⟨p, hp, rfl⟩
    obtain ⟨_, h2⟩ := List.mem_filter.1 hp
    exact ⟨p, rfl, by simpa using h2⟩
  · rintro ⟨p, rfl, h⟩
    refine ⟨p, List.mem_filter.2 ⟨List.mem_range.2 (List.getElem?_eq_some_iff.1 h).1, by simpa using h⟩, rfl⟩
theorem Sy.marked_rise (bs : List Bool) : (Sy.marked bs).Pairwise (· < ·) := by
  unfold Sy.marked
  refine List.Pairwise.map _ (fun a b h => ?_) ((List.pairwise_lt_range).sublist List.filter_sublist)
  omega
theorem count_filter (bs : List Bool) : ((List.range bs.length).filter fun p => bs[p]? == some true).length = bs.count true := by
  suffices h : ∀ i, i ≤ bs.length → ((List.range i).filter fun p => bs[p]? == some true).length = (bs.take i).count true by simpa using h bs.length (Nat.le_refl _)
  intro i
  induction i with
  | zero => intro _; simp
  | succ i ih =>
    intro hi
    obtain ⟨b, hb⟩ : ∃ b, bs[i]? = some b := ⟨bs[i], List.getElem?_eq_getElem _⟩
    rw [List.range_succ, List.filter_append, List.length_append, ih (by omega), take_succ_of hb, List.count_append]
    cases b <;> simp [hb]
theorem perm_of_sub {l : List Int} : ∀ {m : List Int}, l.Nodup → (∀ x ∈ l, x ∈ m) → m.length ≤ l.length → m.Perm l := by
  induction l with
  | nil => intro m _ _ h; rw [List.eq_nil_of_length_eq_zero (Nat.le_zero.1 h)]
  | cons a r ih =>
    intro m hn hs hl
    obtain ⟨h1, h2⟩ := List.nodup_cons.1 hn
    have ha := hs a List.mem_cons_self
    have hp := List.perm_cons_erase ha
    refine hp.trans (List.Perm.cons a (ih h2 (fun x hx => ?_) ?_))
    · have hne : x ≠ a := fun e => h1 (e ▸ hx)
      exact (List.mem_erase_of_ne hne).2 (hs x (List.mem_cons_of_mem _ hx))
    · rw [List.length_erase_of_mem ha]
      simp only [List.length_cons] at hl
      omega
theorem Sy.sorted_marked {es : List Sy.Ed} {s : Int} {n i : Nat} {zs : List Int} {bs : List Bool} (h : Sy.RInv es s n zs bs i) : (zs.mergeSort fun x y => decide (x ≤ y)) = Sy.marked bs := by
  have hr := Sy.marked_rise bs
  have hp : zs.Perm (Sy.marked bs) := by
    refine perm_of_sub (hr.imp fun h => by omega) (fun x hx => ?_) ?_
    · obtain ⟨p, rfl, h1⟩ := (Sy.marked_mem bs x).1 hx
      exact (h.iff p).1 h1
    · rw [h.cnt]
      unfold Sy.marked
      rw [List.length_map, count_filter]
      exact Nat.le_refl _
  refine List.Perm.eq_of_pairwise (le := fun a b => a ≤ b) (fun a b _ _ h1 h2 => by omega) (sort_rise zs) (hr.imp fun h => by omega) ((sort_perm zs).trans hp)
/-- What stands in memory while Reach works. -/
structure RpAt (w wr : World) (gi : Nat) (u : Value) (zs : List Int) (bs : List Bool) : Prop where
  inn : Arr 4 w wr gi (bC bs)
  lst : OwnI wr w.heap.size u zs
theorem RpAt.below {w wr w' : World} {gi : Nat} {u : Value} {zs : List Int} {bs : List Bool} (h : RpAt w wr gi u zs bs) (hb : Below wr.heap.size wr w') : RpAt w w' gi u zs bs := ⟨h.inn.below hb, trow_at h.lst fun b e => hb.block _ (World.ownsRow.lt h.lst b e).2⟩
theorem RpAt.mark {w wr : World} {gi : Nat} {u : Value} {zs : List Int} {bs : List Bool} (h : RpAt w wr gi u zs bs) (q : Nat) : RpAt w (wr.setCell ⟨gi, q, none⟩ (.bool true)) gi u zs (bs.set q true) := by
  refine ⟨?_, trow_at h.lst fun b e => ?_⟩
  · rw [← bC_set]; exact h.inn.set q _
  · obtain ⟨cs, hc, _⟩ := h.inn.ids
    exact set_other _ _ _ _ _ fun e2 => own_bk h.lst hc (by decide) (e2 ▸ e)
theorem RpAt.push {w wr w2 : World} {gi : Nat} {u u2 : Value} {zs : List Int} {bs : List Bool} (h : RpAt w wr gi u zs bs) {q : Int} {N : Nat} (hN : N = zs.length) (hown : w2.ownsRow w.heap.size 3 1 u2 (N + 1) (iC zs ++ [.int .i64 q])) (hk : Kept (fun b => u.ownBlock = some b) wr w2) : RpAt w w2 gi u2 (zs ++ [q]) bs := by
  obtain ⟨cs, hc, _⟩ := h.inn.ids
  refine ⟨h.inn.kept hk fun b e => ⟨(World.ownsRow.lt h.lst b e).1, fun e2 => own_bk h.lst hc (by decide) (e2 ▸ e)⟩, ?_⟩
  unfold OwnI
  rw [iC_snoc, List.length_append, ← hN]
  exact hown
set_option maxRecDepth 100000 in
set_option maxHeartbeats 8000000 in
theorem reach_any {B g bs bb cs cb n : Nat} {k s : Int} {es : List Sy.Ed} (w : World) (h : Gr w B g bs bb cs cb n k s es) : Calls Tryd.prog 13 #[.pointer (some ⟨g, 0, none⟩)] w fun r w' => ∃ u ms, r = .returned u ∧ OwnI w' w.heap.size u (Sy.marked ms) ∧ ms.length = n ∧ (∀ p : Nat, p < n → (ms[p]? = some true ↔ Sy.Rea es s p)) ∧ Below w.heap.size w w' := by
  obtain ⟨i0, hi0, hz0, hz1, hz2⟩ := info_parts Tryd.infoI4
  have hSt := states_any w h
  have hs := h.sizes
  have hrp := right_parts h.right
  have HG : Hid _ := And.intro h (And.intro hSt (And.intro hs hrp))
  have hn : n ≤ 1000 := hs.1
  obtain ⟨c0, _, c2, _, _, _⟩ := h.cells
  clear h hSt hs
  by_cases h0 : n = 0
  · have e0 : ((n : Int) == 0) = true := by simp [h0]
    have HZ : Hid _ := h0
    clear h0 hrp
    go_enter Tryd.func13, Tryd.ntmps13
    go_wp2_with (go_at_call 10; refine Calls.mono HG.out.2.1 ?_; rintro r w1 ⟨rfl, hw⟩; obtain rfl := hw.symm)
    go_ret
    exact ⟨_, [], rfl, World.ownsRow_nil _ _ _ _, by rw [HZ.out]; rfl, fun p hp => by have := HZ.out; omega, Below.refl _ _⟩
  · have e0 : ((n : Int) == 0) = false := by simp; omega
    obtain ⟨t, rfl⟩ : ∃ t : Nat, s = (t : Int) := ⟨s.toNat, by have := hrp.2.2.2.2.1 (by omega); omega⟩
    have htn : t < n := by have := hrp.2.2.2.2.1 (by omega); omega
    have hmk := makeB n (by omega) w
    obtain ⟨w1, hw1⟩ : ∃ w1, w1 = w.alloc (.cells (madeV (.bool false) n) 4) := ⟨_, rfl⟩
    have hA1 := arr_new 4 (.bool false) rfl n w
    rw [← hw1] at hmk hA1
    rw [bC_rep] at hA1
    have cg := hA1.cell (i := t) (x := .bool false) (bC_at (by rw [List.getElem?_replicate, if_pos htn]))
    have cf := hA1.free t
    have hG1 := HG.out.1.below hA1.bl
    obtain ⟨_, _, d2, _, _, _⟩ := hG1.cells
    have hgl := t_lt HG.out.1.box
    have hne : ¬ g = w.heap.size := by omega
    have p0 : (0 : Int) ≤ (t : Int) := by omega
    have p1 : (t : Int) < (n : Int) := by omega
    have hR0 : RpAt w ((w1.setCell ⟨w.heap.size, t, none⟩ (.bool true)).alloc (.cells #[.int .i64 t] 3)) w.heap.size (.slice (some ⟨w1.heap.size, 0, none⟩) 1 1) [(t : Int)] ((List.replicate n false).set t true) := by
      have h1 : RpAt w w1 w.heap.size (.slice none 0 0) [] (List.replicate n false) := ⟨hA1, World.ownsRow_nil _ _ _ _⟩
      have h3 := (h1.mark t).below (w' := (w1.setCell ⟨w.heap.size, t, none⟩ (.bool true)).alloc (.cells #[.int .i64 t] 3)) ((Below.refl _ _).alloc (Nat.le_refl _) _)
      have h4 := heap_alloc_new (w1.setCell ⟨w.heap.size, t, none⟩ (.bool true)) (.cells #[.int .i64 t] 3)
      have h5 : (w1.setCell ⟨w.heap.size, t, none⟩ (.bool true)).heap.size = w1.heap.size := by simp
      rw [h5] at h4
      exact ⟨h3.inn, rfl, .inr ⟨w1.heap.size, 1, #[.int .i64 t], rfl, hA1.bl.size, h4, Nat.le_refl _, by unfold maxLen; omega, rfl, rfl⟩⟩
    have HH : Hid _ := And.intro hR0 (And.intro (Sy.RInv.begin es (t : Int) n rfl htn) hw1)
    have hz1 : ¬ w.heap.size = w1.heap.size := by have := hA1.lt; omega
    clear hR0 hA1 hG1 hw1 hrp h0
    go_enter Tryd.func13, Tryd.ntmps13
    go_wp2_with (go_at_call 10; refine Calls.mono HG.out.2.1 ?_; rintro r w9 ⟨rfl, hw⟩; obtain rfl := hw.symm)
    go_loopg [4, 5] n (fun q u iv wr => ∃ (i : Nat) (zs : List Int) (ms : List Bool), q = n - i ∧ i ≤ zs.length ∧ iv = .int .i64 i ∧ RpAt w wr w.heap.size u zs ms ∧ Sy.RInv es t n zs ms i)
    case atStart => exact ⟨0, _, _, rfl, Nat.zero_le _, rfl, HH.out.1, HH.out.2.1⟩
    case round =>
      obtain ⟨i, zs, ms, rfl, hi, rfl, hC, hI⟩ := hrel
      obtain ⟨wq, rfl⟩ : ∃ wq, wq = wr := ⟨_, rfl⟩
      have hzn := hI.short
      obtain ⟨N, hN⟩ : ∃ N, N = zs.length := ⟨_, rfl⟩
      obtain ⟨au, cu, hu⟩ := row_shape hC.lst
      rw [← hN] at hu hi hzn
      obtain rfl := hu
      clear c0 c2 cg cf d2 hmk hz1
      by_cases hlt : i < N
      · obtain ⟨z, hz⟩ : ∃ z, zs[i]? = some z := ⟨zs[i]'(by omega), List.getElem?_eq_getElem _⟩
        obtain ⟨ga, rfl, cz⟩ := own_num hC.lst hz
        have hzr := hI.rng z (List.mem_of_getElem? hz)
        obtain ⟨p, rfl⟩ : ∃ p : Nat, z = (p : Int) := ⟨z.toNat, by omega⟩
        have hpn : p < n := by omega
        have hG := HG.out.1.below hC.inn.bl
        obtain ⟨_, _, _, ⟨c0, c1⟩, _, _⟩ := hG.cells
        have hR : ∀ W, Below wq.heap.size wq W → Calls Tryd.prog 24 #[.agg #[.slice (some ⟨bs, 0, none⟩) (Sy.nf es).length (Sy.nf es).length, .slice (some ⟨bb, 0, none⟩) (n + 1) (n + 1)], .int .i64 p] W fun r w' => ∃ v, r = .returned v ∧ (∀ W, Tb W B bs bb n (Sy.nf es) → BSteps.Has W v (Sy.rowOf n (Sy.nf es) p)) ∧ Below W.heap.size W w' := fun W hb => (hG.below hb).row p
        obtain ⟨L, hL⟩ : ∃ L, L = (Sy.nf es).length := ⟨_, rfl⟩
        have HR : Hid _ := And.intro hR hL
        rw [← hL] at HR c0
        have q0 : (0 : Int) ≤ (i : Int) := by omega
        have q1 : (i : Int) < (N : Int) := by omega
        have HI : Hid _ := And.intro hC (And.intro hI (And.intro hz hN))
        clear hC hI hz hN hzr hG hR hL
        go_upto_region 9 with fail
        go_region_held3 (fun w' => (w'.cell? ⟨g, 3, none⟩ = some (.slice (some ⟨bs, 0, none⟩) L L) ∧ w'.cell? ⟨g, 4, none⟩ = some (.slice (some ⟨bb, 0, none⟩) (n + 1) (n + 1)) ∧ w'.cell? ⟨ga, i, none⟩ = some (.int .i64 p) ∧ w'.cell? ⟨ga, i, none⟩ = some (.int .i64 p)) ∧ Hid (Below wq.heap.size wq w')) (first | exact rg_up4 hb3 (by assumption) | exact ⟨⟨c0, c1, cz, cz⟩, ((Below.refl _ _).drew : Below wq.heap.size wq wq.drew)⟩ | go_keep)
          ((first
            | (go_at_call 24; refine (HR.out.1 _ (rg_b (by assumption))).mono ?_; rintro r w3 ⟨v, rfl, hv, hb3⟩; obtain ⟨av, cv, rfl, hv0⟩ := hv w HG.out.1.out; clear hv0)
            | fail))
        have hbq : Below wq.heap.size wq w3 := rg_b (by assumption)
        clear hb3 c0 c1 cz
        rename_i hS3
        clear hS3
        rw [rowOf_in _ hpn]
        rw [rowOf_in _ hpn] at hv
        obtain ⟨M, hM⟩ : ∃ M, M = (Sy.steps (Sy.nf es) p).length := ⟨_, rfl⟩
        rw [← hM]
        rw [← hM] at hv
        have hMl : M ≤ 100000 := by have := Sy.steps_len (Sy.nf es) p; have := HG.out.2.2.1.2; omega
        have HV : Hid _ := And.intro hv (And.intro hbq hM)
        clear hv hbq hM
        go_wp2_with fail
        go_loopg [4, 43] M (fun q u kv wr => ∃ (k : Nat) (zs : List Int) (bs : List Bool), q = M - k ∧ k ≤ M ∧ kv = .int .i64 k ∧ RpAt w wr w.heap.size u zs bs ∧ Sy.RInv es t n zs bs i ∧ i < zs.length ∧ zs[i]? = some (p : Int) ∧ ∀ x ∈ (Sy.steps (Sy.nf es) p).take k, x.2 ∈ zs)
        case atStart => exact ⟨0, zs, ms, rfl, Nat.zero_le _, rfl, HI.out.1.below HV.out.2.1, HI.out.2.1, by have := HI.out.2.2.2; omega, HI.out.2.2.1, fun x hx => by simp at hx⟩
        case round =>
          obtain ⟨k2, ys, ds, rfl, hk, rfl, hC, hJ, hil, hyp, hall⟩ := hrel
          obtain ⟨wp, rfl⟩ : ∃ wp, wp = wr := ⟨_, rfl⟩
          obtain ⟨N2, hN2⟩ : ∃ N2, N2 = ys.length := ⟨_, rfl⟩
          have hyn := hJ.short
          obtain ⟨ay, cy, hv2⟩ := row_shape hC.lst
          rw [← hN2] at hv2 hil hyn
          obtain rfl := hv2
          by_cases hkm : k2 < M
          · obtain ⟨x, hx⟩ : ∃ x, (Sy.steps (Sy.nf es) p)[k2]? = some x := ⟨(Sy.steps (Sy.nf es) p)[k2]'(by have := HV.out.2.2; omega), List.getElem?_eq_getElem _⟩
            obtain ⟨a, rfl, d0, d1⟩ := step_at (HV.out.1 wp (HG.out.1.out.below hC.inn.bl)) hx
            have hxe : ((p : Int), x.1, x.2) ∈ es := (Sy.nf_mem es _).1 (Sy.steps_mem.1 (List.mem_of_getElem? hx))
            have hxr : 0 ≤ x.2 ∧ x.2 < (n : Int) := by have := HG.out.2.2.2.2.2.2.2.2 _ hxe; exact ⟨this.2.2.1, this.2.2.2.1⟩
            obtain ⟨q, hq⟩ : ∃ q : Nat, x.2 = (q : Int) := ⟨x.2.toNat, by omega⟩
            have hqn : q < n := by omega
            rw [hq] at d1
            obtain ⟨b, hb⟩ : ∃ b, ds[q]? = some b := ⟨ds[q]'(by rw [hJ.len]; exact hqn), List.getElem?_eq_getElem _⟩
            obtain ⟨x1, x2⟩ := x
            simp only at d0 hq hxe
            obtain ⟨wb, hwb⟩ : ∃ wb, wb = wp.alloc (.cells #[.int .i64 x1, .int .i64 q] 51) := ⟨_, rfl⟩
            have hbb : Below wp.heap.size wp wb := by rw [hwb]; exact (Below.refl _ _).alloc (Nat.le_refl _) _
            have hgb : wb.heap[wp.heap.size]? = some (.cells #[.int .i64 x1, .int .i64 q] 51 (0, 0)) := by rw [hwb]; exact heap_alloc_new wp _
            have hCb := hC.below hbb
            have f0 : wb.cell? ⟨wp.heap.size, 0, none⟩ = some (.int .i64 x1) := cell0_of hgb rfl
            have f1 : wb.cell? ⟨wp.heap.size, 1, none⟩ = some (.int .i64 q) := cell0_of hgb rfl
            have cbm := hCb.inn.cell (bC_at hb)
            have cff := hCb.inn.free q
            have k0 : (0 : Int) ≤ (k2 : Int) := by omega
            have k1 : (k2 : Int) < (M : Int) := by omega
            have k3 : (0 : Int) ≤ (q : Int) := by omega
            have k4 : (q : Int) < (n : Int) := by omega
            cases b with
            | true =>
              have HJ : Hid _ := And.intro hCb (And.intro hJ (And.intro hyp (And.intro hall (And.intro hx (And.intro hq (And.intro hb (And.intro hN2 hwb)))))))
              clear hC hCb hJ hyp hall hx hq hb hN2 hxe hxr hwb hbb hgb
              go_upto_region 12 with fail
              rw [← HJ.out.2.2.2.2.2.2.2.2]
              go_wp2_with fail
              go_roundg (M - (k2 + 1))
              case measure => omega
              case rel =>
                exact ⟨k2 + 1, ys, ds, rfl, by omega, by go_num, HJ.out.1, HJ.out.2.1, by have := HJ.out.2.2.2.2.2.2.2.1; omega, HJ.out.2.2.1, fun y hy => by
                  rw [take_succ_of HJ.out.2.2.2.2.1] at hy
                  rcases List.mem_append.1 hy with hy | hy
                  · exact HJ.out.2.2.2.1 y hy
                  · rw [List.mem_singleton.1 hy]; simp only; rw [HJ.out.2.2.2.2.2.1]; exact (HJ.out.2.1.iff q).1 HJ.out.2.2.2.2.2.2.1⟩
            | false =>
              have hlt9 := hC.inn.lt
              have hne9 : ¬ wp.heap.size = w.heap.size := by omega
              obtain ⟨wz, hwz⟩ : ∃ wz, wz = wb.setCell ⟨w.heap.size, q, none⟩ (.bool true) := ⟨_, rfl⟩
              have hCz : RpAt w wz w.heap.size (.slice ay N2 cy) ys (ds.set q true) := by rw [hwz]; exact hCb.mark q
              have dz : wz.cell? ⟨wp.heap.size, 1, none⟩ = some (.int .i64 q) := by rw [hwz]; exact (World.cell?_of_block (a := ⟨wp.heap.size, 1, none⟩) (set_other _ _ _ _ _ hne9)).trans f1
              have hOz : wz.ownsRow w.heap.size 3 1 (.slice ay N2 cy) N2 (iC ys) := by have h1 := hCz.lst; unfold OwnI at h1; rw [← hN2] at h1; exact h1
              have hle : w.heap.size ≤ (wz.alloc (.cells #[.int .i64 q] 3)).heap.size := by have := hCz.inn.bl.size; simp; omega
              have hml : N2 + 1 ≤ maxLen := by unfold maxLen; omega
              have hby : (N2 + 1) * 8 ≤ 140737488355328 := by omega
              have hpush := hJ.push hqn hb (by rw [← hq]; exact Sy.Rea.step _ hxe (hJ.rea _ (List.mem_of_getElem? hyp))) (by omega)
              have HZ : Hid _ := And.intro hCz (And.intro hOz (And.intro hwz hwb))
              have HJ : Hid _ := And.intro hpush (And.intro hyp (And.intro hall (And.intro hx (And.intro hq hN2))))
              clear hC hCb hJ hyp hall hx hq hb hN2 hxe hxr hCz hOz hwz hpush hwb hbb hgb
              go_upto_region 12 with fail
              rw [← HZ.out.2.2.2]
              go_upto_region 14 with fail
              rw [← HZ.out.2.2.1]
              go_wp2_with (at_builtin; refine wpList_append_own_at _ rfl _ _ 28 rfl w.heap.size 3 i0 (.int .i64 0) 1 8 Tryd.underlying28 hi0 hz0 hz1 hz2 rfl (by decide) (.slice ay N2 cy) N2 (iC ys) rfl (HZ.out.2.1.alloc _) ⟨wz.heap.size, 0, none⟩ 1 1 [.int .i64 q] rfl rfl (World.news_of_block (cs := #[.int .i64 q]) (t := 3) (fr := (0, 0)) (heap_alloc_new wz _)) (by simp [Value.oneCell']) hml hby hle ?_; intro v5 w5 hO5 hg5 hnil5 hat5; have H2 : Hid _ := And.intro hO5 hg5; clear hO5 hg5 hnil5 hat5)
              go_roundg (M - (k2 + 1))
              case measure => omega
              case rel =>
                have hlen := HJ.out.2.2.2.2.2
                refine ⟨k2 + 1, ys ++ [(q : Int)], ds.set q true, rfl, by omega, by go_num, HZ.out.1.push hlen H2.out.1 (grown_alloc H2.out.2), HJ.out.1, by rw [List.length_append]; omega, by rw [List.getElem?_append_left (by omega)]; exact HJ.out.2.1, fun y hy => ?_⟩
                rw [take_succ_of HJ.out.2.2.2.1] at hy
                rcases List.mem_append.1 hy with hy | hy
                · exact List.mem_append_left _ (HJ.out.2.2.1 y hy)
                · rw [List.mem_singleton.1 hy]; simp only; rw [HJ.out.2.2.2.2.1]; exact List.mem_append_right _ (List.mem_singleton.2 rfl)
          · obtain rfl : k2 = M := by omega
            have k1 : ¬ (k2 : Int) < (k2 : Int) := by omega
            have hI2 := hJ.next hyp fun e he h1 => by
              have h2 : (e.2.1, e.2.2) ∈ Sy.steps (Sy.nf es) p := Sy.steps_mem.2 ((Sy.nf_mem es _).2 (by rw [← h1]; exact he))
              exact hall _ (by rw [List.take_of_length_le (by have := HV.out.2.2; omega)]; exact h2)
            have HJ : Hid _ := And.intro hC (And.intro hI2 hN2)
            clear hC hJ hI2 hyp hall hN2
            go_wp2_with fail
            go_roundg (n - (i + 1))
            case measure => omega
            case rel => exact ⟨i + 1, ys, ds, rfl, by have := HJ.out.2.2; omega, by go_num, HJ.out.1, HJ.out.2.1⟩
      · obtain rfl : i = N := by omega
        have hlst := hC.lst
        obtain ⟨ga, rfl⟩ : ∃ ga, au = some ⟨ga, 0, none⟩ := by
          have h1 : 0 < zs.length := List.length_pos_of_mem hI.st
          obtain ⟨g9, c9, hf, _, _⟩ := World.ownsRow.form hlst (by omega)
          injection hf with e1
          exact ⟨g9, e1⟩
        rw [hN] at hlst
        have hSo := sortI_any wq w.heap.size ga cu zs hlst (by omega)
        rw [← hN] at hSo
        have HI : Hid _ := And.intro hC (And.intro hI (And.intro hN hSo))
        clear hC hI hN hSo hlst
        have q1 : ¬ (i : Int) < (i : Int) := by omega
        go_wp2_with fail
        refine Calls.mono HI.out.2.2.2 ?_
        rintro r w5 ⟨rfl, hO5, hg5⟩
        have H5 : Hid _ := And.intro hO5 hg5
        clear hO5 hg5
        go_wp2_with fail
        go_ret
        have hR5 := HI.out.2.1
        rw [HI.out.2.2.1] at hR5
        have hO := H5.out.1
        rw [Sy.sorted_marked hR5] at hO
        refine ⟨_, ms, rfl, hO, hR5.len, fun p hp => hR5.all p, ?_⟩
        exact HI.out.1.inn.bl.grown H5.out.2 HI.out.1.inn.bl.size fun b e => by
          have h1 := (World.ownsRow.lt HI.out.1.lst b (by rw [← e]; rfl)).1
          exact h1
end Go.Proofs.YtmfcfiiggmkbpaaDoor
/- Contract of the program's Edges. -/
namespace Go.Proofs.YtmfcfiiggmkbpaaDoor
open Go.RowKit Go.Maps
attribute [local go_sem ↓] Go.wp_at_zero Go.wp_at_succ
/-- A state's steps as edges. -/
def Sy.es1 (st : Int) (zs : List BSteps.El) : List Sy.Ed := zs.map fun x => (st, x.1, x.2)
theorem Sy.es1_steps (l : List Sy.Ed) (st : Int) : Sy.es1 st (Sy.steps l st) = l.filter fun e => e.1 == st := by
  unfold Sy.es1 Sy.steps
  rw [List.map_map]
  have h : ∀ e ∈ l.filter (fun e => e.1 == st), ((fun x : BSteps.El => (st, x.1, x.2)) ∘ fun e : Sy.Ed => (e.2.1, e.2.2)) e = e := fun e he => by
    have := (List.mem_filter.1 he).2
    simp at this
    obtain ⟨a, b, c⟩ := e
    simp at this
    simp [this]
  rw [List.map_congr_left h]
  simp
theorem Sy.take_row {l : List Sy.Ed} (h : Sy.Rows l) (st : Int) : l.take (Sy.cnt l st) ++ Sy.es1 st (Sy.steps l st) = l.take (Sy.cnt l (st + 1)) := by
  rw [Sy.es1_steps, Sy.row_piece h st]
  have h1 := Sy.cnt_mono l st
  conv => rhs; rw [show Sy.cnt l (st + 1) = Sy.cnt l st + (Sy.cnt l (st + 1) - Sy.cnt l st) by omega, List.take_add]
theorem Sy.es1_snoc {st : Int} {zs : List BSteps.El} {k : Nat} {x : BSteps.El} (h : zs[k]? = some x) : Sy.es1 st (zs.take (k + 1)) = Sy.es1 st (zs.take k) ++ [(st, x.1, x.2)] := by
  rw [take_succ_of h]
  simp [Sy.es1]
theorem Sy.es1_len (st : Int) (zs : List BSteps.El) : (Sy.es1 st zs).length = zs.length := by simp [Sy.es1]
theorem Sy.take_all {n k s : Int} {es : List Sy.Ed} (h : Sy.right n k s es = true) : (Sy.nf es).take (Sy.cnt (Sy.nf es) n) = Sy.nf es := by
  rw [Sy.cnt_all fun e he => ((right_parts h).2.2.2.2.2 e ((Sy.nf_mem es e).1 he)).2.1, List.take_length]
theorem Sy.take_none {n k s : Int} {es : List Sy.Ed} (h : Sy.right n k s es = true) : (Sy.nf es).take (Sy.cnt (Sy.nf es) 0) = [] := by
  rw [Sy.cnt_none fun e he => by have := ((right_parts h).2.2.2.2.2 e ((Sy.nf_mem es e).1 he)).1; omega]
  rfl
set_option maxRecDepth 100000 in
set_option maxHeartbeats 8000000 in
theorem edges_any {B g bs bb cs cb n : Nat} {k s : Int} {es : List Sy.Ed} (w : World) (h : Gr w B g bs bb cs cb n k s es) : Calls Tryd.prog 14 #[.pointer (some ⟨g, 0, none⟩)] w fun r w' => ∃ u, r = .returned u ∧ BEdges.Own w' w.heap.size u (Sy.nf es) ∧ Below w.heap.size w w' := by
  obtain ⟨i0, hi0, hz0, hz1, hz2⟩ := info_parts BEdges.Tryd.infoE
  have hSt := states_any w h
  have hs := h.sizes
  have HG : Hid _ := And.intro h (And.intro hSt hs)
  have hn : n ≤ 1000 := hs.1
  obtain ⟨l, hl⟩ : ∃ l, l = Sy.nf es := ⟨_, rfl⟩
  have HL : Hid (l = Sy.nf es ∧ Sy.Rows l ∧ l.take (Sy.cnt l 0) = [] ∧ l.take (Sy.cnt l n) = l) := (by rw [hl]; exact ⟨rfl, nf_rows es, Sy.take_none h.right, Sy.take_all h.right⟩ : l = Sy.nf es ∧ Sy.Rows l ∧ l.take (Sy.cnt l 0) = [] ∧ l.take (Sy.cnt l n) = l)
  rw [← hl]
  clear h hSt hs hl
  go_enter Tryd.func14, Tryd.ntmps14
  go_wp2_with (go_at_call 10; refine Calls.mono HG.out.2.1 ?_; rintro r w1 ⟨rfl, hw⟩; obtain rfl := hw.symm)
  go_loopg [3, 9] n (fun q uv iv wr => ∃ st : Nat, q = n - st ∧ st ≤ n ∧ iv = .int .i64 st ∧ BEdges.Own wr w.heap.size uv (l.take (Sy.cnt l (st : Int))) ∧ Below w.heap.size w wr)
  case atStart => exact ⟨0, rfl, Nat.zero_le _, rfl, by show BEdges.Own w w.heap.size _ (l.take (Sy.cnt l 0)); rw [HL.out.2.2.1]; exact World.ownsRow_nil _ _ _ _, Below.refl _ _⟩
  case round =>
    obtain ⟨st, rfl, hst, rfl, hO, hb⟩ := hrel
    obtain ⟨wq, rfl⟩ : ∃ wq, wq = wr := ⟨_, rfl⟩
    by_cases hlt : st < n
    · have hG := HG.out.1.below hb
      obtain ⟨_, _, _, ⟨c0, c1⟩, _, _⟩ := hG.cells
      have hR := hG.row (st : Int)
      have hT := hG.out
      obtain ⟨L, hL⟩ : ∃ L, L = (Sy.nf es).length := ⟨_, rfl⟩
      have hl1 := Sy.steps_len (Sy.nf es) (st : Int)
      have hsz := HG.out.2.2.2
      rw [rowOf_in _ hlt] at hR
      have HR : Hid _ := And.intro hR (And.intro hb (And.intro hO (And.intro hL hT)))
      rw [← hL] at HR c0 hsz hl1
      have r1 : (st : Int) < (n : Int) := by omega
      clear hG hR hb hL hT hO
      go_wp2_with fail
      refine Calls.mono HR.out.1 ?_
      rintro r w1 ⟨v, rfl, hv, hb1⟩
      obtain ⟨av, cv, rfl, _⟩ := hv wq HR.out.2.2.2.2
      obtain ⟨M, hM⟩ : ∃ M, M = (Sy.steps (Sy.nf es) (st : Int)).length := ⟨_, rfl⟩
      rw [← hM]
      rw [← hM] at hv hl1
      have H1 : Hid _ := And.intro hv (And.intro hb1 hM)
      clear hv hb1 hM c0 c1
      go_wp2_with fail
      go_loopg [3, 19] M (fun q uv kv wr => ∃ k2 : Nat, q = M - k2 ∧ k2 ≤ M ∧ kv = .int .i64 k2 ∧ BEdges.Own wr w.heap.size uv (l.take (Sy.cnt l (st : Int)) ++ Sy.es1 st ((Sy.steps l st).take k2)) ∧ Below w.heap.size w wr)
      case atStart =>
        refine ⟨0, rfl, Nat.zero_le _, rfl, ?_, HR.out.2.1.trans (H1.out.2.1.mono HR.out.2.1.size)⟩
        have h1 : l.take (Sy.cnt l (st : Int)) ++ Sy.es1 st ((Sy.steps l st).take 0) = l.take (Sy.cnt l (st : Int)) := by simp [Sy.es1]
        rw [h1]
        exact trow_at HR.out.2.2.1 fun b hb => H1.out.2.1.block b (HR.out.2.2.1.lt b hb).2
      case round =>
        obtain ⟨k2, rfl, hk, rfl, hO, hb⟩ := hrel
        obtain ⟨ys, hys⟩ : ∃ ys, ys = l.take (Sy.cnt l (st : Int)) ++ Sy.es1 st ((Sy.steps l st).take k2) := ⟨_, rfl⟩
        rw [← hys] at hO
        obtain ⟨au, cu, hu⟩ := row_shape hO
        obtain ⟨N, hN⟩ : ∃ N, N = ys.length := ⟨_, rfl⟩
        rw [← hN] at hu
        subst hu
        have hys1 : N ≤ 100000 := by
          have h2 := List.length_take_le (Sy.cnt l (st : Int)) l
          have h3 := Sy.cnt_le l (st : Int)
          have h4 := List.length_take_le k2 (Sy.steps l st)
          have h5 := HG.out.2.2.2
          rw [← HL.out.1] at h5
          rw [hN, hys, List.length_append, Sy.es1_len]
          omega
        by_cases hkm : k2 < M
        · obtain ⟨x, hx⟩ : ∃ x, (Sy.steps l st)[k2]? = some x := ⟨(Sy.steps l st)[k2]'(by have := H1.out.2.2; rw [← HL.out.1] at this; omega), List.getElem?_eq_getElem _⟩
          have hx' := hx
          rw [HL.out.1] at hx'
          obtain ⟨a, rfl, d0, d1⟩ := step_at (H1.out.1 wr (HG.out.1.out.below hb)) hx'
          have hs1 := Sy.es1_snoc (st := (st : Int)) hx
          obtain ⟨x1, x2⟩ := x
          simp only at d0 d1 hs1
          obtain ⟨wb, hwb⟩ : ∃ wb, wb = wr.alloc (.cells #[.int .i64 x1, .int .i64 x2] 51) := ⟨_, rfl⟩
          have hbb : Below wr.heap.size wr wb := by rw [hwb]; exact (Below.refl _ _).alloc (Nat.le_refl _) _
          have hgb : wb.heap[wr.heap.size]? = some (.cells #[.int .i64 x1, .int .i64 x2] 51 (0, 0)) := by rw [hwb]; exact heap_alloc_new wr _
          have f0 : wb.cell? ⟨wr.heap.size, 0, none⟩ = some (.int .i64 x1) := cell0_of hgb rfl
          have f1 : wb.cell? ⟨wr.heap.size, 1, none⟩ = some (.int .i64 x2) := cell0_of hgb rfl
          have hOb : BEdges.Own wb w.heap.size (.slice au N cu) ys := trow_at hO fun b hb => hbb.block b (hO.lt b hb).2
          have hOz : wb.ownsRow w.heap.size 49 3 (.slice au N cu) N (BEdges.C ys) := by have h1 := hOb; unfold BEdges.Own at h1; rw [← hN] at h1; exact h1
          have hbw : Below w.heap.size w wb := hb.trans (hbb.mono hb.size)
          have hle : w.heap.size ≤ (wb.alloc (.cells #[.int .i64 st, .int .i64 x1, .int .i64 x2] 49)).heap.size := by have := hbw.size; simp; omega
          have hml : N + 1 ≤ maxLen := by unfold maxLen; omega
          have hby : (N + 1) * 24 ≤ 140737488355328 := by omega
          have k0 : (0 : Int) ≤ (k2 : Int) := by omega
          have k1 : (k2 : Int) < (M : Int) := by omega
          have HZ : Hid _ := And.intro hOz (And.intro hbw (And.intro hwb (And.intro hys (And.intro hs1 hN))))
          clear hO hOb hOz hbw hwb hbb hgb hys hs1 hN hx hx' hb
          go_upto_region 8 with fail
          rw [← HZ.out.2.2.1]
          go_wp2_with (at_builtin; refine wpList_append_own_at _ rfl _ _ 22 rfl w.heap.size 49 i0 (.agg #[.int .i64 0, .int .i64 0, .int .i64 0]) 3 24 Tryd.underlying22 hi0 hz0 hz1 hz2 rfl (by decide) (.slice au N cu) N (BEdges.C ys) rfl (HZ.out.1.alloc _) ⟨wb.heap.size, 0, none⟩ 1 1 [.int .i64 st, .int .i64 x1, .int .i64 x2] rfl rfl (World.news_of_block (cs := #[.int .i64 st, .int .i64 x1, .int .i64 x2]) (t := 49) (fr := (0, 0)) (heap_alloc_new wb _)) (by simp [Value.oneCell']) hml hby hle ?_; intro v5 w5 hO5 hg5 hnil5 hat5; have H2 : Hid _ := And.intro hO5 hg5; clear hO5 hg5 hnil5 hat5)
          go_roundg (M - (k2 + 1))
          case measure => omega
          case rel =>
            refine ⟨k2 + 1, rfl, by omega, by go_num, ?_, ?_⟩
            · rw [HZ.out.2.2.2.2.1, ← List.append_assoc, ← HZ.out.2.2.2.1]
              unfold BEdges.Own
              rw [BEdges.C_snoc, List.length_append, ← HZ.out.2.2.2.2.2]
              exact H2.out.1
            · exact HZ.out.2.1.trans ((grown_alloc H2.out.2).below HZ.out.2.1.size fun b hb => (HZ.out.1.lt b hb).1)
        · obtain rfl : k2 = M := by omega
          have k1 : ¬ (k2 : Int) < (k2 : Int) := by omega
          have hfull : ys = l.take (Sy.cnt l ((st : Int) + 1)) := by
            have ht : (Sy.steps l st).take k2 = Sy.steps l st := List.take_of_length_le (by have := H1.out.2.2; rw [← HL.out.1] at this; omega)
            rw [hys, ht]
            exact Sy.take_row HL.out.2.1 st
          have HJ : Hid _ := And.intro hO (And.intro hfull (And.intro hb hN))
          clear hO hfull hb hN hys
          go_wp2_with fail
          go_roundg (n - (st + 1))
          case measure => omega
          case rel =>
            refine ⟨st + 1, rfl, by omega, by go_num, ?_, HJ.out.2.2.1⟩
            rw [show (((st + 1 : Nat) : Int)) = (st : Int) + 1 by omega, ← HJ.out.2.1]
            exact HJ.out.1
    · obtain rfl : st = n := by omega
      have r1 : ¬ (st : Int) < (st : Int) := by omega
      rw [HL.out.2.2.2] at hO
      have HJ : Hid _ := And.intro hO hb
      obtain ⟨au, cu, hu⟩ := row_shape hO
      obtain ⟨N, hN⟩ : ∃ N, N = l.length := ⟨_, rfl⟩
      rw [← hN] at hu
      subst hu
      clear hO hb hN
      go_wp2_with fail
      go_ret
      exact ⟨_, rfl, HJ.out.1, HJ.out.2⟩
end Go.Proofs.YtmfcfiiggmkbpaaDoor
/- The program's Cut: plain facts. -/
namespace Go.Proofs.YtmfcfiiggmkbpaaDoor
open Go.RowKit Go.Maps
namespace Sy
theorem marked_snoc {bs : List Bool} {q : Nat} {b : Bool} (h : bs[q]? = some b) : marked (bs.take (q + 1)) = marked (bs.take q) ++ if b = true then [(q : Int)] else [] := by
  have hq := (List.getElem?_eq_some_iff.1 h).1
  unfold marked
  rw [List.length_take, List.length_take, Nat.min_eq_left (by omega), Nat.min_eq_left (by omega), List.range_succ, List.filter_append, List.map_append]
  congr 1
  · congr 1
    refine List.filter_congr fun p hp => ?_
    have := List.mem_range.1 hp
    rw [List.getElem?_take_of_lt (by omega), List.getElem?_take_of_lt (by omega)]
  · cases b
    · simp [List.getElem?_take_of_lt, h]
    · simp [List.getElem?_take_of_lt, h]
theorem marked_len (bs : List Bool) : (marked bs).length = bs.count true := by
  unfold marked
  rw [List.length_map, count_filter]
theorem marked_get (bs : List Bool) : ∀ q, q ≤ bs.length → ∀ (i : Nat) (z : Int), (marked (bs.take q))[i]? = some z → ∃ p : Nat, z = p ∧ p < q ∧ bs[p]? = some true ∧ (bs.take p).count true = i := by
  intro q
  induction q with
  | zero => intro _ i z h; simp [marked] at h
  | succ q ih =>
    intro hq i z h
    obtain ⟨b, hb⟩ : ∃ b, bs[q]? = some b := ⟨bs[q], List.getElem?_eq_getElem _⟩
    rw [marked_snoc hb] at h
    have hl := marked_len (bs.take q)
    by_cases hi : i < (marked (bs.take q)).length
    · rw [List.getElem?_append_left hi] at h
      obtain ⟨p, h1, h2, h3, h4⟩ := ih (by omega) i z h
      exact ⟨p, h1, by omega, h3, h4⟩
    · rw [List.getElem?_append_right (by omega)] at h
      cases b with
      | false => simp at h
      | true =>
        rw [if_pos rfl] at h
        have h1 : i - (marked (bs.take q)).length = 0 := by have := (List.getElem?_eq_some_iff.1 h).1; simpa using this
        rw [h1] at h
        exact ⟨q, (Option.some.inj h).symm, by omega, hb, by omega⟩
theorem marked_at {bs : List Bool} {i : Nat} {z : Int} (h : (marked bs)[i]? = some z) : ∃ p : Nat, z = p ∧ p < bs.length ∧ bs[p]? = some true ∧ (bs.take p).count true = i := by
  refine marked_get bs bs.length (Nat.le_refl _) i z ?_
  rw [List.take_length]
  exact h
theorem ranks_get (bs : List Bool) : ∀ q, q ≤ bs.length → ∀ p, p < q → (ranks (bs.take q))[p]? = some (if bs[p]? = some true then (((bs.take p).count true : Nat) : Int) else -1) := by
  intro q
  induction q with
  | zero => intro _ p hp; omega
  | succ q ih =>
    intro hq p hp
    obtain ⟨b, hb⟩ : ∃ b, bs[q]? = some b := ⟨bs[q], List.getElem?_eq_getElem _⟩
    rw [ranks_take hb]
    have hl : (ranks (bs.take q)).length = q := by rw [ranks_len, List.length_take]; omega
    by_cases h : p < q
    · rw [List.getElem?_append_left (by omega)]
      exact ih (by omega) p h
    · obtain rfl : p = q := by omega
      rw [List.getElem?_append_right (by omega), hl, Nat.sub_self, hb]
      cases b <;> simp
theorem rk_val {bs : List Bool} {p : Nat} (h : p < bs.length) : rk bs (p : Int) = if bs[p]? = some true then (((bs.take p).count true : Nat) : Int) else -1 := by
  have h1 := rk_at h
  have h2 := ranks_get bs bs.length (Nat.le_refl _) p h
  rw [List.take_length] at h2
  rw [h1] at h2
  exact Option.some.inj h2
theorem count_mono (bs : List Bool) {a b : Nat} (h : a ≤ b) : (bs.take a).count true ≤ (bs.take b).count true := by
  obtain ⟨d, rfl⟩ : ∃ d, b = a + d := ⟨b - a, by omega⟩
  rw [List.take_add, List.count_append]
  omega
theorem count_step {bs : List Bool} {p : Nat} (h : bs[p]? = some true) : (bs.take (p + 1)).count true = (bs.take p).count true + 1 := by rw [count_take h]; simp
/-- The numbers after i of the states that stay. -/
def numL (n : Nat) (bs : List Bool) (i : Nat) : List Int := (List.range n).map fun p => if bs[p]? = some true ∧ (bs.take p).count true < i then (((bs.take p).count true : Nat) : Int) else -1
theorem numL_at {n : Nat} {bs : List Bool} {i p : Nat} (h : p < n) : (numL n bs i)[p]? = some (if bs[p]? = some true ∧ (bs.take p).count true < i then (((bs.take p).count true : Nat) : Int) else -1) := by
  unfold numL
  rw [List.getElem?_map, List.getElem?_range h]
  rfl
theorem numL_len (n : Nat) (bs : List Bool) (i : Nat) : (numL n bs i).length = n := by simp [numL]
theorem numL_zero (n : Nat) (bs : List Bool) : numL n bs 0 = List.replicate n (-1) := by
  apply List.ext_getElem?
  intro p
  by_cases h : p < n
  · rw [numL_at h, List.getElem?_replicate, if_pos h, if_neg (by omega)]
  · rw [List.getElem?_eq_none (by rw [numL_len]; omega), List.getElem?_eq_none (by simp; omega)]
theorem one_count {bs : List Bool} {p q : Nat} (hp : bs[p]? = some true) (hq : bs[q]? = some true) (h : (bs.take p).count true = (bs.take q).count true) : p = q := by
  rcases Nat.lt_trichotomy p q with h1 | h1 | h1
  · have := count_step hp; have := count_mono bs (show p + 1 ≤ q by omega); omega
  · exact h1
  · have := count_step hq; have := count_mono bs (show q + 1 ≤ p by omega); omega
theorem numL_set {n : Nat} {bs : List Bool} {i p : Nat} (hp : bs[p]? = some true) (hc : (bs.take p).count true = i) (hn : bs.length = n) : (numL n bs i).set p (i : Int) = numL n bs (i + 1) := by
  have hpn : p < n := by rw [← hn]; exact (List.getElem?_eq_some_iff.1 hp).1
  apply List.ext_getElem?
  intro q
  rw [List.getElem?_set]
  by_cases hq : q < n
  · rw [numL_at hq, numL_at hq]
    by_cases e : p = q
    · subst e
      rw [if_pos rfl, if_pos (by rw [numL_len]; exact hpn), if_pos ⟨hp, by omega⟩, hc]
    · rw [if_neg e]
      congr 1
      by_cases h1 : bs[q]? = some true ∧ (bs.take q).count true < i
      · rw [if_pos h1, if_pos ⟨h1.1, by omega⟩]
      · rw [if_neg h1, if_neg]
        rintro ⟨h2, h3⟩
        have h4 : ¬ (bs.take q).count true < i := fun h => h1 ⟨h2, h⟩
        exact e (one_count hp h2 (by omega))
  · rw [List.getElem?_eq_none (by rw [numL_len]; omega), List.getElem?_eq_none (by rw [numL_len]; omega)]
    split
    · rename_i e; subst e; omega
    · rfl
theorem numL_full {n : Nat} {bs : List Bool} (hn : bs.length = n) : numL n bs (bs.count true) = ranks bs := by
  apply List.ext_getElem?
  intro p
  by_cases h : p < n
  · have h2 := ranks_get bs bs.length (Nat.le_refl _) p (by omega)
    rw [List.take_length] at h2
    rw [numL_at h, h2]
    congr 1
    by_cases h1 : bs[p]? = some true
    · have h3 := count_step h1
      have h4 := count_mono bs (show p + 1 ≤ bs.length by omega)
      rw [List.take_length] at h4
      rw [if_pos ⟨h1, by omega⟩, if_pos h1]
    · rw [if_neg h1, if_neg (fun h => h1 h.1)]
  · rw [List.getElem?_eq_none (by rw [numL_len]; omega), List.getElem?_eq_none (by rw [ranks_len]; omega)]
theorem cutE_app (bs : List Bool) (a b : List Ed) : cutE bs (a ++ b) = cutE bs a ++ cutE bs b := by
  unfold cutE
  rw [List.filter_append, List.map_append]
/-- The edges of a state that stays. -/
def row1 (bs : List Bool) (p : Nat) (zs : List BSteps.El) : List Ed := zs.map fun x => (rk bs (p : Int), x.1, rk bs x.2)
theorem cutE_es1 (bs : List Bool) (p : Nat) (zs : List BSteps.El) : cutE bs (es1 (p : Int) zs) = if bs[p]? = some true then row1 bs p zs else [] := by
  unfold cutE es1 row1
  by_cases h : bs[p]? = some true
  · rw [if_pos h, List.filter_eq_self.2 (fun e he => ?_), List.map_map]
    · rfl
    · obtain ⟨x, _, rfl⟩ := List.mem_map.1 he
      simp [h]
  · rw [if_neg h, List.filter_eq_nil_iff.2 (fun e he => ?_)]
    · rfl
    · obtain ⟨x, _, rfl⟩ := List.mem_map.1 he
      cases hb : bs[p]? with
      | none => simp [hb]
      | some b => cases b
                  · simp [hb]
                  · exact absurd hb h
/-- The edges of the states ahead of p that stay. -/
def upE (bs : List Bool) (l : List Ed) (p : Nat) : List Ed := cutE bs (l.take (cnt l (p : Int)))
theorem upE_step {bs : List Bool} {l : List Ed} (h : Rows l) (p : Nat) : upE bs l (p + 1) = upE bs l p ++ if bs[p]? = some true then row1 bs p (steps l p) else [] := by
  unfold upE
  rw [show (((p + 1 : Nat) : Int)) = (p : Int) + 1 by omega, ← take_row h (p : Int), cutE_app, cutE_es1]
theorem upE_skip {bs : List Bool} {l : List Ed} (h : Rows l) {a : Nat} : ∀ b, a ≤ b → b ≤ bs.length → (bs.take a).count true = (bs.take b).count true → upE bs l a = upE bs l b := by
  intro b
  induction b with
  | zero => intro h1 _ _; rw [show a = 0 by omega]
  | succ b ih =>
    intro h1 h2 h3
    by_cases e : a = b + 1
    · rw [e]
    · have h4 := count_mono bs (show a ≤ b by omega)
      have h5 := count_mono bs (show b ≤ b + 1 by omega)
      rw [upE_step h b, if_neg (fun hb => by have := count_step hb; omega), List.append_nil]
      exact ih (by omega) (by omega) (by omega)
theorem row1_snoc {bs : List Bool} {p : Nat} {zs : List BSteps.El} {k : Nat} {x : BSteps.El} (h : zs[k]? = some x) : row1 bs p (zs.take (k + 1)) = row1 bs p (zs.take k) ++ [(rk bs (p : Int), x.1, rk bs x.2)] := by
  rw [take_succ_of h]
  simp [row1]
theorem row1_len (bs : List Bool) (p : Nat) (zs : List BSteps.El) : (row1 bs p zs).length = zs.length := by simp [row1]
theorem upE_len (bs : List Bool) (l : List Ed) (p : Nat) : (upE bs l p).length ≤ l.length := by
  unfold upE
  have h1 := cutE_len bs (l.take (cnt l (p : Int)))
  have h2 := List.length_take_le (cnt l (p : Int)) l
  have h3 := cnt_le l (p : Int)
  omega
end Sy
end Go.Proofs.YtmfcfiiggmkbpaaDoor
/- What stands in memory while the document's Cut works. -/
namespace Go.Proofs.YtmfcfiiggmkbpaaDoor
open Go.RowKit Go.Maps
/-- The argument's box, the result's, the marks, the numbers. -/
structure CutA (w wr : World) (n k s : Int) (v : Value) (gi ga : Nat) (bs : List Bool) (xs : List Value) : Prop where
  box : wr.heap[w.heap.size]? = some (.cells #[.int .i64 n, .int .i64 k, .int .i64 s, v] 24 (0, 0))
  res : wr.heap[w.heap.size + 1]? = some (.cells #[.int .i64 0, .int .i64 0, .int .i64 0, .slice none 0 0] 24 (0, 0))
  inn : Arr 4 w wr gi (bC bs)
  nums : Arr 3 w wr ga xs
theorem CutA.below {w wr w' : World} {n k s : Int} {v : Value} {gi ga : Nat} {bs : List Bool} {xs : List Value} (h : CutA w wr n k s v gi ga bs xs) (hb : Below wr.heap.size wr w') : CutA w w' n k s v gi ga bs xs :=
  ⟨(hb.block _ (t_lt h.box)).trans h.box, (hb.block _ (t_lt h.res)).trans h.res, h.inn.below hb, h.nums.below hb⟩
theorem CutA.ne {w wr : World} {n k s : Int} {v : Value} {gi ga : Nat} {bs : List Bool} {xs : List Value} (h : CutA w wr n k s v gi ga bs xs) : w.heap.size ≠ ga ∧ w.heap.size + 1 ≠ ga ∧ gi ≠ ga := by
  obtain ⟨c1, h1, _⟩ := h.inn.ids
  obtain ⟨c2, h2, _⟩ := h.nums.ids
  have hB := h.box
  have hR := h.res
  refine ⟨fun e => ?_, fun e => ?_, fun e => ?_⟩
  · rw [e, h2] at hB; exact absurd hB (by simp)
  · rw [e, h2] at hR; exact absurd hR (by simp)
  · rw [e, h2] at h1; exact absurd h1 (by simp)
theorem CutA.set {w wr : World} {n k s : Int} {v : Value} {gi ga : Nat} {bs : List Bool} {xs : List Value} (h : CutA w wr n k s v gi ga bs xs) (i : Nat) (x : Value) : CutA w (wr.setCell ⟨ga, i, none⟩ x) n k s v gi ga bs (xs.set i x) := by
  obtain ⟨e1, e2, e3⟩ := h.ne
  exact ⟨(set_other _ _ _ _ _ e1).trans h.box, (set_other _ _ _ _ _ e2).trans h.res, h.inn.kept (Kept.setCell wr ga i x) fun b hb => ⟨by rw [hb]; exact h.nums.gu, by rw [hb]; exact fun e => e3 e.symm⟩, h.nums.set i x⟩
/-- Beside it: the answer's box, its edges so far, the sorted edges. -/
structure CutT (w w6 wr : World) (n k s : Int) (v : Value) (gi ga bt : Nat) (bs : List Bool) (c : Nat) (st : Int) (uv ul : Value) (M l : List Sy.Ed) : Prop where
  a : CutA w wr n k s v gi ga bs (iC (Sy.ranks bs))
  tb : wr.heap[bt]? = some (.cells #[.int .i64 c, .int .i64 k, .int .i64 st, uv] 24 (0, 0))
  own : BEdges.Own wr w6.heap.size uv M
  lst : BEdges.Own wr w.heap.size ul l
  lo : ∀ b, ul.ownBlock = some b → b < w6.heap.size
  sz : w.heap.size ≤ w6.heap.size ∧ w6.heap.size ≤ wr.heap.size
  hi : w.heap.size + 1 < bt
theorem CutT.grow {w w6 wr w4 : World} {n k s : Int} {v : Value} {gi ga bt : Nat} {bs : List Bool} {c : Nat} {st : Int} {au : Option Addr} {N cu : Nat} {ul : Value} {M l : List Sy.Ed} {g4 k4 : Nat} (h : CutT w w6 wr n k s v gi ga bt bs c st (.slice au N cu) ul M l) (hN : N = M.length) (z : Sy.Ed)
    (hown : w4.ownsRow w6.heap.size 49 3 (.slice (some ⟨g4, 0, none⟩) (N + 1) k4) (N + 1) (BEdges.C M ++ [.int .i64 z.1, .int .i64 z.2.1, .int .i64 z.2.2])) (hk : Kept (fun b => (Value.slice au N cu).ownBlock = some b) wr w4) :
    CutT w w6 (w4.setCell ⟨bt, 3, none⟩ (.slice (some ⟨g4, 0, none⟩) (N + 1) k4)) n k s v gi ga bt bs c st (.slice (some ⟨g4, 0, none⟩) (N + 1) k4) ul (M ++ [z]) l := by
  obtain ⟨c1, h1, _⟩ := h.a.inn.ids
  obtain ⟨c2, h2, _⟩ := h.a.nums.ids
  have nu : ∀ b, (Value.slice au N cu).ownBlock = some b → w.heap.size ≤ b := fun b hb => Nat.le_trans h.sz.1 (h.own.lt b hb).1
  have tb4 := (hk.block _ (t_lt h.tb) (own_bk h.own h.tb (by decide))).trans h.tb
  have a4 : CutA w w4 n k s v gi ga bs (iC (Sy.ranks bs)) :=
    ⟨(hk.block _ (t_lt h.a.box) (own_bk h.own h.a.box (by decide))).trans h.a.box, (hk.block _ (t_lt h.a.res) (own_bk h.own h.a.res (by decide))).trans h.a.res,
      h.a.inn.kept hk fun b hb => ⟨nu b hb, fun e => own_bk h.own h1 (by decide) (by rw [← e]; exact hb)⟩, h.a.nums.kept hk fun b hb => ⟨nu b hb, fun e => own_bk h.own h2 (by decide) (by rw [← e]; exact hb)⟩⟩
  have l4 : BEdges.Own w4 w.heap.size ul l := own_up h.lst hk fun b hb e => by
    have := h.lo b hb
    have := (h.own.lt b e).1
    omega
  have o4 : BEdges.Own w4 w6.heap.size (.slice (some ⟨g4, 0, none⟩) (N + 1) k4) (M ++ [z]) := by
    unfold BEdges.Own
    have e1 : (M ++ [z]).length = N + 1 := by rw [List.length_append, hN]; rfl
    rw [e1, BEdges.C_app]
    exact hown
  have hs := Kept.setCell w4 bt 3 (.slice (some ⟨g4, 0, none⟩) (N + 1) k4)
  obtain ⟨d1, g1, _⟩ := a4.inn.ids
  obtain ⟨d2, g2, _⟩ := a4.nums.ids
  have hbi : bt ≠ gi := fun e => by rw [e, g1] at tb4; exact absurd tb4 (by simp)
  have hba : bt ≠ ga := fun e => by rw [e, g2] at tb4; exact absurd tb4 (by simp)
  have hh := h.hi
  have sz4 := Nat.le_trans h.sz.2 hk.size
  refine ⟨⟨(set_other _ _ _ _ _ (by omega)).trans a4.box, (set_other _ _ _ _ _ (by omega)).trans a4.res, a4.inn.kept hs fun b hb => ⟨by omega, by rw [hb]; exact hbi⟩, a4.nums.kept hs fun b hb => ⟨by omega, by rw [hb]; exact hba⟩⟩, ?_, own_up o4 hs fun b hb e => own_bk o4 tb4 (by decide) (by rw [← e]; exact hb), own_up l4 hs fun b hb e => own_bk l4 tb4 (by decide) (by rw [← e]; exact hb), h.lo, ⟨h.sz.1, Nat.le_trans sz4 hs.size⟩, h.hi⟩
  rw [heap_setCell_same w4 bt 3 _ _ _ tb4]
  rfl
/-- The start's number. -/
def Sy.startOf (n : Nat) (bs : List Bool) (s : Int) : Int := if 0 < n then Sy.rk bs s else 0
theorem cut_fin {w w6 wr : World} {n k s : Int} {v : Value} {gi ga bt i : Nat} {bs : List Bool} {c : Nat} {st : Int} {uv ul : Value} {M l : List Sy.Ed} (h : CutT w w6 wr n k s v gi ga bt bs c st uv ul M l) (hi : bs.length = i) (hsm : i ≤ 1000000) {wf : World} (hwf : wf = ((((wr.setCell ⟨w.heap.size + 1, 0, none⟩ (.int .i64 c)).setCell ⟨w.heap.size + 1, 1, none⟩ (.int .i64 k)).setCell ⟨w.heap.size + 1, 2, none⟩ (.int .i64 st)).setCell ⟨w.heap.size + 1, 3, none⟩ uv)) :
    Below w.heap.size w wf ∧ wf.heap[w.heap.size + 1]? = some (.cells #[.int .i64 c, .int .i64 k, .int .i64 st, uv] 24 (0, 0)) ∧ BEdges.Own wf w.heap.size uv M ∧ OwnI wf w.heap.size (.slice (some ⟨ga, 0, none⟩) i i) (Sy.ranks bs) := by
  subst hwf
  have hrow : wr.ownsRow w.heap.size 3 1 (.slice (some ⟨ga, 0, none⟩) i i) i (iC (Sy.ranks bs)) := by
    have h1 := h.a.nums.own (by rw [iC_length, Sy.ranks_len, hi]; unfold maxLen; omega)
    rw [iC_length, Sy.ranks_len, hi, Nat.mul_one] at h1
    exact h1
  have up : ∀ {e : TypeId} {z : Nat} {x : Value} {N : Nat} {ys : List Value}, e ≠ 24 → wr.ownsRow w.heap.size e z x N ys → ((((wr.setCell ⟨w.heap.size + 1, 0, none⟩ (.int .i64 c)).setCell ⟨w.heap.size + 1, 1, none⟩ (.int .i64 k)).setCell ⟨w.heap.size + 1, 2, none⟩ (.int .i64 st)).setCell ⟨w.heap.size + 1, 3, none⟩ uv).ownsRow w.heap.size e z x N ys := fun he hx => trow_at hx fun b hb => by
    have h2 := own_bk hx h.a.res he
    have e1 : b ≠ w.heap.size + 1 := fun e => h2 (by rw [← e]; exact hb)
    rw [set_other _ _ _ _ _ e1, set_other _ _ _ _ _ e1, set_other _ _ _ _ _ e1, set_other _ _ _ _ _ e1]
  refine ⟨four_below h.a.inn.bl (by omega) _ _ _ _, four_set h.a.res, up (by decide) (row_base h.own h.sz.1), ?_⟩
  unfold OwnI
  rw [Sy.ranks_len, hi]
  exact up (by decide) hrow
end Go.Proofs.YtmfcfiiggmkbpaaDoor
